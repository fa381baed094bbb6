import PyProof.Rows.All
import Wide.All
import OpenK.AllK
import Wide.FinOn
import HandS.ForMost
import HandS.Exc
import HandS.TryOnly
import HandS.ExcOwn
import HandS.WordsExc
import HandS.Codes
import HandS.IsInst
import HandS.Walk
import HandS.AnyAll
import KE.KExcIs
import HandS.ExcInit
import HandS.ExcField
import HandS.ExcIs
import HandS.SetFor
import PyProof.EqAt
import PyProof.NeKinds
import KE.GoesEnum
import HandS.TupAny
import HandS.TupMul
import PyProof.StrOps2
import HandS.FStr
import HandS.More
import HandS.Deep
import PyProof.FString2
import HandS.Style
import HandS.EndTab
import HandS.EndBits
import PySem.Challenge.RW_blindslots_k06_rules_written_and_read
set_option Elab.async false
set_option linter.all false
set_option maxRecDepth 100000
set_option maxHeartbeats 8000000
/-! what every text of ours needs: a def as it stands, its call, the drawing store -/
namespace Vk
open PySem PySem.Spec PyProof.Rows L2
/-- a def of the module's top -/
structure Df (K : PySem.W.Frag) (mg : Str → Option Value) (x : Str) (st : Stmt) (ps : List Str) : Prop where
  ex : ∃ f fd, mg x = some (.ref f) ∧ Fun K x x st f fd ∧ Binds K fd ps []
/-- its promise -/
structure Cl (P : Program) (w : World) (K : PySem.W.Frag) (mg : Str → Option Value) (base : Heap) (CX : CXT) (k : Nat) (x : Str) (ps : List Str) (sp : Sp) : Prop where
  ex : ∃ f fd, mg x = some (.ref f) ∧ PySem.W.keepIn K (.ref f) = true ∧ Binds K fd ps [] ∧ FnOk P w K mg base CX k f fd ps sp
section
variable {P : Program} {w : World} {K : PySem.W.Frag} {mg : Str → Option Value} {base : Heap}
theorem cl0 {x : Str} {st : Stmt} {N ps : List Str} {k : Nat} {sp : Sp} (D : Df K mg x st ps) (S : FnScope N ps (defScope st)) (len : ∀ vs H Q E, sp vs H Q E → vs.length = ps.length)
    (body : ∀ (f : Addr) (cdv : Value) (A : Around) (outer : List Env) (s : Shared) (H : Hp) (vs : List V) (Q : VK) (E : XK), Room k (A.deeper (envOfC x (defScope st) s.heap.objs.size f cdv)) → sp vs H Q E →
      ∃ t, PSs (cxOf CX0 P w K mg base N x (defScope st) f cdv A outer s H E).nox (defBody st) t ∧ t { nx := fun _ H' => Q .non H', rt := Q } (start N vs) H) : Cl P w K mg base CX0 (k + 1) x ps sp := by
  obtain ⟨f, fd, hm, F, b⟩ := D.ex
  exact ⟨f, fd, hm, F.kp, b, F.ok S len (body f)⟩
theorem clX {x : Str} {st : Stmt} {N ps : List Str} {k : Nat} {sp : Sp} (D : Df K mg x st ps) (S : FnScope N ps (defScope st)) (len : ∀ vs H Q E, sp vs H Q E → vs.length = ps.length)
    (body : ∀ (f : Addr) (cdv : Value) (A : Around) (outer : List Env) (s : Shared) (H : Hp) (vs : List V) (Q : VK) (E : XK), Room k (A.deeper (envOfC x (defScope st) s.heap.objs.size f cdv)) → sp vs H Q E →
      ∃ t, PSs (cxOf (L2.CX P w) P w K mg base N x (defScope st) f cdv A outer s H E) (defBody st) t ∧ t { nx := fun _ H' => Q .non H', rt := Q } (start N vs) H) : Cl P w K mg base (L2.CX P w) (k + 1) x ps sp := by
  obtain ⟨f, fd, hm, F, b⟩ := D.ex
  exact ⟨f, fd, hm, F.kp, b, F.okX S len (body f)⟩
end
def tCal (sp : Sp) (t : TA) : TE := fun σ H Q => t σ H fun vs H1 => sp (vs ++ []) H1 Q E0
section
variable {X : Cx}
theorem pc {x : Str} {ps : List Str} {sp : Sp} {j k : Nat} {e : Expr} {es : List Expr} {t : TA} {p pos : Pos} (c : Cl X.prog X.w X.K X.mg X.base CX0 k x ps sp) (hr : Room j X.A) (hk : k ≤ j) (ha : PA X (e :: es) t) (hg : Gl X x := by rfl)
    (hdb : (x == ("__debug__" : Str)) = false := by decide) (he : starEach (e :: es) X.env = (false, eval e X.env) :: starEach es X.env := by rfl) (hpl : (backTo pos (starEach es X.env)).any (·.1) = false := by rfl) :
    PE X (.Call (.Name x p) (e :: es) [] pos) (tCal sp t) := by
  obtain ⟨f, fd, hm, kp, b, F⟩ := c.ex
  exact pe_call F (hr.mono hk) hg hm kp b .nil pass0 ha hdb he hpl
end
/-! ### heaps -/
def NoTbl : HO → Prop
  | .tbl _ => False
  | _ => True
/-- all that was tracked is as it was, but that tables of code objects may have grown -/
structure Same (H H' : Hp) : Prop where
  at_ : ∀ b o, H b = some o → NoTbl o → H' b = some o
  has : ∀ b, H b ≠ none → H' b ≠ none
  tab : ∀ P, GxR.TabG H P → GxR.TabG H' P
theorem Same.at {H H' : Hp} {b : Addr} {o : HO} (s : Same H H') (h : H b = some o) (n : NoTbl o := by exact True.intro) : H' b = some o := s.at_ b o h n
theorem Same.refl (H : Hp) : Same H H := ⟨fun _ _ h _ => h, fun _ h => h, fun _ h => h⟩
theorem Same.trans {H H1 H2 : Hp} (a : Same H H1) (b : Same H1 H2) : Same H H2 := ⟨fun c o h n => b.at_ c o (a.at_ c o h n) n, fun c h => b.has c (a.has c h), fun P h => b.tab P (a.tab P h)⟩
theorem Same.of {H H' : Hp} (h : ∀ b o, H b = some o → H' b = some o) : Same H H' := by
  refine ⟨fun b o e _ => h b o e, fun b e => ?_, fun P ⟨ps, e, t⟩ => ⟨ps, h _ _ e, t⟩⟩
  cases q : H b with
  | none => exact absurd q e
  | some o =>
    rw [h b o q]
    exact fun z => nomatch z
theorem Same.free {H H' : Hp} (e : Same H H') {l : Addr} (h : H' l = none) : H l = none := by
  cases q : H l with
  | none => rfl
  | some o => exact absurd h (e.has l (by rw [q]; exact fun z => nomatch z))
theorem Same.seq {K : PySem.W.Frag} {H H' : Hp} {a : Addr} {xs : List V} (e : Same H H') (h : SqL K H a xs) : SqL K H' a xs := by
  rcases h with (h | ⟨o, h⟩) | h
  · exact .inl (.inl (e.at h))
  · exact .inl (.inr ⟨o, e.at h⟩)
  · exact .inr h
theorem ne_has {H : Hp} {a p : Addr} (h : H a ≠ none) (n : H p = none) : p ≠ a := fun z => h (z ▸ n)
theorem has_of {H : Hp} {a : Addr} {o : HO} (h : H a = some o) : H a ≠ none := by
  rw [h]
  exact fun z => nomatch z
/-- a table grows -/
theorem same_tabbed {P : Addr} {H H' : Hp} (h : GxR.Tabbed P H H') (h0 : GxR.TabG H P) : Same H H' := by
  obtain ⟨⟨ps', e', t'⟩, k⟩ := h
  obtain ⟨ps, e, t⟩ := h0
  refine ⟨fun b o q n => ?_, fun b q => ?_, fun Q hq => ?_⟩
  · by_cases z : b = P
    · rw [z, e] at q
      cases q
      exact False.elim n
    · rw [k b z]
      exact q
  · by_cases z : b = P
    · rw [z, e']
      exact fun z => nomatch z
    · rw [k b z]
      exact q
  · by_cases z : Q = P
    · rw [z]
      exact ⟨ps', e', t'⟩
    · obtain ⟨qs, f, u⟩ := hq
      exact ⟨qs, by rw [k Q z]; exact f, u⟩
/-- the heap without what stands at a -/
def Off (a : Addr) (H : Hp) : Hp := fun b => if b = a then none else H b
theorem off_ne {a b : Addr} {H : Hp} (h : b ≠ a) : Off a H b = H b := if_neg h
theorem off_same {a : Addr} {H : Hp} : Off a H a = none := if_pos rfl
theorem off_some {a b : Addr} {H : Hp} {o : HO} (e : Off a H b = some o) : b ≠ a ∧ H b = some o := by
  by_cases h : b = a
  · rw [h, off_same] at e; cases e
  · exact ⟨h, by rw [off_ne h] at e; exact e⟩
theorem off_sub (a : Addr) (H : Hp) : Same (Off a H) H := .of fun b o e => (off_some e).2
theorem off_mono {a : Addr} {H H' : Hp} (s : Same H H') : Same (Off a H) (Off a H') := by
  refine ⟨fun b o e n => ?_, fun b e => ?_, fun P ⟨ps, e, t⟩ => ?_⟩
  · obtain ⟨h1, h2⟩ := off_some e
    rw [off_ne h1]
    exact s.at_ b o h2 n
  · by_cases h : b = a
    · rw [h, off_same] at e
      exact absurd rfl e
    · rw [off_ne h] at e ⊢
      exact s.has b e
  · obtain ⟨h1, h2⟩ := off_some e
    obtain ⟨qs, f, u⟩ := s.tab P ⟨ps, h2, t⟩
    exact ⟨qs, by rw [off_ne h1]; exact f, u⟩
theorem off_upd {a : Addr} {H : Hp} {o : HO} : Off a (upd H a o) = Off a H := by
  funext b
  by_cases h : b = a
  · rw [h, off_same, off_same]
  · rw [off_ne h, off_ne h, upd_ne h]
theorem same_new {H : Hp} {p : Addr} {o : HO} (h : H p = none) : Same H (upd H p o) := .of fun b u e => by
  rw [upd_ne (ne_of_none e h)]; exact e
theorem same_seqT {K : PySem.W.Frag} {H H' : Hp} {a : Addr} {xs : List V} (e : Same H H') (h : SqT K H a xs) : SqT K H' a xs := by
  rcases h with (h | ⟨o, h⟩) | h
  · exact .inl (.inl (e.at h))
  · exact .inl (.inr ⟨o, e.at h⟩)
  · exact .inr h
mutual
theorem dp_same {K : PySem.W.Frag} {H H' : Hp} (e : Same H H') : ∀ {v : V} {d : PyData}, Dp K H v d → Dp K H' v d
  | _, _, .non => .non
  | _, _, .bl b => .bl b
  | _, _, .int i => .int i
  | _, _, .str x => .str x
  | _, _, .lst h r => .lst (e.seq h) (dps_same e r)
  | _, _, .tup h r => .tup (same_seqT e h) (dps_same e r)
theorem dps_same {K : PySem.W.Frag} {H H' : Hp} (e : Same H H') : ∀ {vs : List V} {ds : List PyData}, DpAll K H vs ds → DpAll K H' vs ds
  | _, _, .nil => .nil
  | _, _, .cons h r => .cons (dp_same e h) (dps_same e r)
end
/-! ### the law's store: cells, next index, digits, all mixed, draws so far (at most n) -/
structure Sto (sc a : Addr) (n : Int) (H : Hp) : Prop where
  ex : ∃ (cs : List Int) (i dg mx c : Int), H a = some (.lst [.ref sc, .int i, .int dg, .int mx, .int c]) ∧ sc ≠ a ∧ H sc = some (.lst (cs.map V.int)) ∧ cs.length ≤ 63 ∧ 0 ≤ i ∧ 0 ≤ dg ∧ 0 ≤ c ∧ c ≤ n
theorem Sto.more {sc a : Addr} {n m : Int} {H : Hp} (s : Sto sc a n H) (h : n ≤ m) : Sto sc a m H := by
  obtain ⟨x2, x3, x4, x5, x6, h1, h2, h3, h4, h5, h6, h7, h8⟩ := s.ex
  exact ⟨x2, x3, x4, x5, x6, h1, h2, h3, h4, h5, h6, h7, by omega⟩
/-- all else stands -/
def Kept (a : Addr) (H H' : Hp) : Prop := Same (Off a H) (Off a H')
theorem Kept.refl (a : Addr) (H : Hp) : Kept a H H := Same.refl _
theorem Kept.trans {a : Addr} {H H1 H2 : Hp} (x : Kept a H H1) (y : Kept a H1 H2) : Kept a H H2 := Same.trans x y
theorem kept_same {a : Addr} {H H' : Hp} (s : Same H H') : Kept a H H' := off_mono s
theorem Sto.same {sc a : Addr} {n : Int} {H H' : Hp} (s : Sto sc a n H) (e : Same H H') : Sto sc a n H' := by
  obtain ⟨x2, x3, x4, x5, x6, h1, h2, h3, h4⟩ := s.ex
  exact ⟨x2, x3, x4, x5, x6, e.at h1, h2, e.at h3, h4⟩
theorem Sto.put {sc a : Addr} {n : Int} {H : Hp} {cs : List Int} {i dg mx c : Int} (hs : sc ≠ a) (hq : H sc = some (.lst (cs.map V.int))) (hl : cs.length ≤ 63) (hi : 0 ≤ i) (hd : 0 ≤ dg) (hc : 0 ≤ c) (hn : c ≤ n) :
    Sto sc a n (upd H a (.lst [.ref sc, .int i, .int dg, .int mx, .int c])) :=
  ⟨cs, i, dg, mx, c, upd_same, hs, by rw [upd_ne hs]; exact hq, hl, hi, hd, hc, hn⟩
/-- another list changes -/
theorem Sto.other {sc a l : Addr} {n : Int} {H : Hp} {o : HO} (s : Sto sc a n H) (h1 : l ≠ a) (h2 : l ≠ sc) : Sto sc a n (upd H l o) := by
  obtain ⟨x2, x3, x4, x5, x6, g1, g2, g3, g4⟩ := s.ex
  exact ⟨x2, x3, x4, x5, x6, by rw [upd_ne h1.symm]; exact g1, g2, by rw [upd_ne h2.symm]; exact g3, g4⟩
theorem Sto.ne {sc a p : Addr} {n : Int} {H : Hp} (s : Sto sc a n H) (h : H p = none) : p ≠ a := by
  obtain ⟨_, _, _, _, _, h1, _⟩ := s.ex
  exact (ne_of_none h1 h).symm
theorem Sto.ne2 {sc a p : Addr} {n : Int} {H : Hp} (s : Sto sc a n H) (h : H p = none) : p ≠ sc := by
  obtain ⟨_, _, _, _, _, _, _, h1, _⟩ := s.ex
  exact (ne_of_none h1 h).symm
theorem kept_put {a : Addr} {H : Hp} {o : HO} : Kept a H (upd H a o) := by unfold Kept; rw [off_upd]; exact Same.refl _
theorem Sto.hasA {sc a : Addr} {n : Int} {H : Hp} (s : Sto sc a n H) : H a ≠ none := by
  obtain ⟨_, _, _, _, _, h1, _⟩ := s.ex
  exact has_of h1
theorem Sto.tab {sc a P : Addr} {n : Int} {H : Hp} (s : Sto sc a n H) (t : GxR.TabG H P) : GxR.TabG (Off a H) P := by
  obtain ⟨_, _, _, _, _, h1, _⟩ := s.ex
  obtain ⟨ps, e, u⟩ := t
  exact ⟨ps, by rw [off_ne (ne_of h1 e (fun z => nomatch z)).symm]; exact e, u⟩
theorem Kept.tab {sc a P : Addr} {n : Int} {H H' : Hp} (k : Kept a H H') (s : Sto sc a n H) (t : GxR.TabG H P) : GxR.TabG H' P := (off_sub a H').tab P (Same.tab k P (s.tab t))
end Vk
namespace Vk
open PySem
def top (i : Nat) : Stmt := PySem.Challenge.pw_blindslots_k06_rules_written_and_read.main.body.getD i (.Pass ⟨0, 0, 0, 0⟩)
abbrev sInteger : Stmt := top 15
abbrev sTupleOf : Stmt := top 16
abbrev sCheck : Stmt := top 19
abbrev sLevel : Stmt := top 20
abbrev sCount : Stmt := top 21
abbrev sShowRule : Stmt := top 24
abbrev sShowCount : Stmt := top 25
abbrev sReadRule : Stmt := top 26
abbrev sReadBoost : Stmt := top 27
abbrev sReadLevel : Stmt := top 28
abbrev sReadCount : Stmt := top 29
abbrev sReadNumber : Stmt := top 30
abbrev sMix : Stmt := top 32
abbrev sStore : Stmt := top 33
abbrev sPick : Stmt := top 34
abbrev sKind : Stmt := top 35
abbrev sNumberL : Stmt := top 36
abbrev sRuleLines : Stmt := top 37
abbrev sGood : Stmt := top 38
abbrev sWordsRead : Stmt := top 39
abbrev sDue : Stmt := top 40
abbrev sSpoiltLine : Stmt := top 41
abbrev sSpoilt : Stmt := top 42
abbrev sRight : Stmt := top 43
abbrev sListRight : Stmt := top 44
abbrev sLaw : Stmt := top 45
end Vk
/-! values as data: kinds, integers, tuples -/
namespace Vk
open PySem PySem.Spec PyProof.Rows L2
def tyN : PyData → String
  | .none => "NoneType"
  | .bool _ => "bool"
  | .int _ => "int"
  | .str _ => "str"
  | .list _ => "list"
  | .tuple _ => "tuple"
  | .dict _ => "dict"
theorem dp_ty {K : PySem.W.Frag} {H : Hp} {v : V} {d : PyData} (h : Dp K H v d) : TyX K H v (.type (tyN d)) := by
  cases h with
  | non => exact .base .non
  | bl b => exact .base (.bl b)
  | int i => exact .base (.int i)
  | str x => exact .base (.str x)
  | lst q _ =>
    rcases q with (q | ⟨o, q⟩) | ⟨o, its, n, hk, hc, _⟩
    · exact .base (.lst q)
    · exact .base (.frz q)
    · exact .kList hk hc
  | tup q _ =>
    rcases q with (q | ⟨o, q⟩) | ⟨o, its, n, hk, hc, _⟩
    · exact .base (.tup q)
    · exact .fTuple q
    · exact .kTuple hk hc
def isIntD : PyData → Bool
  | .bool _ => true
  | .int _ => true
  | _ => false
def isBoolD : PyData → Bool
  | .bool _ => true
  | _ => false
def isTupD : PyData → Bool
  | .tuple _ => true
  | _ => false
def isStrD : PyData → Bool
  | .str _ => true
  | _ => false
section
variable {K : PySem.W.Frag} {H : Hp} {v : V} {d : PyData}
theorem kit_int (h : Dp K H v d) : PySem.W.kitOne K (.type (tyN d)) (.type "int") = some (isIntD d) := by
  cases h with
  | non => exact kit_ty (show kitB "NoneType" "int" = some false by decide +kernel)
  | bl _ => exact kit_ty (show kitB "bool" "int" = some true by decide +kernel)
  | int _ => exact kit_ty (show kitB "int" "int" = some true by decide +kernel)
  | str _ => exact kit_ty (show kitB "str" "int" = some false by decide +kernel)
  | lst _ _ => exact kit_ty (show kitB "list" "int" = some false by decide +kernel)
  | tup _ _ => exact kit_ty (show kitB "tuple" "int" = some false by decide +kernel)
theorem kit_bool (h : Dp K H v d) : PySem.W.kitOne K (.type (tyN d)) (.type "bool") = some (isBoolD d) := by
  cases h with
  | non => exact kit_ty (show kitB "NoneType" "bool" = some false by decide +kernel)
  | bl _ => exact kit_ty (show kitB "bool" "bool" = some true by decide +kernel)
  | int _ => exact kit_ty (show kitB "int" "bool" = some false by decide +kernel)
  | str _ => exact kit_ty (show kitB "str" "bool" = some false by decide +kernel)
  | lst _ _ => exact kit_ty (show kitB "list" "bool" = some false by decide +kernel)
  | tup _ _ => exact kit_ty (show kitB "tuple" "bool" = some false by decide +kernel)
theorem kit_tup (h : Dp K H v d) : PySem.W.kitOne K (.type (tyN d)) (.type "tuple") = some (isTupD d) := by
  cases h with
  | non => exact kit_ty (show kitB "NoneType" "tuple" = some false by decide +kernel)
  | bl _ => exact kit_ty (show kitB "bool" "tuple" = some false by decide +kernel)
  | int _ => exact kit_ty (show kitB "int" "tuple" = some false by decide +kernel)
  | str _ => exact kit_ty (show kitB "str" "tuple" = some false by decide +kernel)
  | lst _ _ => exact kit_ty (show kitB "list" "tuple" = some false by decide +kernel)
  | tup _ _ => exact kit_ty (show kitB "tuple" "tuple" = some true by decide +kernel)
theorem kit_strT (h : Dp K H v d) : PySem.W.kitOne K (.type (tyN d)) (.type "str") = some (isStrD d) := by
  cases h with
  | non => exact kit_ty (show kitB "NoneType" "str" = some false by decide +kernel)
  | bl _ => exact kit_ty (show kitB "bool" "str" = some false by decide +kernel)
  | int _ => exact kit_ty (show kitB "int" "str" = some false by decide +kernel)
  | str _ => exact kit_ty (show kitB "str" "str" = some true by decide +kernel)
  | lst _ _ => exact kit_ty (show kitB "list" "str" = some false by decide +kernel)
  | tup _ _ => exact kit_ty (show kitB "tuple" "str" = some false by decide +kernel)
theorem dp_tuple {ds : List PyData} (h : Dp K H v (.tuple ds)) : ∃ a xs, v = .ref a ∧ SqT K H a xs ∧ DpAll K H xs ds := by
  cases h with
  | tup q r => exact ⟨_, _, rfl, q, r⟩
theorem dp_int {i : Int} (h : Dp K H v (.int i)) : v = .int i := by
  cases h
  rfl
theorem dp_bool {i : Bool} (h : Dp K H v (.bool i)) : v = .bl i := by
  cases h
  rfl
theorem dp_str {i : Str} (h : Dp K H v (.str i)) : v = .str i := by
  cases h
  rfl
theorem dp_none (h : Dp K H v .none) : v = .non := by
  cases h
  rfl
theorem dps_len : ∀ {vs : List V} {ds : List PyData}, DpAll K H vs ds → vs.length = ds.length
  | _, _, .nil => rfl
  | _, _, .cons _ r => congrArg (· + 1) (dps_len r)
theorem dps_get : ∀ {vs : List V} {ds : List PyData} {i : Nat} {d : PyData}, DpAll K H vs ds → ds[i]? = some d → ∃ v, vs[i]? = some v ∧ Dp K H v d
  | _, _, 0, _, .cons h _, e => by cases e; exact ⟨_, rfl, h⟩
  | _, _, i + 1, _, .cons _ r, e => by
    obtain ⟨v, h1, h2⟩ := dps_get r (i := i) (by simpa using e)
    exact ⟨v, by simpa using h1, h2⟩
theorem dps_getV : ∀ {vs : List V} {ds : List PyData} {i : Nat} {v : V}, DpAll K H vs ds → vs[i]? = some v → ∃ d, ds[i]? = some d ∧ Dp K H v d
  | _, _, 0, _, .cons h _, e => by cases e; exact ⟨_, rfl, h⟩
  | _, _, i + 1, _, .cons _ r, e => by
    obtain ⟨v, h1, h2⟩ := dps_getV r (i := i) (by simpa using e)
    exact ⟨v, by simpa using h1, h2⟩
theorem dps_app : ∀ {vs us : List V} {ds es : List PyData}, DpAll K H vs ds → DpAll K H us es → DpAll K H (vs ++ us) (ds ++ es)
  | _, _, _, _, .nil, h => h
  | _, _, _, _, .cons h r, q => .cons h (dps_app r q)
theorem dps_take : ∀ {vs : List V} {ds : List PyData} (n : Nat), DpAll K H vs ds → DpAll K H (vs.take n) (ds.take n)
  | _, _, 0, _ => .nil
  | _, _, n + 1, .nil => .nil
  | _, _, n + 1, .cons h r => .cons h (dps_take n r)
theorem dps_drop : ∀ {vs : List V} {ds : List PyData} (n : Nat), DpAll K H vs ds → DpAll K H (vs.drop n) (ds.drop n)
  | _, _, 0, h => h
  | _, _, n + 1, .nil => .nil
  | _, _, n + 1, .cons h r => dps_drop n r
/-- flat data -/
def flatD : PyData → Bool
  | .none => true
  | .bool _ => true
  | .int _ => true
  | .str _ => true
  | _ => false
theorem dp_flat (h : Dp K H v d) : flatV v = flatD d := by
  cases h <;> rfl
end
/-- an integer from a least one on -/
def integerD (least : Int) : PyData → Bool
  | .int i => decide (least ≤ i)
  | _ => false
def tupleND (n : Int) : PyData → Bool
  | .tuple ds => decide ((ds.length : Int) = n)
  | _ => false
/-! ### their defs' promises -/
def spInteger (K : PySem.W.Frag) : Sp := fun vs H Q _ => ∃ (v : V) (d : PyData) (least : Int), vs = [v, .int least] ∧ Dp K H v d ∧ Q (.bl (integerD least d)) H
def spTupleOf (K : PySem.W.Frag) : Sp := fun vs H Q _ => ∃ (v : V) (d : PyData) (n : Int), vs = [v, .int n] ∧ Dp K H v d ∧ Q (.bl (tupleND n d)) H
structure Blt (mg : Str → Option Value) : Prop where
  len : mg "len" = none
  isi : mg "isinstance" = none
  int : mg "int" = none
  bool : mg "bool" = none
  tuple : mg "tuple" = none
  str : mg "str" = none
  range : mg "range" = none
  enum : mg "enumerate" = none
  list : mg "list" = none
/-- isinstance(e, T), T a built-in type -/
def tIsi (K : PySem.W.Frag) (T : String) (te : TE) : TE := tCB (rIsi K) (tCons te (tCons (tC (.ty T)) tNil))
theorem isi_go {K : PySem.W.Frag} {T : String} {te : TE} {σ : L2.St} {H H1 : Hp} {v : V} {d : PyData} {b : Bool} {Q : VK} (h : ∀ R : VK, R v H1 → te σ H R) (hd : Dp K H1 v d) (k : PySem.W.kitOne K (.type (tyN d)) (.type T) = some b) (q : Q (.bl b) H1) : tIsi K T te σ H Q :=
  h _ ⟨v, .ty T, _, _, b, rfl, .ty T, dp_ty hd, k, q⟩
end Vk
namespace Vk
open PySem PySem.Spec PyProof.Rows L2
section
variable {P : Program} {w : World} {K : PySem.W.Frag} {mg : Str → Option Value} {base : Heap}
/-! ### _law_mix -/
def spMix : Sp := fun vs H Q _ => ∃ (n t : Int), vs = [.int n, .int t] ∧ 0 ≤ t ∧ t ≤ 10000000 ∧ ∀ r : Int, 0 ≤ r → r < 2147483648 → Q (.int r) H
theorem scMix : FnScope ["number", "turn", "value"] ["number", "turn"] (defScope sMix) := ⟨rfl, rfl, rfl, by decide +kernel, rfl, by decide +kernel, by decide +kernel⟩
theorem ok_mix (D : Df K mg "_law_mix" sMix ["number", "turn"]) : Cl P w K mg base CX0 1 "_law_mix" ["number", "turn"] spMix := by
  refine cl0 D scMix (fun vs H Q E h => ?_) (fun f cdv A outer s H vs Q E hr h => ?_)
  · obtain ⟨n, t, rfl, _⟩ := h
    rfl
  · obtain ⟨n, t, rfl, h0, h1, k⟩ := h
    refine ⟨_, pss_cons (ps_set (i := 2) scMix.nd rfl (Or.inl rfl) (pe_op op_mod (pe_op op_add (pe_op op_add (pe_op op_add (pe_op op_mod (pv 0) pe_int) (pe_op op_mul (pe_op op_mul pe_int (pv 1)) (pv 1))) (pe_op op_mul pe_int (pv 1))) pe_int) pe_int))
      (pss_cons (ps_set (i := 2) scMix.nd rfl (Or.inl rfl) (pe_op op_mod (pe_op op_mul (pe_op op_mod (pe_op op_mul (pv 2) (pv 2)) pe_int) (pv 2)) pe_int))
      (pss_one (ps_ret (pe_op op_fdiv (pe_op op_mod (pe_op op_add (pe_op op_mul (pv 2) pe_int) (pv 1)) pe_int) pe_int)))), ?_⟩
    refine ⟨_, rfl, _, _, rfl, rfl, (by show (0 : Int) < 2147483629; decide), _, rfl, _, _, rfl, rfl, .inl (by decide), _, rfl, _, _, rfl, rfl, .inr ⟨by omega, by omega⟩, _, _, rfl, rfl, _, rfl, _, _, rfl, rfl, .inl (by decide), _, _, rfl, rfl, _, _, rfl, rfl, _, _, rfl, rfl, (by show (0 : Int) < 2147483629; decide), ?_⟩
    generalize hv : (n % 2147483629 + 7919 * t * t + 104729 * t + 13) % 2147483629 = v
    have v0 : 0 ≤ v := by rw [← hv]; exact Int.emod_nonneg _ (by decide)
    have v1 : v < 2147483629 := by rw [← hv]; exact Int.emod_lt_of_pos _ (by decide)
    refine ⟨_, rfl, _, rfl, _, _, rfl, rfl, .inl ⟨by omega, by omega⟩, _, _, rfl, rfl, (by show (0 : Int) < 2147483587; decide), _, rfl, _, _, rfl, rfl, .inr ⟨by omega, by omega⟩, _, _, rfl, rfl, (by show (0 : Int) < 2147483563; decide), ?_⟩
    generalize hu : v * v % 2147483587 * v % 2147483563 = u
    have u0 : 0 ≤ u := by rw [← hu]; exact Int.emod_nonneg _ (by decide)
    have u1 : u < 2147483563 := by rw [← hu]; exact Int.emod_lt_of_pos _ (by decide)
    refine ⟨_, rfl, _, _, rfl, rfl, .inl ⟨by omega, by omega⟩, _, rfl, _, _, rfl, rfl, _, _, rfl, rfl, (by show (0 : Int) < 2147483399; decide), _, _, rfl, rfl, ⟨by decide, by decide⟩, ?_⟩
    exact k _ (by omega) (by omega)
/-! ### _law_store -/
def spStore (K : PySem.W.Frag) : Sp := fun vs H Q _ => ∃ (a : Addr) (ns : List Int), vs = [.ref a] ∧ SqL K H a (ns.map V.int) ∧ ns.length ≤ 63 ∧ ∀ (p sc : Addr) (H' : Hp), Same H H' → H p = none → Sto sc p 0 H' → Q (.ref p) H'
theorem scStore : FnScope ["script", "mixed", "cell"] ["script"] (defScope sStore) := ⟨rfl, rfl, rfl, by decide +kernel, rfl, by decide +kernel, by decide +kernel⟩
theorem map_int_get {ns : List Int} {i : Nat} {y : V} (h : (ns.map V.int)[i]? = some y) : ∃ z, ns[i]? = some z ∧ y = V.int z := by
  rw [List.getElem?_map] at h
  cases e : ns[i]? with
  | none => rw [e] at h; cases h
  | some z => rw [e] at h; exact ⟨z, rfl, (Option.some.inj h).symm⟩
theorem cut63 {ns : List Int} (h : ns.length ≤ 63) : cutV (ns.map V.int) none (some 63) = ns.map V.int := by
  have e1 : HT.sIx (ns.map V.int).length 0 none = 0 := rfl
  have e2 : HT.sIx (ns.map V.int).length (ns.map V.int).length (some 63) = min 63 (ns.map V.int).length := HT.sIx_nat _ _ 63
  unfold cutV
  rw [e1, e2, List.drop_zero]
  exact List.take_of_length_le (by rw [List.length_map]; omega)
theorem ok_store (D : Df K mg "_law_store" sStore ["script"]) (len : mg "len" = none) : Cl P w K mg base CX0 1 "_law_store" ["script"] (spStore K) := by
  refine cl0 D scStore (fun vs H Q E h => ?_) (fun f cdv A outer s H vs Q E hr h => ?_)
  · obtain ⟨a, ns, rfl, _⟩ := h
    rfl
  · obtain ⟨a, ns, rfl, hS, hl, k⟩ := h
    refine ⟨_, pss_cons (ps_set (i := 1) scStore.nd rfl (Or.inl rfl) (pe_callB call_len_seq (by rfl) len PySem.boot_len (pa_cons (pv 0) pa_nil)))
      (pss_cons (ps_for PassesOwn.never rfl (pi_list (pe_slice sl_list (pv 0) po_none (po_some pe_int))) (pg_name (i := 2) scStore.nd rfl (Or.inl rfl))
        (pss_one (ps_set (i := 1) scStore.nd rfl (Or.inl rfl) (pe_op op_mod (pe_op op_add (pe_op op_add (pe_op op_mul (pv 1) pe_int) (pe_op op_mod (pv 2) pe_int)) pe_int) pe_int))))
      (pss_one (ps_ret (pe_lst (pa_cons (pe_slice sl_list (pv 0) po_none (po_some pe_int)) (pa_cons pe_int (pa_cons pe_int (pa_cons (pv 1) (pa_cons pe_int pa_nil))))))))), ?_⟩
    refine ⟨_, rfl, a, _, rfl, .inl hS, ?_⟩
    refine ⟨_, rfl, _, rfl, a, _, rfl, hS, fun p hp => ⟨p, rfl, ⟨_, SqL.of upd_same⟩, ?_⟩⟩
    rw [cut63 hl]
    refine for_list (K := K) (a := p) (xs := ns.map V.int) (fun i σ H' => ∃ (m : Int) (v : Option V), σ = [some (.ref a), some (.int m), v] ∧ 0 ≤ m ∧ m < 2147483648 ∧ H' = upd H p (.lst (ns.map V.int)))
      ⟨_, none, rfl, Int.natCast_nonneg _, by rw [List.length_map]; omega, rfl⟩ (fun i σ H' _ ⟨m, v, _, _, _, e⟩ => by rw [e]; exact SqL.of upd_same) ?_ ?_
    · rintro i y σ H' hi ⟨m, v, rfl, m0, m1, rfl⟩
      obtain ⟨z, _, rfl⟩ := map_int_get hi
      refine ⟨_, rfl, _, _, rfl, rfl, .inl ⟨by omega, by omega⟩, _, rfl, _, _, rfl, rfl, (by show (0 : Int) < 1000000007; decide), _, _, rfl, rfl, _, _, rfl, rfl, _, _, rfl, rfl, (by show (0 : Int) < 2147483629; decide), ?_⟩
      refine ⟨_, _, rfl, Int.emod_nonneg _ (by decide), ?_, rfl⟩
      have q := Int.emod_lt_of_pos (m * 16807 + z % 1000000007 + 11) (show (0 : Int) < 2147483629 by decide)
      omega
    · rintro σ H' ⟨m, v, rfl, m0, m1, rfl⟩
      have s1 : Same H (upd H p (.lst (ns.map V.int))) := same_new hp
      refine ⟨_, rfl, _, rfl, a, _, rfl, s1.seq hS, fun q hq => ?_⟩
      rw [cut63 hl]
      have s2 : Same H (upd (upd H p (.lst (ns.map V.int))) q (.lst (ns.map V.int))) := s1.trans (same_new hq)
      refine ⟨_, rfl, (by show 5 ≤ sizeLine; decide), fun r hr' => ?_⟩
      have nq : q ≠ r := ne_of_none upd_same hr'
      refine k r q _ (s2.trans (same_new hr')) ((s2.trans (Same.refl _)).free hr') ?_
      exact Sto.put nq upd_same hl (by decide) (by decide) (by decide) (by decide)
end
end Vk
namespace Vk
open PySem PySem.Spec PyProof.Rows L2
section
variable {P : Program} {w : World} {K : PySem.W.Frag} {mg : Str → Option Value} {base : Heap}
def spPick : Sp := fun vs H Q _ => ∃ (a sc : Addr) (m n : Int), vs = [.ref a, .int m] ∧ 0 < m ∧ m < 1000000000 ∧ Sto sc a n H ∧ n ≤ 1000000 ∧
  ∀ (r : Int) (H' : Hp), 0 ≤ r → r < m → Sto sc a (n + 1) H' → Kept a H H' → Q (.int r) H'
theorem scPick : FnScope ["store", "count", "cell", "digit"] ["store", "count"] (defScope sPick) := ⟨rfl, rfl, rfl, by decide +kernel, rfl, by decide +kernel, by decide +kernel⟩
theorem ok_pick (D : Df K mg "_law_pick" sPick ["store", "count"]) (M : Cl P w K mg base CX0 1 "_law_mix" ["number", "turn"] spMix) (len : mg "len" = none) : Cl P w K mg base CX0 2 "_law_pick" ["store", "count"] spPick := by
  refine cl0 D scPick (fun vs H Q E h => ?_) (fun f cdv A outer s H vs Q E hr h => ?_)
  · obtain ⟨a, sc, m, n, rfl, _⟩ := h
    rfl
  · obtain ⟨a, sc, m, n, rfl, m0, m1, S, n1, k⟩ := h
    refine ⟨_, pss_cons (ps_asg (pe_op op_add (pe_ix ix_list (pv 0) pe_int (fun _ _ => rfl)) pe_int) (pg_sub (pv 0) pe_int set_list))
      (pss_cons (ps_if (PW.pt (pw_and (pt_cmpR op_eq (pe_ix ix_list (pv 0) pe_int (fun _ _ => rfl)) pe_int (nomark _)) (pw_and1 (pt_cmpR op_lt (pe_ix ix_list (pv 0) pe_int (fun _ _ => rfl)) (pe_callB call_len_seq (by rfl) len PySem.boot_len (pa_cons (pe_ix ix_list (pv 0) pe_int (fun _ _ => rfl)) pa_nil)) (nomark _)))))
        (pss_cons (ps_set (i := 2) scPick.nd rfl (Or.inl rfl) (pe_ix ix_list (pe_ix ix_list (pv 0) pe_int (fun _ _ => rfl)) (pe_ix ix_list (pv 0) pe_int (fun _ _ => rfl)) (fun _ _ => rfl)))
        (pss_cons (ps_asg (pe_op op_add (pe_ix ix_list (pv 0) pe_int (fun _ _ => rfl)) pe_int) (pg_sub (pv 0) pe_int set_list))
        (pss_cons (ps_if (pt_cmpR op_lt (pv 2) (pe_op op_pow pe_int pe_int) (nomark _))
          (pss_one (ps_ret (pe_op op_mod (pc M hr (by decide) (pa_cons (pv 2) (pa_cons (pe_ix ix_list (pv 0) pe_int (fun _ _ => rfl)) pa_nil))) (pv 1)))) pss_nil)
        (pss_one (ps_asg (pv 2) (pg_sub (pv 0) pe_int set_list)))))) pss_nil)
      (pss_cons (ps_if (pt_cmpR op_gt (pe_ix ix_list (pv 0) pe_int (fun _ _ => rfl)) pe_int (nomark _))
        (pss_cons (ps_set (i := 3) scPick.nd rfl (Or.inl rfl) (pe_op op_mod (pe_ix ix_list (pv 0) pe_int (fun _ _ => rfl)) (pv 1)))
        (pss_cons (ps_asg (pe_op op_fdiv (pe_ix ix_list (pv 0) pe_int (fun _ _ => rfl)) (pv 1)) (pg_sub (pv 0) pe_int set_list))
        (pss_one (ps_ret (pv 3))))) pss_nil)
      (pss_one (ps_ret (pe_op op_mod (pc M hr (by decide) (pa_cons (pe_ix ix_list (pv 0) pe_int (fun _ _ => rfl)) (pa_cons (pe_ix ix_list (pv 0) pe_int (fun _ _ => rfl)) pa_nil))) (pv 1)))))), ?_⟩
    obtain ⟨cs, i, dg, mx, c, hH, ns, hq, hl, i0, d0, c0, cn⟩ := S.ex
    have fill : ∀ (G : Hp) (i' dg' c' : Int), Off a G = Off a H → 0 ≤ i' → 0 ≤ dg' → 0 ≤ c' → c' ≤ n + 1 → G a = some (.lst [.ref sc, .int i', .int dg', .int mx, .int c']) → Sto sc a (n + 1) G ∧ Kept a H G := fun G i' dg' c' e h1 h2 h3 h4 h5 =>
      ⟨⟨cs, i', dg', mx, c', h5, ns, (off_sub a G).at (by rw [e, off_ne ns]; exact hq), hl, h1, h2, h3, h4⟩, by unfold Kept; rw [e]; exact Same.refl _⟩
    -- store[4] = store[4] + 1
    refine ⟨_, rfl, a, _, _, _, rfl, rfl, SqL.of hH, rfl, _, _, rfl, rfl, _, rfl, a, _, _, _, rfl, rfl, hH, rfl, ?_⟩
    -- the mix at the end
    have fin : ∀ (G : Hp) (i' dg' x r : Int), Off a G = Off a H → 0 ≤ i' → 0 ≤ dg' → G a = some (.lst [.ref sc, .int i', .int dg', .int mx, .int (c + 1)]) → Q (.int (r % m)) G := fun G i' dg' x r e h1 h2 h3 => by
      obtain ⟨s1, s2⟩ := fill G i' dg' (c + 1) e h1 h2 (by omega) (by omega) h3
      exact k _ G (Int.emod_nonneg _ (by omega)) (Int.emod_lt_of_pos _ m0) s1 s2
    have fin2 : ∀ (G : Hp) (i' dg' r : Int), Off a G = Off a H → 0 ≤ i' → 0 ≤ dg' → 0 ≤ r → r < m → G a = some (.lst [.ref sc, .int i', .int dg', .int mx, .int (c + 1)]) → Q (.int r) G := fun G i' dg' r e h1 h2 q1 q2 h3 => by
      obtain ⟨s1, s2⟩ := fill G i' dg' (c + 1) e h1 h2 (by omega) (by omega) h3
      exact k _ G q1 q2 s1 s2
    have hqG : ∀ G : Hp, Off a G = Off a H → SqL K G sc (cs.map V.int) := fun G e => SqL.of ((off_sub a G).at (by rw [e, off_ne ns]; exact hq))
    have oG : ∀ o, Off a (upd H a o) = Off a H := fun o => off_upd
    have oG2 : ∀ o u, Off a (upd (upd H a o) a u) = Off a H := fun o u => by rw [off_upd, off_upd]
    have oG3 : ∀ o u v, Off a (upd (upd (upd H a o) a u) a v) = Off a H := fun o u v => by rw [off_upd, off_upd, off_upd]
    refine ⟨_, rfl, a, _, _, _, rfl, rfl, SqL.of upd_same, rfl, rfl, _, rfl, ?_⟩
    refine ite2 (fun hd => ?_) (fun hd => ?_)
    · have hd0 : dg = 0 := by
        have z := of_decide_eq_true hd
        exact V.int.inj z
      subst hd0
      refine ⟨_, rfl, a, _, _, _, rfl, rfl, SqL.of upd_same, rfl, _, rfl, a, _, _, _, rfl, rfl, SqL.of upd_same, rfl, sc, _, rfl, .inl (hqG _ (oG _)), _, _, rfl, rfl, _, rfl, ?_⟩
      refine ite2 (fun hi => ?_) (fun hi => ?_)
      · have hi0 : i < (cs.map V.int).length := of_decide_eq_true hi
        have hj : i.toNat < cs.length := by rw [List.length_map] at hi0; omega
        have hc : (cs.map V.int)[i.toNat]? = some (V.int cs[i.toNat]) := by rw [List.getElem?_map, List.getElem?_eq_getElem hj]; rfl
        have ha : atI (cs.map V.int) i = some (V.int cs[i.toNat]) := by
          have z := atI_nat hc
          rw [Int.toNat_of_nonneg i0] at z
          exact z
        -- cell = store[0][store[1]]; store[1] = store[1] + 1
        refine ⟨_, rfl, a, _, _, _, rfl, rfl, SqL.of upd_same, rfl, _, rfl, a, _, _, _, rfl, rfl, SqL.of upd_same, rfl, sc, _, _, _, rfl, rfl, hqG _ (oG _), ha, ?_⟩
        refine ⟨_, rfl, a, _, _, _, rfl, rfl, SqL.of upd_same, rfl, _, _, rfl, rfl, _, rfl, a, _, _, _, rfl, rfl, upd_same, rfl, ?_⟩
        -- if cell < 10 ** 18
        refine ⟨_, rfl, _, _, rfl, rfl, ⟨by decide, by decide, by decide⟩, _, _, rfl, rfl, _, rfl, ?_⟩
        refine ite2 (fun hx => ?_) (fun hx => ?_)
        · refine ⟨_, rfl, _, rfl, a, _, _, _, rfl, rfl, SqL.of upd_same, rfl, _, _, rfl, by omega, by omega, fun r r0 r1 => ?_⟩
          exact ⟨_, rfl, _, _, rfl, rfl, m0, fin _ (i + 1) 0 0 r (oG2 _ _) (by omega) (by decide) upd_same⟩
        · have hx0 : ¬ cs[i.toNat] < 10 ^ 18 := fun z => hx (decide_eq_true z)
          -- store[2] = cell
          refine ⟨_, rfl, _, rfl, a, _, _, _, rfl, rfl, upd_same, rfl, ?_⟩
          refine ⟨_, rfl, a, _, _, _, rfl, rfl, SqL.of upd_same, rfl, _, _, rfl, rfl, _, rfl, ?_⟩
          refine ite2 (fun _ => ?_) (fun z => absurd (decide_eq_true (show (0 : Int) < cs[i.toNat] by omega)) z)
          refine ⟨_, rfl, a, _, _, _, rfl, rfl, SqL.of upd_same, rfl, _, rfl, _, _, rfl, rfl, m0, ?_⟩
          refine ⟨_, rfl, a, _, _, _, rfl, rfl, SqL.of upd_same, rfl, _, rfl, _, _, rfl, rfl, ⟨m0, by omega⟩, _, rfl, a, _, _, _, rfl, rfl, upd_same, rfl, ?_⟩
          refine ⟨_, rfl, ?_⟩
          exact fin2 _ (i + 1) (cs[i.toNat] / m) _ (by rw [off_upd, off_upd, off_upd, off_upd]) (by omega) (Int.ediv_nonneg (by omega) (by omega)) (Int.emod_nonneg _ (by omega)) (Int.emod_lt_of_pos _ m0) upd_same
      · refine ⟨_, rfl, a, _, _, _, rfl, rfl, SqL.of upd_same, rfl, _, _, rfl, rfl, _, rfl, ?_⟩
        refine ite2 (fun z => absurd (of_decide_eq_true z) (by decide)) (fun _ => ?_)
        refine ⟨_, rfl, a, _, _, _, rfl, rfl, SqL.of upd_same, rfl, _, rfl, a, _, _, _, rfl, rfl, SqL.of upd_same, rfl, _, _, rfl, by omega, by omega, fun r r0 r1 => ?_⟩
        exact ⟨_, rfl, _, _, rfl, rfl, m0, fin _ i 0 0 r (oG _) i0 (by decide) upd_same⟩
    · have hd0 : ¬ dg = 0 := fun z => hd (decide_eq_true (by rw [z]))
      refine iteF ?_
      refine ⟨_, rfl, a, _, _, _, rfl, rfl, SqL.of upd_same, rfl, _, _, rfl, rfl, _, rfl, ?_⟩
      refine ite2 (fun _ => ?_) (fun z => absurd (decide_eq_true (show (0 : Int) < dg by omega)) z)
      refine ⟨_, rfl, a, _, _, _, rfl, rfl, SqL.of upd_same, rfl, _, rfl, _, _, rfl, rfl, m0, ?_⟩
      refine ⟨_, rfl, a, _, _, _, rfl, rfl, SqL.of upd_same, rfl, _, rfl, _, _, rfl, rfl, ⟨m0, by omega⟩, _, rfl, a, _, _, _, rfl, rfl, upd_same, rfl, ?_⟩
      refine ⟨_, rfl, ?_⟩
      exact fin2 _ i (dg / m) _ (by rw [off_upd, off_upd]) i0 (Int.ediv_nonneg (by omega) (by omega)) (Int.emod_nonneg _ (by omega)) (Int.emod_lt_of_pos _ m0) upd_same
end
end Vk
/-! an exception that its except suite gives to another name: it is tracked from there on -/
namespace Vk
open PySem PySem.Spec PyProof.Rows L2
/-- at a: an exception of the class cls, its dict d -/
def Xco (a : Addr) (cls : Value) (d : Option Addr) : HO := .ext fun h => ∃ (oe : Obj) (vs : Array Value), h.get? a = some oe ∧ Zc cls d oe ∧ oe.data = .fields vs
theorem xco_ok {P : Program} {w : World} {H : Hp} {h : Heap} {a : Addr} {cls : Value} {d : Option Addr} {oe : Obj} {vs : Array Value} (e : h.get? a = some oe) (z : Zc cls d oe) (f : oe.data = .fields vs) : ObjOk P w H h a (Xco a cls d) :=
  ⟨⟨oe, vs, e, z, f⟩, ⟨oe, e⟩, fun _ _ ⟨o, v, q, r⟩ k => ⟨o, v, k o q, r⟩⟩
theorem xco_at {P : Program} {w : World} {H : Hp} {h : Heap} {a : Addr} {cls : Value} {d : Option Addr} (hok : HOk P w H h) (e : H a = some (Xco a cls d)) : ∃ (oe : Obj) (vs : Array Value), h.get? a = some oe ∧ Zc cls d oe ∧ oe.data = .fields vs := by
  have x : ObjOk P w H h a (.ext fun h => ∃ (oe : Obj) (vs : Array Value), h.get? a = some oe ∧ Zc cls d oe ∧ oe.data = .fields vs) := hok a _ e
  exact x.1
section
variable {X : Cx} {pins : List (Addr × Obj)} {σ : L2.St} {H : Hp} {s : Shared}
theorem inv_track {a : Addr} {o : HO} (I : Inv X pins σ H s) (hn : H a = none) (n0 : ∀ ob, X.s_0.heap.get? a = some ob → False) (nL : a ≠ X.env.locals) (nC : ∀ x c, X.env.cells.lookup x = some c → c ≠ a) (nP : ∀ p ∈ X.pn ++ pins, p.1 ≠ a)
    (new : ObjOk X.prog X.w (upd H a o) s.heap a o) : Inv X pins σ (upd H a o) s := by
  have ne : ∀ {b : Addr} {u : HO}, H b = some u → b ≠ a := fun q => ne_of_none q hn
  have b1 : Un X.fs X.ex X.H_0 (upd H a o) X.s_0.heap s.heap := {
      keep := I.base.keep
      slot := I.base.slot
      free := fun b u q n x => by
        have nb : b ≠ a := fun z => by
          rw [z] at q
          exact n0 u q
        rw [upd_ne nb]
        exact I.base.free b u q n x
      there := I.base.there
      tups := fun b xs q => by
        have z := I.base.tups b xs q
        rw [upd_ne (ne z)]
        exact z
      frzs := fun b u xs q => by
        have z := I.base.frzs b u xs q
        rw [upd_ne (ne z)]
        exact z
      tbls := fun b ps q => by
        obtain ⟨m, z⟩ := I.base.tbls b ps q
        exact ⟨m, by rw [upd_ne (ne z)]; exact z⟩ }
  refine ⟨I.ok, I.os, I.bare, b1, I.loc, I.cell, ?_, ?_, ?_, ?_, I.len⟩
  · rw [upd_ne nL.symm]
    exact I.free
  · intro x c q
    rw [upd_ne (nC x c q)]
    exact I.freeC x c q
  · intro p hp
    obtain ⟨h1, h2, h3⟩ := I.pin p hp
    exact ⟨h1, by rw [upd_ne (nP p hp)]; exact h2, h3⟩
  · intro b u q
    by_cases hb : b = a
    · subst hb
      rw [upd_same] at q
      cases q
      exact new
    · rw [upd_ne hb] at q
      refine (I.hok b u q).stay (fun c v _ z => z) (fun c z => ?_) (fun c xs z => ?_)
      · rw [upd_ne (ne z)]
        exact z
      · rw [upd_ne (ne z)]
        exact z
end
/-- what «except C as n: suite» wishes where the suite keeps the exception -/
def wKeep (K : PySem.W.Frag) (c : Value) (i : Nat) (ts : Addr → Value → Option Addr → TS) (D : Ends) : WX := fun cls d σ H =>
  PySem.W.exmOne K cls c = some true ∧ ∀ a, H a = none → ts a cls d { nx := fun σ' H' => H' a = none → D.nx (σ'.set i none) (upd H' a (Xco a cls d)), rt := fun _ _ => False } (σ.set i (some (.ref a))) H
section
variable {X : Cx} {x n : Str} {c : Value} {i : Nat} {body more : List Stmt} {b₀ : Stmt} {np pos pos' : Pos} {tb : WX → TS} {ts : Addr → Value → Option Addr → TS}
theorem ps_try_keep (hs : X.stack = X.env :: X.outer) (hf : X.env.frame = some X.env.locals) (hex : X.ex = []) (hN : X.N.Nodup) (hi : X.N[i]? = some n) (hln : X.env.kindOf n = some .local) (hg : Gl X x) (hm : X.mg x = some c)
    (hdb : (x == ("__debug__" : Str)) = false)
    (hb : ∀ (W : WX) (pn : List (Addr × Obj)) (xe : Value → Shared → Prop), Takes (X.tr pn xe) W → PassesOwn (model X.prog X.w) X.A X.env xe → PSs (X.tr pn xe) body (tb W))
    (hsu : ∀ (a : Addr) (oe : Obj) (cls : Value) (d : Option Addr) (pn : List (Addr × Obj)), Zc cls d oe → (∃ vs, oe.data = .fields vs) → PSs (X.suite a ((a, oe) :: pn)) (b₀ :: more) (ts a cls d)) :
    PS X (.Try body [.ExceptHandler (some (.Name x np)) (some n) (b₀ :: more) pos'] [] [] pos) (fun D σ H => tb (wKeep X.K c i ts D) D σ H) := by
  refine ⟨fun pins s σ H D I h => ?_⟩
  have ok := I.ok
  have frames : X.A.frames = some (X.env :: X.outer) := by rw [ok.frames, hs]
  refine wpAny_Try_except (wpAny_mono ((hb (wKeep X.K c i ts D) (X.pn ++ pins) _ (fun u s2 air => ?_) PassesOwn.looking).run [] s σ H D (I.toTry _) h) (fun f s2 sp => ?_) (fun _ _ z => z))
  · obtain ⟨a, B, sI, pins2, σ2, H2, cls, d, rfl, J2, ground, up, sky, na, os, ag, match1, suite⟩ := air
    have J : Inv X pins σ2 H2 sI := J2.ofTry ok
    have air2 : Sky B (X.env :: X.outer) a (Zc cls d) X.env.locals s2.heap := by rw [← hs]; exact sky
    -- a stands in no frame, and is new
    refine Sky.land Zc.steady frames hf air2 fun h3 fly3 up3 => ?_
    have K3 : Inv X pins σ2 H2 { s2 with heap := h3 } := J.landed ground fly3.1 (up.trans up3) os ag
    obtain ⟨o3, v3, get3, z3, dat3⟩ := fly3.there
    have outFr : a ∉ frs (X.env :: X.outer) := fun hm2 => by
      obtain ⟨_, o4, get4, nf⟩ := fly3.2.2.1.mem hm2
      rw [get3] at get4
      cases get4
      exact nf _ dat3
    have noL : a ≠ X.env.locals := fun z => outFr (List.mem_filterMap.mpr ⟨X.env, List.mem_cons_self, by rw [hf, z]⟩)
    have noF : a ∉ X.fs := fun hm2 => by
      obtain ⟨e, he, q⟩ := List.mem_filterMap.mp hm2
      exact outFr (List.mem_filterMap.mpr ⟨e, List.mem_cons_of_mem _ he, q⟩)
    have outI : ∀ ob, sI.heap.get? a = some ob → False := fun ob q => by
      have z := ground a ob q (by rw [show (X.tr (X.pn ++ pins) _).stack = X.stack from rfl, hs]; exact outFr)
      rw [fly3.2.1] at z
      cases z
    have out0 : ∀ ob, X.s_0.heap.get? a = some ob → False := fun ob q => by
      obtain ⟨o5, z⟩ := J.base.there a ob q (by rw [hex]; exact fun y => nomatch y)
      exact outI _ z
    have noC : ∀ y cc, X.env.cells.lookup y = some cc → cc ≠ a := fun y cc q z => by
      obtain ⟨v, o6, get6, _⟩ := J.cell y cc q
      rw [z] at get6
      exact outI _ get6
    have noP : ∀ p ∈ X.pn ++ pins, p.1 ≠ a := fun p hp z => by
      have q := (J.pin p hp).1
      rw [z] at q
      exact outI _ q
    refine wpAny_handleBy_cons (codeAny_handlers_test ?_) (by intro q; cases q)
    have isC : PySem.W.Looks (model X.prog X.w) h3 (typeOf (.ref a)) cls := fun A2 Q2 E2 s4 kk q => wpAny_typeOf_ref (kk _ _ get3) (by rw [z3.1]; exact q)
    refine ld_glob (X := X.suite a ((a, o3) :: (X.pn ++ pins))) (K3.suite get3 dat3 na noL noF) hg hm ?_ hdb
    refine (PySem.W.exm_one (M := model X.prog X.w) K3.kIn isC match1).here (codeAny_handlers_suite_as ?_)
    refine HandSPX.lands_againZ fly3 fun h4 fly4 up4 => ?_
    have K4 : Inv X pins σ2 H2 { s2 with heap := h4 } := J.landed ground fly4.1 ((up.trans up3).trans up4) os ag
    obtain ⟨o4, v4, get4, z4, dat4⟩ := fly4.there
    refine store_ok (X := X.suite a ((a, o4) :: (X.pn ++ pins))) (v := .ref a) (K4.suite get4 dat4 na noL noF) hN hi (.inl hln) rfl (fun s5 S5 => ?_) (.inr hln)
    refine wpAny_mono ((hsu a o4 cls d (X.pn ++ pins) z4 ⟨_, dat4⟩).run [] s5 _ H2 _ S5 (suite a na)) (fun f s6 sp => ?_) (fun _ _ z => False.elim z)
    cases f with
    | next =>
      obtain ⟨σ6, H6, S6, q6⟩ := sp
      obtain ⟨get6, n6, _⟩ := S6.pin (a, o4) (List.mem_append_left _ List.mem_cons_self)
      have T6 : Inv X pins σ6 (upd H6 a (Xco a cls d)) s6 := inv_track (S6.unsuite ok) n6 out0 noL noC noP (xco_ok get6 z4 dat4)
      exact gone_ok T6 hN hi hln fun s7 T7 => ⟨_, _, T7, q6 n6⟩
    | brk =>
      obtain ⟨_, _, _, z⟩ := sp
      exact False.elim z
    | cont =>
      obtain ⟨_, _, _, z⟩ := sp
      exact False.elim z
    | ret u =>
      obtain ⟨_, _, _, _, _, z⟩ := sp
      exact False.elim z
  · cases f with
    | next =>
      obtain ⟨σ2, H2, J, q⟩ := sp
      exact wpAny_execs_nil ⟨σ2, H2, J.ofTry ok, q⟩
    | brk =>
      obtain ⟨σ2, H2, J, q⟩ := sp
      exact ⟨σ2, H2, J.ofTry ok, q⟩
    | cont =>
      obtain ⟨σ2, H2, J, q⟩ := sp
      exact ⟨σ2, H2, J.ofTry ok, q⟩
    | ret u =>
      obtain ⟨v, σ2, H2, J, r, q⟩ := sp
      exact ⟨v, σ2, H2, J.ofTry ok, r, q⟩
end
/-! ### what is asked of it later -/
theorem xco_inst {X : Cx} {pins : List (Addr × Obj)} {σ : L2.St} {H : Hp} {s : Shared} {a C : Addr} {d : Option Addr} (I : Inv X pins σ H s) (e : H a = some (Xco a (.ref C) d)) (hd : ∀ dd, d = some dd → ∃ fs, H dd = some (.xd fs)) :
    ∃ oe od, PySem.W.InstAt s.heap a oe C od := by
  obtain ⟨⟨oc, odd, dat, sl⟩, vs, get, ⟨z1, z2⟩, f⟩ := xco_at I.hok e
  dsimp only at z1 z2 f
  subst z1 z2 f
  cases odd with
  | none => exact ⟨_, none, get, rfl, rfl, trivial⟩
  | some dd =>
    obtain ⟨fs, hx⟩ := hd dd rfl
    have ok : ObjOk X.prog X.w H s.heap dd (.xd fs) := I.hok dd _ hx
    obtain ⟨mA, ⟨o2, _, _, get2, _⟩, _⟩ := ok
    exact ⟨_, some o2, get, rfl, rfl, get2⟩
/-- isinstance(e, c) of such an exception -/
def rIsX (K : PySem.W.Frag) : List V → Hp → VK → Prop := fun xs H Q => ∃ (a C : Addr) (d : Option Addr) (c : V) (u : Value) (b : Bool), xs = [.ref a, c] ∧ H a = some (Xco a (.ref C) d) ∧ (∀ dd, d = some dd → ∃ fs, H dd = some (.xd fs)) ∧
  ExcC K C ∧ ClsV c u ∧ PySem.W.kitOne K (.ref C) u = some b ∧ Q (.bl b) H
theorem call_isX {X : Cx} : CallR X (.builtin "isinstance") (rIsX X.K) := by
  intro pins s σ H xs us Q I r h
  obtain ⟨a, C, d, c, u, b, rfl, e, hd, T, k, hk, q⟩ := h
  obtain ⟨u1, u2, rfl, r1, r2⟩ := vals2 r
  cases r1
  have e2 := k.eq r2
  subst e2
  obtain ⟨oe, od, inst⟩ := xco_inst I e hd
  have cl : (PySem.W.clsIn X.K C).isSome = true := by
    obtain ⟨cd, hc, _⟩ := PySem.W.any_some T.hd
    rw [hc]
    rfl
  exact PySem.W.kia_one (PySem.W.kitx_exc (od := od) cl T.hg T.hk T.hs T.ha T.hn T.ht T.hm) I.kIn inst hk (fun z => nomatch z) fun tk => ⟨.bl b, H, I.tok tk, rfl, q⟩
/-- e.f of such an exception -/
def tXp (K : PySem.W.Frag) (f : Str) (te : TE) : TE := fun σ H Q => te σ H fun x H1 => ∃ (a C dd : Addr) (fs : List (Str × V)) (v : V), x = .ref a ∧ H1 a = some (Xco a (.ref C) (some dd)) ∧ H1 dd = some (.xd fs) ∧ fs.lookup f = some v ∧
  XfC K C ∧ PySem.W.findIn K (.ref C) f = some none ∧ Q v H1
theorem pe_xp {X : Cx} {e : Expr} {te : TE} {pos : Pos} {n : Str} (he : PE X e te) (hb : attributeBase e n X.env (eval e X.env) = eval e X.env := by rfl) : PE X (.Attribute e n pos) (tXp X.K n te) := by
  refine ⟨fun pins s σ H Q I h => attr_of hb (thn (he.run pins s σ H _ I h) fun u s1 got => ?_)⟩
  obtain ⟨x, H1, I1, rx, a, C, dd, fs, v, rfl, ea, ed, hl, T, hno, q⟩ := got
  cases rx
  obtain ⟨⟨oc, odd, dat, sl⟩, vs, get, ⟨z1, z2⟩, f⟩ := xco_at I1.hok ea
  dsimp only at z1 z2 f
  subst z1 z2 f
  have ok : ObjOk X.prog X.w H1 s1.heap dd (.xd fs) := I1.hok dd _ ed
  obtain ⟨mA, hns, hr⟩ := ok
  obtain ⟨od, ho, look⟩ := lookIn_ns hns
  obtain ⟨y, hy, ry⟩ := RelO.some_of (v := v) (o := mA n) (by rw [← hl]; exact hr n)
  have inst : PySem.W.InstAt s1.heap a ⟨.ref C, some dd, .fields vs, sl⟩ C (some od) := ⟨get, rfl, rfl, ho⟩
  exact HandSPX.exc_get I1.kIn inst T.ga T.gg T.exC (PySem.W.findObj_own T.hdC hno rfl (by rw [look, hy])) (handed_of ry) ⟨v, H1, I1.tok _, ry, q⟩
end Vk
/-! xs.count(y) of flat items -/
namespace Vk
open PySem PySem.Spec PyProof.Rows L2
theorem cnt_flat {y : V} : ∀ {ys : List V} {us : List Value}, Vals ys us → ys.all flatV = true → us.countP (eqU y) = ys.countP (fun z => eqV z y)
  | _, _, .nil, _ => rfl
  | _, _, .cons r t, f => by
    have f2 := Bool.and_eq_true_iff.mp f
    rw [List.countP_cons, List.countP_cons, cnt_flat t f2.2, eqU_of r f2.1]
def rCntV (K : PySem.W.Frag) : V → List V → Hp → VK → Prop := fun x xs H Q => ∃ (p : Addr) (ys : List V) (y : V), x = .ref p ∧ xs = [y] ∧ SqL K H p ys ∧ flatV y = true ∧ ys.all flatV = true ∧ Q (.int (ys.countP (fun z => eqV z y) : Nat)) H
theorem mt_countV {X : Cx} : MtR X "list.count" (rCntV X.K) := by
  intro pins s σ H x xs v us Q I rx rxs h
  obtain ⟨p, ys, y, rfl, rfl, hs, fy, fys, q⟩ := h
  cases rx
  obtain ⟨u, rfl, ru⟩ := rxs.one
  obtain ⟨its, rv, ⟨⟨cls, dd, data, sl⟩, n, ho, hc, hdn, hd⟩, hlen⟩ := I.list hs
  simp only at hc hd
  subst hc hd
  refine call_meets PySem.F.slot_list_count ⟨_, ho, rfl⟩ PySem.F.entry_list_count (PySem.F.args_list_count_2 _ _)
    (SeqAt.list_countAt p its.toArray n dd sl u (eqU y)) ⟨ho, fun z hz => mem_eqAt ru fy rv fys z (by simpa using hz), ?_⟩
  refine ⟨.int (ys.countP (fun z => eqV z y) : Nat), H, I.tok _, ⟨s.toks, ?_⟩, q⟩
  show Value.int ((its.toArray.toList.countP (eqU y) : Nat) : Int) s.toks = _
  rw [show its.toArray.toList = its from rfl, cnt_flat rv fys]
end Vk
/-! raise X(e), X an own error whose __init__ keeps one field -/
namespace Vk
open PySem PySem.Spec PyProof.Rows L2
def spIni (C : Addr) (fld : Str) : Sp := fun vs H Q _ => ∃ (a : Addr) (v : V), vs = [.ref a, v] ∧ H a = some (exo a C none) ∧ ∀ dx, H dx = none → dx ≠ a → Q .non (upd (upd H dx (exd dx [(fld, v)])) a (exo a C (some dx)))
structure ErC (P : Program) (w : World) (K : PySem.W.Frag) (mg : Str → Option Value) (base : Heap) (x fld : Str) (C : Addr) : Prop where
  gC : mg x = some (.ref C)
  oex : OexC K C
  ini : ∃ (fI : Addr) (fd : FuncData), PySem.W.findIn K (.ref C) "__init__" = some (some (.ref fI)) ∧ PySem.W.typeIn K (.ref fI) = some (.type "function") ∧ Binds K fd ["self", fld] [] ∧ FnOk P w K mg base CX0 1 fI fd ["self", fld] (spIni C fld)
def tRaiseE (C : Addr) (fld : Str) (W : WX) (te : TE) : TS := fun _ σ H => tMkO C (spIni C fld) [] (tCons te tNil) σ H fun cls d H' => W cls d σ H'
theorem put_del {H : Hp} {a d : Addr} {o u v x : HO} (ha : H a = none) (hd : H d = none) (ne : d ≠ a) : Same H (upd (del (upd (upd (upd H a o) d u) a v) a) d x) := .of fun b y e => by
  have nb : b ≠ a := ne_of_none e ha
  rw [upd_ne (ne_of_none e hd), del_ne nb, upd_ne nb, upd_ne (ne_of_none e hd), upd_ne nb]
  exact e
section
variable {X : Cx} {x fld : Str} {C : Addr} {W : WX} {e : Expr} {te : TE} {p pos pos2 : Pos} {k : Nat}
theorem ps_raiseE (T : ErC X.prog X.w X.K X.mg X.base x fld C) (hc : X.calm = true) (hr : Room k X.A) (hk : 2 ≤ k) (tk : Takes X W) (he : PE X e te) (hg : Gl X x := by rfl) (hdb : (x == ("__debug__" : Str)) = false := by decide)
    (hs : starEach (e :: []) X.env = (false, eval e X.env) :: starEach [] X.env := by rfl) (hpl : (backTo pos (starEach [] X.env)).any (·.1) = false := by rfl) :
    PS X (.Raise (some (.Call (.Name x p) [e] [] pos)) none pos2) (tRaiseE C fld W te) := by
  obtain ⟨fI, fd, h1, h2, h3, h4⟩ := T.ini
  have big := ps_raise (pos := pos2) hc tk (pmk_oex (p := p) (pos := pos) (CX := CX0) (k := 1) T.oex h1 h2 h4 (hr.mono hk) h3 .nil pass0 hg T.gC (pa_cons he pa_nil hs) hdb hs hpl)
  exact big
end
theorem raise_go {C : Addr} {fld : Str} {v : V} {H1 : Hp} {R : XK} {E : XK} (h : ∀ (d : Addr) (H2 : Hp), Same H1 H2 → H1 d = none → H2 d = some (.xd [(fld, v)]) → R (.ref C) (some d) H2) :
    [v].length ≤ 1000 ∧ ∀ a, H1 a = none → spIni C fld (.ref a :: ([v] ++ [])) (upd H1 a (exo a C none)) (fun u H2 => u = .non ∧ ∃ (d : Addr) (fs : List (Str × V)), H2 a = some (exo a C (some d)) ∧ H2 d = some (exd d fs) ∧ H1 d = none ∧ R (.ref C) (some d) (upd (del H2 a) d (.xd fs))) E := by
  refine ⟨by simp, fun a na => ⟨a, v, rfl, upd_same, fun dx nx ne => ?_⟩⟩
  have n1 : H1 dx = none := by
    rw [upd_ne ne] at nx
    exact nx
  refine ⟨rfl, dx, [(fld, v)], upd_same, by rw [upd_ne ne, upd_same], n1, h dx _ (put_del na n1 ne) n1 upd_same⟩
/-! ### the __init__ -/
structure Nit (K : PySem.W.Frag) (x qual fld : Str) (st : Stmt) (C : Addr) : Prop where
  ex : ∃ (fI : Addr) (fd : FuncData), PySem.W.findIn K (.ref C) "__init__" = some (some (.ref fI)) ∧ PySem.W.typeIn K (.ref fI) = some (.type "function") ∧ Fun K "__init__" qual st fI fd ∧ Binds K fd ["self", fld] []
end Vk
/-! xs == [], t != () -/
namespace Vk
open PySem PySem.Spec PyProof.Rows L2
def rEqNilL (K : PySem.W.Frag) : R2 := fun x y H Q => ∃ p q xs, x = .ref p ∧ y = .ref q ∧ SqL K H p xs ∧ SqL K H q [] ∧ Q (.bl xs.isEmpty) H
def rNeNilL (K : PySem.W.Frag) : R2 := fun x y H Q => ∃ p q xs, x = .ref p ∧ y = .ref q ∧ SqL K H p xs ∧ SqL K H q [] ∧ Q (.bl (!xs.isEmpty)) H
def rNeNilT (K : PySem.W.Frag) : R2 := fun x y H Q => ∃ p q xs, x = .ref p ∧ y = .ref q ∧ SqT K H p xs ∧ SqT K H q [] ∧ Q (.bl (!xs.isEmpty)) H
section
variable {X : Cx}
theorem op_eqNilL (hu : X.A.units < cLine) : OpR X (compareOp .Eq) (rEqNilL X.K) := by
  intro pins s σ H x y v u Q I rx ry h
  obtain ⟨p, q, xs, rfl, rfl, hp, hq, k⟩ := h
  cases rx
  cases ry
  obtain ⟨is1, r1, p1, _⟩ := I.list hp
  obtain ⟨is2, r2, p2, _⟩ := I.list hq
  cases r2
  have l1 := r1.length
  cases xs with
  | nil =>
    cases r1
    exact SeqAt.eq_listAt (e := fun _ => true) p1.isList p2.isList rfl hu (fun j h1 _ => absurd h1 (Nat.not_lt_zero _)) ⟨.bl true, H, I, rfl, k⟩
  | cons x r =>
    cases r1
    exact SeqAt.eq_list_lengthsAt p1.isList p2.isList (by simp) hu ⟨.bl false, H, I, rfl, k⟩
theorem op_neNilL (hu : X.A.units < cLine) : OpR X (compareOp .NotEq) (rNeNilL X.K) := by
  intro pins s σ H x y v u Q I rx ry h
  obtain ⟨p, q, xs, rfl, rfl, hp, hq, k⟩ := h
  cases rx
  cases ry
  obtain ⟨is1, r1, p1, _⟩ := I.list hp
  obtain ⟨is2, r2, p2, _⟩ := I.list hq
  cases r2
  have l1 := r1.length
  cases xs with
  | nil =>
    cases r1
    exact SeqAt.RcNeAt.lists (e := fun _ => true) p1.isList p2.isList rfl hu (fun j h1 _ => absurd h1 (Nat.not_lt_zero _)) _ _ _ _ ⟨.bl false, H, I, rfl, k⟩
  | cons x r =>
    cases r1
    exact SeqAt.RcNeAt.lists_lengths p1.isList p2.isList (by simp) hu _ _ _ _ ⟨.bl true, H, I, rfl, k⟩
theorem op_neNilT (hu : X.A.units < cLine) : OpR X (compareOp .NotEq) (rNeNilT X.K) := by
  intro pins s σ H x y v u Q I rx ry h
  obtain ⟨p, q, xs, rfl, rfl, hp, hq, k⟩ := h
  cases rx
  cases ry
  obtain ⟨is1, r1, p1, _⟩ := I.tuple hp
  obtain ⟨is2, r2, p2, _⟩ := I.tuple hq
  cases r2
  have l1 := r1.length
  have z : (!((List.range (min is1.toArray.size ([] : List Value).toArray.size)).all (fun _ => true) && is1.toArray.size == ([] : List Value).toArray.size)) = !xs.isEmpty := by
    cases xs with
    | nil =>
      cases r1
      rfl
    | cons x r =>
      cases r1
      simp
  refine SeqAt.RcNeAt.tuples (e := fun _ => true) p1 p2 hu (fun j _ h2 => absurd h2 (Nat.not_lt_zero _)) _ _ _ _ ?_
  rw [z]
  exact ⟨.bl (!xs.isEmpty), H, I, rfl, k⟩
end
end Vk
/-! all(lo <= c <= hi for c in text) -/
namespace Vk
open PySem PySem.Spec PyProof.Rows L2 GxR
def between (lo hi : Str) (c : Nat) : Bool := !decide ([c] < lo.cps.toList) && !decide (hi.cps.toList < [c])
theorem elt_between {prog : Program} {w : World} {scope : Scope} {x lo hi : Str} {j1 j2 : Nat} {p1 p2 p3 p4 : Pos} (hk : scope.kind = .function) (hl : scope.names.lookup x = some .local) (hd : (x == ("__debug__" : Str)) = false := by decide) :
    EltP prog w scope x (.Compare (.Constant (.str lo) j1 p1) [.LtE, .LtE] [.Name x p2, .Constant (.str hi) j2 p3] p4) (between lo hi) := by
  intro cenv A' E' c t s₂ m₂ hs hn hm
  refine Compare_chain ?_
  refine Calls.Constant_str (chain_link ?_)
  refine wpAny_Name (wpAny_loadName_local (by rw [hs]; exact hk) (show cenv.scope.names.lookup x = some .local by rw [hs]; exact hl) hn hm ?_) hd
  refine PySem.P.le_str (wpAny_truthy_bool ?_)
  have e1 : (⟨#[c]⟩ : Str).cps.toList = [c] := rfl
  cases h1 : decide ([c] < lo.cps.toList) with
  | true =>
    refine ite_ff ⟨?_, keeps_tok _ _⟩
    unfold between
    rw [h1]
    rfl
  | false =>
    refine ite_tt (chain_last (Calls.Constant_str (PySem.P.le_str ⟨?_, keeps_tok _ _⟩)))
    unfold between
    rw [h1]
    rfl
end Vk
/-! enumerate over a tuple: the pairs are new tuples -/
namespace PySem
set_option maxHeartbeats 4000000 in
theorem vx_enumNew {v : Value} {cell : Obj} {Hh : Heap → Prop} (B : Begins v cell Hh) :
    Meets (Builtin.«enumerate.__new__» ⟨[.type "enumerate", v], []⟩) (fun _ R s => Hh s.heap ∧
      R (.ok (.ret (.ref (s.heap.push cell).objs.size)))
        { s with heap := (s.heap.push cell).push { cls := .type "enumerate", data := .fields #[.none, .bool false, .ref s.heap.objs.size, rawInt 0, .none, .none] } }) :=
  .of_wp fun prog w A R s h => by
    obtain ⟨hp, gs, dr, tk, os⟩ := s
    obtain ⟨hbeg, h⟩ := h
    have subE := sub_enumerate
    have itOf : ∀ {A2 : Around} {E2 : Value → Shared → Prop} {Q2 : Value → Shared → Prop}, Q2 (.ref hp.objs.size) ⟨hp.push cell, gs, dr, tk, os⟩ → wpAny (model prog w) A2 (pyIter v) Q2 E2 ⟨hp, gs, dr, tk, os⟩ :=
      fun q => B.iter prog w _ _ ⟨hp, gs, dr, tk, os⟩ _ hbeg q
    wp_walk using itOf
    refine wpAny_stack_any fun st => wpAny_pure ?_
    split
    · rename_i cc _ _ _ _ _
      cases (cc == Value.type "enumerate") <;> (wp_walk using itOf; exact ⟨_, rfl, h⟩)
    · wp_walk using itOf
      exact ⟨_, rfl, h⟩
section
variable {prog : Program} {w : World} {A : Around} {E : Value → Shared → Prop} {s : Shared}
theorem vx_callEnum {v : Value} {cell : Obj} {Hh : Heap → Prop} {Q : Value → Shared → Prop} (B : Begins v cell Hh) (hbeg : Hh s.heap)
    (h : ∀ h', IsEnum h' (s.heap.objs.size + 1) s.heap.objs.size 0 .none → h'.get? s.heap.objs.size = some cell → (∀ b o, s.heap.get? b = some o → h'.get? b = some o) →
      Q (.ref (s.heap.objs.size + 1)) { s with heap := h' }) :
    wpAny (model prog w) A (call (.type "enumerate") [v]) Q E s := by
  refine callType_new F.called_enumerate (by decide) (F.typeCall_enumerate_1 _) (F.newCall_enumerate_1 _) (fun obj => F.args_object_init_2 obj _) F.entry_enumerate_new
    (vx_enumNew B) ⟨hbeg, ?_⟩
  have sz : (s.heap.push cell).objs.size = s.heap.objs.size + 1 := Heap.size_push ..
  show _ ∧ _
  rw [sz]
  have en : IsEnum ((s.heap.push cell).push { cls := .type "enumerate", data := .fields #[.none, .bool false, .ref s.heap.objs.size, rawInt 0, .none, .none] }) (s.heap.objs.size + 1) s.heap.objs.size 0 .none := by
    have got := Heap.get?_push_size (s.heap.push cell) (o := { cls := .type "enumerate", data := .fields #[.none, .bool false, .ref s.heap.objs.size, rawInt 0, .none, .none] }) rfl
    rw [sz] at got
    exact got
  exact ⟨⟨_, en, rfl⟩, h _ en (Heap.get?_push_of_some _ (Heap.get?_push_size _ B.free)) fun b o x => Heap.get?_push_of_some _ (Heap.get?_push_of_some _ x)⟩
end
end PySem
namespace L2
open PySem PySem.Spec PyProof.Rows
/-- what enumerate gives over the tuple at a: its items in new pairs -/
def IteT (K : PySem.W.Frag) (a : Addr) : It :=
  ⟨fun i H => ∃ (ys : List V) (y : V), SqT K H a ys ∧ ys[i]? = some y, fun i H v H' => ∃ T y, v = .ref T ∧ H T = none ∧ H' = upd H T (.tup [.int (i : Nat), y]) ∧ ∀ ys, SqT K H a ys → ys[i]? = some y,
    fun i H => ∃ ys : List V, SqT K H a ys ∧ ys.length = i⟩
theorem vx_turn {P : Program} {w : World} {K : PySem.W.Frag} {elts : List Expr} {kk : Nat} {tpos : Pos} (a e it : Addr) :
    Turn P w K (.Tuple elts kk tpos) (IteT K a) [e, it] e (fun i h => (∃ old, IsEnum h e it ((i : Nat) : Int) old) ∧ h.IsTupleIter it a i ∧ e ≠ it ∧ a ≠ it ∧ e ≠ a) where
  mem := List.mem_cons_self
  obj := fun i h st b hb => by
    obtain ⟨⟨old, en⟩, ⟨o, ho, hc, hd⟩, _⟩ := st
    have two : b = e ∨ b = it := by simpa using hb
    rcases two with z | z
    · subst z
      exact ⟨_, en, fun v q => nomatch q⟩
    · subst z
      exact ⟨o, ho, fun v q => by rw [hd] at q; cases q⟩
  keep := fun i h h' st k => by
    obtain ⟨⟨old, en⟩, hi, r⟩ := st
    exact ⟨⟨old, k e (by simp) _ en⟩, hi.at fun o q => k it (by simp) o q, r⟩
  item := by
    intro X hP hw hK hc i pins s σ H E I hf st hg
    subst hP hw hK
    obtain ⟨⟨old, en⟩, hit, nei, nai, nea⟩ := st
    obtain ⟨ys, y, hq, hy⟩ := hg
    obtain ⟨its, rv, p, _⟩ := I.tuple hq
    obtain ⟨u, hu, ru⟩ := rv.get hy
    have le : e < s.heap.objs.size := Heap.lt_size en
    have li : it < s.heap.objs.size := by obtain ⟨_, q, _⟩ := hit; exact Heap.lt_size q
    have hin : X.A.in1.handled = none := I.ok.hd hc
    have ilt : i < its.toArray.size := by
      have z := (List.getElem?_eq_some_iff.mp hu).1
      rw [List.size_toArray]
      exact z
    refine wpAny_pyNext_enum_itemD (Draws.tuple hin it a nai its.toArray) en ⟨hit, p⟩ ilt nei (by simp [nei, nea]) fun x h2 tk hx eo st2 hT hsz hk => ?_
    have ex : x = u := by
      have z : its.toArray[i]? = some x := hx
      rw [List.getElem?_toArray, hu] at z
      exact (Option.some.inj z).symm
    subst ex
    refine ⟨_, rfl, wpAny_letOwnedTupleGo_enum (s := { s with heap := h2, toks := tk + 1 }) eo fun h3 he3 sb => ?_⟩
    have hT3 : h3.get? s.heap.objs.size = some { cls := .type "tuple", data := .seq #[.int i tk, x] } := (sb.2 _ (Nat.ne_of_gt le)).trans hT
    have new : ObjOk X.prog X.w (upd H s.heap.objs.size (.tup [.int (i : Nat), y])) h3 s.heap.objs.size (.tup [.int (i : Nat), y]) :=
      ⟨(by show 2 ≤ sizeLine; decide), [.int i tk, x], .cons ⟨_, rfl⟩ (.cons ru .nil), ⟨_, hT3, rfl, _, rfl⟩⟩
    have J : Inv X pins σ (upd H s.heap.objs.size (.tup [.int (i : Nat), y])) { s with heap := h3, toks := tk + 1 } :=
      I.turnedNew (ch := [e, it]) (fun b ob hb q => by
        have n1 : b ≠ e := fun z => hb (by simp [z])
        have n2 : b ≠ it := fun z => hb (by simp [z])
        exact (sb.2 b n1).trans (hk b ob n1 n2 q)) hf (Nat.le_refl _) new
    refine ⟨.ref s.heap.objs.size, _, J, rfl, ⟨_, y, rfl, I.hok.fresh (Nat.le_refl _), rfl, fun zs hz => by rw [I.tuple_inj hz hq]; exact hy⟩, ⟨⟨x, ?_⟩, st2.1.at fun o q => (sb.2 it (Ne.symm nei)).trans q, nei, nai, nea⟩, fun b hb => ?_⟩
    · have en2 : ((i + 1 : Nat) : Int) = (i : Int) + 1 := by omega
      rw [en2]
      exact he3
    · have lb : b < s.heap.objs.size := by
        have two : b = e ∨ b = it := by simpa using hb
        rcases two with z | z
        · rw [z]; exact le
        · rw [z]; exact li
      rw [upd_ne (Nat.ne_of_lt lb)]
      exact (hf b hb).1
  done := by
    intro X hP hw hK hc i pins s σ H E I hf st hg
    subst hP hw hK
    obtain ⟨⟨old, en⟩, hit, nei, nai, nea⟩ := st
    obtain ⟨ys, hq, hy⟩ := hg
    obtain ⟨its, rv, p, _⟩ := I.tuple hq
    obtain ⟨f0, f1, f2, f3, f4, f5⟩ := hf it (by simp)
    have hl := rv.length
    have hi : i = its.toArray.size := by rw [List.size_toArray]; omega
    subst hi
    have hin : X.A.in1.handled = none := I.ok.hd hc
    exact wpAny_pyNext_enum_endD (Draws.tuple hin it a nai its.toArray) en ⟨hit, p⟩ fun h2 eb => ⟨rfl, I.turned (t' := s.toks) (fun b o hb q => eb b o hb q) f0 f1 f3 f4 f5⟩
  self := fun A i s Q E st h => by
    obtain ⟨⟨_, en⟩, _⟩ := st
    exact wpAny_pyIter_enum en h
def iEnumT (K : PySem.W.Frag) (ta : TA) : TI := fun σ H R => ta σ H fun vs H1 => ∃ a ys, vs = [.ref a] ∧ SqT K H1 a ys ∧ R (IteT K a) H1
theorem pi_enumT {X : Cx} {e : Expr} {ta : TA} {p pos tpos : Pos} {elts : List Expr} {kk : Nat} (hm : X.mg "enumerate" = none) (ha : PA X [e] ta) (hg : Gl X "enumerate" := by rfl) (hs : starEach [e] X.env = [(false, eval e X.env)] := by rfl) :
    PI X (.Tuple elts kk tpos) (.Call (.Name "enumerate" p) [e] [] pos) (iEnumT X.K ta) := by
  refine ⟨fun pins s σ H R I h => ?_⟩
  refine Call_ (ld_blt I hg hm boot_enumerate (PyProof.Rows.callWith_type1 (thn (ha.run pos pins s σ H _ I h) fun us s1 ⟨vs, H1, I1, r1, q1⟩ => ?_) hs rfl))
  obtain ⟨a, ys, ex, hq, q⟩ := q1
  subst ex
  cases r1 with
  | cons r rr =>
    cases rr
    cases r
    obtain ⟨its, rv, p2, _⟩ := I1.tuple hq
    have la : a < s1.heap.objs.size := by obtain ⟨_, z, _⟩ := p2; exact Heap.lt_size z
    refine vx_callEnum (begins_tuple a its.toArray) p2 fun h2 he hit hk => wpAny_pyIter_enum he ?_
    have I2 : Inv X pins σ H1 { s1 with heap := h2 } := I1.kept (t' := s1.toks) hk
    refine ⟨s1.heap.objs.size + 1, [s1.heap.objs.size + 1, s1.heap.objs.size], _, _, H1, rfl, I2, vx_turn a (s1.heap.objs.size + 1) s1.heap.objs.size,
      ⟨⟨.none, he⟩, ⟨_, hit, rfl, rfl⟩, Nat.succ_ne_self _, Nat.ne_of_lt la, Nat.ne_of_gt (Nat.lt_succ_of_lt la)⟩, fun b hb => ?_, q⟩
    have two : b = s1.heap.objs.size + 1 ∨ b = s1.heap.objs.size := by simpa using hb
    have hle : s1.heap.objs.size ≤ b := by
      rcases two with z | z
      · rw [z]; exact Nat.le_succ _
      · rw [z]; exact Nat.le_refl _
    exact I1.fpOk hle (I1.hok.fresh hle)
/-- turn by turn, the tuple standing still -/
theorem walk_enumT {K : PySem.W.Frag} {a : Addr} {xs : List V} : Walk (IteT K a) xs.length (fun H => SqT K H a xs) (YPair (fun i => some (.int (i : Nat))) (fun i => xs[i]?)) := by
  refine ⟨fun i _ hi q => ⟨xs, xs[i], q, by simp [hi]⟩, fun _ q => ⟨xs, q, rfl⟩, fun i H v H' _ q y => ?_⟩
  obtain ⟨T, x, h1, h2, h3, h4⟩ := y
  exact ⟨T, .int (i : Nat), x, h1, h2, h3, rfl, h4 xs q⟩
end L2
/-! data beside the store: new tuples, lists, sums, slices -/
namespace Vk
open PySem PySem.Spec PyProof.Rows L2
theorem off_at {a p : Addr} {H : Hp} {o : HO} (h : H p = some o) (n : p ≠ a) : Off a H p = some o := by
  rw [off_ne n]
  exact h
theorem Kept.at {a p : Addr} {H H' : Hp} {o : HO} (k : Kept a H H') (h : H p = some o) (n : p ≠ a) (u : NoTbl o := by exact True.intro) : H' p = some o := (off_some (Same.at_ k _ _ (off_at h n) u)).2
theorem off_other {a p : Addr} {H : Hp} {o : HO} (h : p ≠ a) : Off a (upd H p o) = upd (Off a H) p o := by
  funext b
  by_cases h1 : b = a
  · subst h1
    rw [off_same, upd_ne h.symm, off_same]
  · rw [off_ne h1]
    by_cases h2 : b = p
    · subst h2
      rw [upd_same, upd_same]
    · rw [upd_ne h2, upd_ne h2, off_ne h1]
section
variable {K : PySem.W.Frag} {a p : Addr} {G : Hp} {vs : List V} {ds : List PyData} {o : HO}
theorem new_tup (hA : G a ≠ none) (np : G p = none) (h : DpAll K (Off a G) vs ds) : Dp K (Off a (upd G p (.tup vs))) (.ref p) (.tuple ds) := by
  have pa : p ≠ a := ne_has hA np
  exact .tup (SqT.of (by rw [off_ne pa, upd_same])) (dps_same (off_mono (same_new np)) h)
theorem new_lst (hA : G a ≠ none) (np : G p = none) (h : DpAll K (Off a G) vs ds) : Dp K (Off a (upd G p (.lst vs))) (.ref p) (.list ds) := by
  have pa : p ≠ a := ne_has hA np
  exact .lst (SqL.of (by rw [off_ne pa, upd_same])) (dps_same (off_mono (same_new np)) h)
theorem dp_up {H H' : Hp} {v : V} {d : PyData} (s : Same H H') (h : Dp K (Off a H) v d) : Dp K (Off a H') v d := dp_same (off_mono s) h
theorem dps_up {H H' : Hp} {v : List V} {d : List PyData} (s : Same H H') (h : DpAll K (Off a H) v d) : DpAll K (Off a H') v d := dps_same (off_mono s) h
theorem dp_on {H : Hp} {v : V} {d : PyData} (h : Dp K (Off a H) v d) : Dp K H v d := dp_same (off_sub a H) h
theorem atI_mem {xs : List V} {r : Int} (h0 : 0 ≤ r) (h1 : r < xs.length) : ∃ x, atI xs r = some x ∧ x ∈ xs := by
  have hj : r.toNat < xs.length := by omega
  have z := atI_nat (List.getElem?_eq_getElem hj)
  rw [Int.toNat_of_nonneg h0] at z
  exact ⟨_, z, List.getElem_mem hj⟩
theorem atI_dp {H : Hp} {xs : List V} {es : List PyData} {r : Int} (d : DpAll K H xs es) (h0 : 0 ≤ r) (h1 : r < es.length) : ∃ x e, atI xs r = some x ∧ es[r.toNat]? = some e ∧ Dp K H x e := by
  have hl := dps_len d
  have hj : r.toNat < es.length := by omega
  obtain ⟨x, hx, dx⟩ := dps_get d (List.getElem?_eq_getElem hj)
  have z := atI_nat hx
  rw [Int.toNat_of_nonneg h0] at z
  exact ⟨x, _, z, List.getElem?_eq_getElem hj, dx⟩
theorem cat_go {H : Hp} {x y : V} {ds es : List PyData} {Q : VK} (hA : H a ≠ none) (hx : Dp K (Off a H) x (.tuple ds)) (hy : Dp K (Off a H) y (.tuple es)) (hl : ds.length + es.length ≤ 1000)
    (k : ∀ z H', Same H H' → Dp K (Off a H') z (.tuple (ds ++ es)) → Q z H') : rCatA K x y H Q := by
  obtain ⟨p, xs, rfl, qx, rx⟩ := dp_tuple hx
  obtain ⟨q, ys, rfl, qy, ry⟩ := dp_tuple hy
  have l1 := dps_len rx
  have l2 := dps_len ry
  refine ⟨p, q, xs, ys, rfl, rfl, same_seqT (off_sub a H) qx, same_seqT (off_sub a H) qy, Nat.le_trans (show xs.length + ys.length ≤ 1000 by omega) (by decide), fun e => ?_, fun _ e => ?_, fun _ _ t nt => ?_⟩
  · subst e
    have e2 : ds = [] := List.eq_nil_of_length_eq_zero l1.symm
    subst e2
    exact k _ H (Same.refl H) hy
  · subst e
    have e2 : es = [] := List.eq_nil_of_length_eq_zero l2.symm
    subst e2
    rw [List.append_nil] at k
    exact k _ H (Same.refl H) hx
  · exact k _ _ (same_new nt) (new_tup hA nt (dps_app rx ry))
theorem slice_go {H : Hp} {x : V} {ds : List PyData} {lo hi : Option Int} {Q : VK} (hA : H a ≠ none) (hx : Dp K (Off a H) x (.tuple ds))
    (k : ∀ z H', Same H H' → Dp K (Off a H') z (.tuple ((ds.drop (HT.sIx ds.length 0 lo)).take (HT.sIx ds.length ds.length hi - HT.sIx ds.length 0 lo))) → Q z H') : rSlA K x lo hi H Q := by
  obtain ⟨p, xs, rfl, qx, rx⟩ := dp_tuple hx
  have l1 := dps_len rx
  refine ⟨p, xs, rfl, same_seqT (off_sub a H) qx, fun w => ?_, fun _ t nt => ?_⟩
  · rw [l1] at w
    have z := k (.ref p) H (Same.refl H)
    rw [w.1, w.2, List.drop_zero, Nat.sub_zero, List.take_length] at z
    exact z hx
  · refine k _ _ (same_new nt) (new_tup hA nt ?_)
    unfold cutV
    rw [l1]
    exact dps_take _ (dps_drop _ rx)
theorem dps_rep {H : Hp} {xs : List V} {es : List PyData} (d : DpAll K H xs es) : ∀ n : Nat, DpAll K H (List.replicate n xs).flatten (List.replicate n es).flatten
  | 0 => .nil
  | n + 1 => by
    rw [List.replicate_succ, List.replicate_succ, List.flatten_cons, List.flatten_cons]
    exact dps_app d (dps_rep d n)
end
end Vk
/-! text * number -/
namespace Vk
open PySem PySem.Spec PyProof.Rows L2
def repS (z : Str) (k : Nat) : Str := ⟨(List.replicate k z.cps).foldl (· ++ ·) #[]⟩
def rRepS : R2 := fun x y H Q => ∃ (z : Str) (k : Nat), x = .str z ∧ y = .int (k : Int) ∧ 2 ≤ k ∧ k ≤ 1000 ∧ 1 ≤ z.length ∧ z.length * k ≤ 1000 ∧ (repS z k).length ≤ sizeLine ∧ Q (.str (repS z k)) H
theorem op_rep_str {X : Cx} : OpR X (binaryOp .Mult) rRepS := by
  intro pins s σ H x y v u Q I rx ry h
  obtain ⟨z, k, rfl, rfl, k2, k1000, z1, zk, hl, q⟩ := h
  obtain ⟨t, rfl⟩ := rx
  obtain ⟨t', rfl⟩ := ry
  refine PySem.P.mul_str ?_ (fun _ _ => ?_) (fun _ _ => ?_) ?_
  · rw [decide_eq_false (by omega), decide_eq_false (by omega)]
    rfl
  · have z2 : z.length ≤ 1000 := by
      have := Nat.le_mul_of_pos_right z.length (show 0 < k by omega)
      omega
    have h3 : (1000 : Int) ≤ (2 ^ 63 - 1) / (k : Int) := by
      rw [Int.le_ediv_iff_mul_le (by omega)]
      omega
    omega
  · show decide _ = false
    refine decide_eq_false ?_
    have e : (k : Int).toNat = k := Int.toNat_natCast k
    rw [e]
    have : sizeLine = 16777216 := by decide
    omega
  · rw [if_neg (by omega), if_neg (by simp; omega)]
    rw [Int.toNat_natCast]
    exact ⟨hl, ⟨.str (repS z k), H, I.tok _, ⟨_, rfl⟩, q⟩⟩
end Vk
namespace Vk
open PySem PySem.Spec PyProof.Rows L2
section
variable {P : Program} {w : World} {K : PySem.W.Frag} {mg : Str → Option Value} {base : Heap}
theorem scInteger : FnScope ["value", "least"] ["value", "least"] (defScope sInteger) := ⟨rfl, rfl, rfl, by decide +kernel, rfl, by decide +kernel, by decide +kernel⟩
theorem ok_integer (D : Df K mg "is_integer" sInteger ["value", "least"]) (B : Blt mg) : Cl P w K mg base CX0 1 "is_integer" ["value", "least"] (spInteger K) := by
  refine cl0 D scInteger (fun vs H Q E h => ?_) (fun f cdv A outer s H vs Q E hr h => ?_)
  · obtain ⟨v, d, least, rfl, _⟩ := h
    rfl
  · obtain ⟨v, d, least, rfl, hd, k⟩ := h
    refine ⟨_, pss_one (ps_ret (pe_and (pe_callB call_isi (by rfl) B.isi (by decide +kernel) (pa_cons (pv 0) (pa_cons (pe_bltn (v := .ty "int") (u := .type "int") (by rfl) B.int (by decide +kernel) rfl) pa_nil))) (pe_and (pe_not (pe_callB call_isi (by rfl) B.isi (by decide +kernel) (pa_cons (pv 0) (pa_cons (pe_bltn (v := .ty "bool") (u := .type "bool") (by rfl) B.bool (by decide +kernel) rfl) pa_nil)))) (pe_one (pe_cmpR op_ge (pv 0) (pv 1) (nomark _)))))), ?_⟩
    refine ⟨_, rfl, v, _, _, _, _, rfl, .ty "int", dp_ty hd, kit_int hd, _, rfl, ?_⟩
    cases hd with
    | int i =>
      refine iteT ⟨_, rfl, _, _, _, _, _, rfl, .ty "bool", dp_ty (.int i), kit_bool (H := H) (.int i), _, rfl, _, rfl, iteT ?_⟩
      exact ⟨_, rfl, _, rfl, _, _, rfl, rfl, k⟩
    | bl b => exact iteT ⟨_, rfl, _, _, _, _, _, rfl, .ty "bool", dp_ty (.bl b), kit_bool (H := H) (.bl b), _, rfl, _, rfl, iteF k⟩
    | non => exact iteF k
    | str x => exact iteF k
    | lst q r => exact iteF k
    | tup q r => exact iteF k
theorem scTupleOf : FnScope ["value", "many"] ["value", "many"] (defScope sTupleOf) := ⟨rfl, rfl, rfl, by decide +kernel, rfl, by decide +kernel, by decide +kernel⟩
theorem ok_tupleOf (D : Df K mg "is_tuple_of" sTupleOf ["value", "many"]) (B : Blt mg) : Cl P w K mg base CX0 1 "is_tuple_of" ["value", "many"] (spTupleOf K) := by
  refine cl0 D scTupleOf (fun vs H Q E h => ?_) (fun f cdv A outer s H vs Q E hr h => ?_)
  · obtain ⟨v, d, n, rfl, _⟩ := h
    rfl
  · obtain ⟨v, d, n, rfl, hd, k⟩ := h
    refine ⟨_, pss_one (ps_ret (pe_and (pe_callB call_isi (by rfl) B.isi (by decide +kernel) (pa_cons (pv 0) (pa_cons (pe_bltn (v := .ty "tuple") (u := .type "tuple") (by rfl) B.tuple (by decide +kernel) rfl) pa_nil))) (pe_one (pe_cmpR op_eq (pe_callB call_len_seq (by rfl) B.len PySem.boot_len (pa_cons (pv 0) pa_nil)) (pv 1) (nomark _))))), ?_⟩
    refine ⟨_, rfl, v, _, _, _, _, rfl, .ty "tuple", dp_ty hd, kit_tup hd, _, rfl, ?_⟩
    cases hd with
    | int i => exact iteF k
    | bl b => exact iteF k
    | non => exact iteF k
    | str x => exact iteF k
    | lst q r => exact iteF k
    | @tup a xs ds q r =>
      refine iteT ⟨_, rfl, _, xs, rfl, .inr q, _, rfl, rfl, ?_⟩
      have e : decide (V.int (xs.length : Nat) = V.int n) = tupleND n (.tuple ds) := by
        show _ = decide ((ds.length : Int) = n)
        rw [dps_len r]
        by_cases z : (ds.length : Int) = n
        · rw [z, decide_eq_true rfl, decide_eq_true rfl]
        · rw [decide_eq_false z, decide_eq_false (fun y => z (V.int.inj y))]
      show Q (.bl (decide (V.int (xs.length : Nat) = V.int n))) H
      rw [e]
      exact k
end
end Vk
namespace Vk
open PySem PySem.Spec PyProof.Rows L2
def countD : PyData → Bool
  | .none => true
  | d => integerD 1 d
def kindD : PyData → Bool
  | .str x => x == ("queue" : Str) || x == ("stack" : Str)
  | _ => false
def levelD : PyData → Bool
  | .tuple [a, b] => kindD a && countD b
  | _ => false
/-- the first of a pair is flat -/
def headD : PyData → Bool
  | .tuple [a, _] => flatD a
  | _ => true
theorem in_kinds {K : PySem.W.Frag} {H : Hp} {v : V} {d : PyData} (h : Dp K H v d) : inV v [.str ("queue" : Str), .str ("stack" : Str)] = kindD d := by
  cases h with
  | str x =>
    show (("queue" : Str) == x || (("stack" : Str) == x || false)) = (x == ("queue" : Str) || x == ("stack" : Str))
    rw [Bool.or_false, BEq.comm (a := ("queue" : Str)), BEq.comm (a := ("stack" : Str))]
  | non => rfl
  | bl b => rfl
  | int i => rfl
  | lst q r => rfl
  | tup q r => rfl
section
variable {P : Program} {w : World} {K : PySem.W.Frag} {mg : Str → Option Value} {base : Heap}
def spCount (K : PySem.W.Frag) : Sp := fun vs H Q _ => ∃ (v : V) (d : PyData), vs = [v] ∧ Dp K H v d ∧ Q (.bl (countD d)) H
theorem scCount : FnScope ["value"] ["value"] (defScope sCount) := ⟨rfl, rfl, rfl, by decide +kernel, rfl, by decide +kernel, by decide +kernel⟩
theorem ok_count (D : Df K mg "is_count" sCount ["value"]) (I : Cl P w K mg base CX0 1 "is_integer" ["value", "least"] (spInteger K)) : Cl P w K mg base CX0 2 "is_count" ["value"] (spCount K) := by
  refine cl0 D scCount (fun vs H Q E h => ?_) (fun f cdv A outer s H vs Q E hr h => ?_)
  · obtain ⟨v, d, rfl, _⟩ := h
    rfl
  · obtain ⟨v, d, rfl, hd, k⟩ := h
    refine ⟨_, pss_one (ps_ret (pe_or (pe_cmpR op_isN (pv 0) pe_non (nomark _)) (pe_one (pc I hr (by decide) (pa_cons (pv 0) (pa_cons pe_int pa_nil)))))), ?_⟩
    refine ⟨_, rfl, rfl, _, rfl, ?_⟩
    cases hd with
    | non => exact iteT k
    | int i => exact iteF ⟨_, rfl, _, _, 1, rfl, .int i, k⟩
    | bl b => exact iteF ⟨_, rfl, _, _, 1, rfl, .bl b, k⟩
    | str x => exact iteF ⟨_, rfl, _, _, 1, rfl, .str x, k⟩
    | lst q r => exact iteF ⟨_, rfl, _, _, 1, rfl, .lst q r, k⟩
    | tup q r => exact iteF ⟨_, rfl, _, _, 1, rfl, .tup q r, k⟩
def spLevel (K : PySem.W.Frag) : Sp := fun vs H Q _ => ∃ (v : V) (d : PyData), vs = [v] ∧ Dp K H v d ∧ headD d = true ∧ ∀ H', Same H H' → Q (.bl (levelD d)) H'
theorem scLevel : FnScope ["level"] ["level"] (defScope sLevel) := ⟨rfl, rfl, rfl, by decide +kernel, rfl, by decide +kernel, by decide +kernel⟩
theorem level_two {d : PyData} (h : tupleND 2 d = true) : ∃ a b, d = .tuple [a, b] := by
  cases d with
  | tuple ds =>
    have z : (ds.length : Int) = 2 := of_decide_eq_true h
    match ds, z with
    | [a, b], _ => exact ⟨a, b, rfl⟩
    | [], z => cases z
    | [_], z => cases z
    | _ :: _ :: _ :: l, z => simp only [List.length_cons] at z; omega
  | _ => cases h
theorem level_not {d : PyData} (h : tupleND 2 d = false) : levelD d = false := by
  cases d with
  | tuple ds =>
    have z : ¬ (ds.length : Int) = 2 := of_decide_eq_false h
    match ds, z with
    | [a, b], z => exact absurd rfl z
    | [], _ => rfl
    | [_], _ => rfl
    | _ :: _ :: _ :: l, _ => rfl
  | _ => rfl
theorem dp_two {K : PySem.W.Frag} {H : Hp} {v : V} {a b : PyData} (h : Dp K H v (.tuple [a, b])) : ∃ p x y, v = .ref p ∧ SqT K H p [x, y] ∧ Dp K H x a ∧ Dp K H y b := by
  obtain ⟨p, xs, rfl, q, r⟩ := dp_tuple h
  cases r with
  | cons h1 r =>
    cases r with
    | cons h2 r =>
      cases r
      exact ⟨p, _, _, rfl, q, h1, h2⟩
theorem ok_level (D : Df K mg "is_level" sLevel ["level"]) (T : Cl P w K mg base CX0 1 "is_tuple_of" ["value", "many"] (spTupleOf K)) (C : Cl P w K mg base CX0 2 "is_count" ["value"] (spCount K)) : Cl P w K mg base CX0 3 "is_level" ["level"] (spLevel K) := by
  refine cl0 D scLevel (fun vs H Q E h => ?_) (fun f cdv A outer s H vs Q E hr h => ?_)
  · obtain ⟨v, d, rfl, _⟩ := h
    rfl
  · obtain ⟨v, d, rfl, hd, fl, k⟩ := h
    refine ⟨_, pss_one (ps_ret (pe_and (pc T hr (by decide) (pa_cons (pv 0) (pa_cons pe_int pa_nil))) (pe_and (pe_cmpR op_in_seq (pe_ix ix_tup (pv 0) pe_int (fun _ _ => rfl)) (pe_tup (pa_cons pe_str (pa_cons pe_str pa_nil))) (by rfl))
      (pe_one (pc C hr (by decide) (pa_cons (pe_ix ix_tup (pv 0) pe_int (fun _ _ => rfl)) pa_nil)))))), ?_⟩
    refine ⟨_, rfl, v, d, 2, rfl, hd, _, rfl, ?_⟩
    cases ht : tupleND 2 d with
    | false =>
      refine iteF ?_
      have z := k H (Same.refl H)
      rw [level_not ht] at z
      exact z
    | true =>
      obtain ⟨a, b, rfl⟩ := level_two ht
      obtain ⟨p, x, y, rfl, q, ha, hb⟩ := dp_two hd
      refine iteT ⟨_, rfl, p, _, _, _, rfl, rfl, q, rfl, (by show 2 ≤ sizeLine; decide), fun t nt => ?_⟩
      have s1 := same_new (o := .tup [.str ("queue" : Str), .str ("stack" : Str)]) nt
      refine ⟨t, _, rfl, .inr (SqT.of upd_same), (by rw [dp_flat ha]; exact fl), rfl, _, rfl, ?_⟩
      show if inV x [.str ("queue" : Str), .str ("stack" : Str)] = true then _ else _
      rw [in_kinds ha]
      have kk := k _ s1
      have e : levelD (.tuple [a, b]) = (kindD a && countD b) := rfl
      rw [e] at kk
      cases hk : kindD a with
      | false =>
        rw [hk] at kk
        exact iteF kk
      | true =>
        rw [hk] at kk
        exact iteT ⟨_, rfl, p, _, _, _, rfl, rfl, same_seqT s1 q, rfl, y, b, rfl, dp_same s1 hb, kk⟩
end
end Vk
namespace Vk
open PySem PySem.Spec PyProof.Rows L2
abbrev sRuleInit : Stmt := inClass (top 3) 0
section
variable {P : Program} {w : World} {K : PySem.W.Frag} {mg : Str → Option Value} {base : Heap}
theorem scRuleInit : FnScope ["self", "place"] ["self", "place"] (defScope sRuleInit) := ⟨rfl, rfl, rfl, by decide +kernel, rfl, by decide +kernel, by decide +kernel⟩
theorem ok_ruleInit {C fI : Addr} {fd : FuncData} (F : Fun K "__init__" "NoRule.__init__" sRuleInit fI fd) (T : OexC K C) (no : PySem.W.findIn K (.ref C) "place" = some none) : FnOk P w K mg base CX0 1 fI fd ["self", "place"] (spIni C "place") := by
  refine F.ok scRuleInit (fun vs H Q E h => ?_) (fun cdv A outer s H vs Q E hr h => ?_)
  · obtain ⟨a, v, rfl, _⟩ := h
    rfl
  · obtain ⟨a, v, rfl, ha, k⟩ := h
    refine ⟨_, pss_one (ps_ost (pv 0) (pv 1)), ?_⟩
    exact ⟨_, rfl, _, rfl, a, C, rfl, T, no, .inl ⟨ha, fun dx n1 n2 => k dx n1 n2⟩⟩
theorem erc_rule {C : Addr} (g : mg "NoRule" = some (.ref C)) (T : OexC K C) (no : PySem.W.findIn K (.ref C) "place" = some none) (N : Nit K "NoRule" "NoRule.__init__" "place" sRuleInit C) : ErC P w K mg base "NoRule" "place" C := by
  obtain ⟨fI, fd, h1, h2, h3, h4⟩ := N.ex
  exact ⟨g, T, fI, fd, h1, h2, h4, ok_ruleInit h3 T no⟩
end
end Vk
namespace Vk
open PySem PySem.Spec PyProof.Rows L2
/-- the place of the first fault of a rule -/
def rulePlace : PyData → Option Int
  | .tuple [.tuple ls, b] => if 1 ≤ ls.length ∧ ls.length ≤ 6 then (match ls.findIdx? (fun d => !levelD d) with
    | some i => some (i : Int)
    | none => if countD b = true then none else some (ls.length : Int)) else some 0
  | _ => some 0
def goodHeads : PyData → Bool
  | .tuple [.tuple ls, _] => ls.all headD
  | _ => true
theorem place_two {d : PyData} (h : tupleND 2 d = false) : rulePlace d = some 0 := by
  cases d with
  | tuple ds =>
    have z : ¬ (ds.length : Int) = 2 := of_decide_eq_false h
    match ds, z with
    | [a, b], z => exact absurd rfl z
    | [], _ => rfl
    | [_], _ => simp [rulePlace]
    | _ :: _ :: _ :: l, _ => simp [rulePlace]
  | _ => rfl
theorem place_tup {a b : PyData} (h : isTupD a = false) : rulePlace (.tuple [a, b]) = some 0 := by
  cases a with
  | tuple ds => cases h
  | _ => rfl
theorem bad_at {ls : List PyData} {i : Nat} {d : PyData} (h : ls[i]? = some d) (hd : levelD d = false) (ok : ∀ j < i, ∀ e, ls[j]? = some e → levelD e = true) : ls.findIdx? (fun d => !levelD d) = some i := by
  rw [List.findIdx?_eq_some_iff_getElem]
  obtain ⟨h1, h2⟩ := List.getElem?_eq_some_iff.mp h
  refine ⟨h1, by rw [h2, hd]; rfl, fun j hj => ?_⟩
  have z := ok j hj ls[j] (List.getElem?_eq_getElem (by omega))
  rw [z]
  decide
theorem bad_no {ls : List PyData} (ok : ∀ j < ls.length, ∀ e, ls[j]? = some e → levelD e = true) : ls.findIdx? (fun d => !levelD d) = none := by
  rw [List.findIdx?_eq_none_iff]
  intro x hx
  obtain ⟨j, hj, e⟩ := List.getElem_of_mem hx
  have z := ok j hj x (by rw [List.getElem?_eq_getElem hj, e])
  rw [z]
  rfl
section
variable {P : Program} {w : World} {K : PySem.W.Frag} {mg : Str → Option Value} {base : Heap}
def spCheck (K : PySem.W.Frag) (C : Addr) : Sp := fun vs H Q E => ∃ (v : V) (d : PyData), vs = [v] ∧ Dp K H v d ∧ goodHeads d = true ∧ (rulePlace d = none → ∀ H', Same H H' → Q .non H') ∧
  (∀ p, rulePlace d = some p → ∀ (dx : Addr) (H' : Hp), Same H H' → H' dx = some (.xd [("place", .int p)]) → E (.ref C) (some dx) H')
theorem scCheck : FnScope ["rule", "levels", "boost", "place", "level"] ["rule"] (defScope sCheck) := ⟨rfl, rfl, rfl, by decide +kernel, rfl, by decide +kernel, by decide +kernel⟩
theorem ok_check {C : Addr} (D : Df K mg "check_rule" sCheck ["rule"]) (B : Blt mg) (M : ∃ u, mg "MOST_LEVELS" = some u ∧ RelV (.int 6) u) (ER : ErC P w K mg base "NoRule" "place" C) (T : Cl P w K mg base CX0 1 "is_tuple_of" ["value", "many"] (spTupleOf K))
    (L : Cl P w K mg base CX0 3 "is_level" ["level"] (spLevel K)) (CN : Cl P w K mg base CX0 2 "is_count" ["value"] (spCount K)) : Cl P w K mg base (L2.CX P w) 4 "check_rule" ["rule"] (spCheck K C) := by
  refine clX D scCheck (fun vs H Q E h => ?_) (fun f cdv A outer s H vs Q E hr h => ?_)
  · obtain ⟨v, d, rfl, _⟩ := h
    rfl
  · obtain ⟨v, d, rfl, hd, gh, kN, kE⟩ := h
    obtain ⟨mu, mm, mr⟩ := M
    refine ⟨_, pss_cons (ps_if (pt_not (pt_val (pc T hr (by decide) (pa_cons (pv 0) (pa_cons pe_int pa_nil))))) (pss_one (ps_raiseE ER rfl hr (by decide) (takes_of rfl rfl rfl rfl) pe_int)) pss_nil)
      (pss_cons (ps_asg (pv 0) (pg_tup rfl (pgs_cons (pg_name (i := 1) scCheck.nd rfl (.inl rfl)) (pgs_cons (pg_name (i := 2) scCheck.nd rfl (.inl rfl)) pgs_nil))))
      (pss_cons (ps_if (PW.pt (pw_or (pt_not (pt_val (pe_callB call_isi (by rfl) B.isi (by decide +kernel) (pa_cons (pv 1) (pa_cons (pe_bltn (v := .ty "tuple") (u := .type "tuple") (by rfl) B.tuple (by decide +kernel) rfl) pa_nil))))) (pw_or1 (pt_not (pt_chain op_le op_le pe_int (pe_callB call_len_seq (by rfl) B.len PySem.boot_len (pa_cons (pv 1) pa_nil)) (pe_glob rfl mm mr))))))
        (pss_one (ps_raiseE ER rfl hr (by decide) (takes_of rfl rfl rfl rfl) pe_int)) pss_nil)
      (pss_cons (ps_for (passes_of rfl) rfl (pi_enumT B.enum (pa_cons (pv 1) pa_nil)) (pg_tup rfl (pgs_cons (pg_name (i := 3) scCheck.nd rfl (.inl rfl)) (pgs_cons (pg_name (i := 4) scCheck.nd rfl (.inl rfl)) pgs_nil)))
        (pss_one (ps_if (pt_not (pt_val (pc L hr (by decide) (pa_cons (pv 4) pa_nil)))) (pss_one (ps_raiseE ER rfl hr (by decide) (takes_of rfl rfl rfl rfl) (pv 3))) pss_nil)))
      (pss_one (ps_if (pt_not (pt_val (pc CN hr (by decide) (pa_cons (pv 2) pa_nil)))) (pss_one (ps_raiseE ER rfl hr (by decide) (takes_of rfl rfl rfl rfl) (pe_callB call_len_seq (by rfl) B.len PySem.boot_len (pa_cons (pv 1) pa_nil)))) pss_nil))))), ?_⟩
    refine ⟨_, rfl, v, d, 2, rfl, hd, _, rfl, ?_⟩
    cases ht : tupleND 2 d with
    | false =>
      refine iteT ?_
      exact raise_go fun dx H2 s1 _ hx => kE 0 (place_two ht) dx H2 s1 hx
    | true =>
      obtain ⟨a, b, rfl⟩ := level_two ht
      obtain ⟨p, x, y, rfl, q, ha, hb⟩ := dp_two hd
      refine iteF ?_
      -- levels, boost = rule
      refine ⟨_, rfl, p, _, rfl, q, rfl, _, _, rfl, _, _, rfl, rfl, ?_⟩
      refine ⟨_, rfl, x, _, _, _, _, rfl, .ty "tuple", dp_ty ha, kit_tup ha, _, rfl, ?_⟩
      cases hta : isTupD a with
      | false =>
        refine iteT ?_
        refine iteT ?_
        exact raise_go fun dx H2 s1 _ hx => kE 0 (place_tup hta) dx H2 s1 hx
      | true =>
        obtain ⟨ls, rfl⟩ : ∃ ls, a = .tuple ls := by
          cases a with
          | tuple ls => exact ⟨ls, rfl⟩
          | _ => cases hta
        obtain ⟨pl, xs, rfl, ql, rl⟩ := dp_tuple ha
        have ll := dps_len rl
        refine iteF ?_
        -- 1 <= len(levels) <= 6
        refine ⟨_, rfl, pl, xs, rfl, .inr ql, _, _, rfl, rfl, _, rfl, ?_⟩
        have small : rulePlace (.tuple [.tuple ls, b]) = some 0 ∨ (1 ≤ ls.length ∧ ls.length ≤ 6) := by
          by_cases z : 1 ≤ ls.length ∧ ls.length ≤ 6
          · exact .inr z
          · refine .inl ?_
            simp only [rulePlace]
            rw [if_neg z]
        have noSmall : ¬ (1 ≤ ls.length ∧ ls.length ≤ 6) → rulePlace (.tuple [.tuple ls, b]) = some 0 := fun z => by
          rcases small with h | h
          · exact h
          · exact absurd h z
        have loop : ∀ H1 : Hp, 1 ≤ ls.length → ls.length ≤ 6 → True := fun _ _ _ => trivial
        refine ite2 (fun z1 => ?_) (fun z1 => ?_)
        case refine_2 =>
          have n1 : ¬ (1 ≤ ls.length) := fun y => z1 (decide_eq_true (by omega))
          refine ⟨_, rfl, iteT ?_⟩
          exact raise_go fun dx H2 s1 _ hx => kE 0 (noSmall fun y => n1 y.1) dx H2 s1 hx
        refine ⟨_, _, rfl, rfl, _, rfl, ?_⟩
        by_cases n6 : ls.length ≤ 6
        case neg =>
          rw [decide_eq_false (show ¬ ((xs.length : Nat) : Int) ≤ 6 by omega)]
          refine iteT ?_
          exact raise_go fun dx H2 s1 _ hx => kE 0 (noSmall fun y => n6 y.2) dx H2 s1 hx
        rw [decide_eq_true (show ((xs.length : Nat) : Int) ≤ 6 by omega)]
        refine iteF ?_
        have n1 : 1 ≤ ls.length := by
          have z := of_decide_eq_true z1
          omega
        -- for place, level in enumerate(levels)
        refine ⟨_, rfl, pl, xs, rfl, ql, for_it (walk_enumT (K := K) (a := pl) (xs := xs)) (fun i σ H' => ∃ (u1 u2 : Option V), σ = [some (.ref p), some (.ref pl), some y, u1, u2] ∧ Same H H' ∧ ∀ j < i, ∀ e, ls[j]? = some e → levelD e = true)
          ⟨none, none, rfl, Same.refl H, fun j hj => absurd hj (Nat.not_lt_zero _)⟩ (fun i σ H' _ ⟨_, _, _, s1, _⟩ => same_seqT s1 ql) ?_ ?_⟩
        · rintro i v1 σ H1 H2 hi ⟨u1, u2, rfl, s1, okl⟩ ⟨TT, x1, y1, rfl, nT, rfl, ex, ey⟩
          cases ex
          obtain ⟨d1, hd1, dp1⟩ := dps_getV rl ey
          have s2 := s1.trans (same_new (o := .tup [V.int (i : Nat), y1]) nT)
          refine ⟨TT, _, rfl, SqT.of upd_same, rfl, _, _, rfl, _, _, rfl, rfl, ?_⟩
          have hh : headD d1 = true := List.all_eq_true.mp gh d1 (List.mem_of_getElem? hd1)
          refine ⟨_, rfl, y1, d1, rfl, dp_same s2 dp1, hh, fun H3 s3 => ⟨_, rfl, ?_⟩⟩
          cases hl : levelD d1 with
          | true =>
            refine iteF ?_
            refine ⟨_, _, rfl, s2.trans s3, fun j hj e he => ?_⟩
            by_cases z : j = i
            · subst z
              rw [hd1] at he
              cases he
              exact hl
            · exact okl j (by omega) e he
          | false =>
            refine iteT ⟨_, rfl, ?_⟩
            refine raise_go fun dx H4 s4 _ hx => kE (i : Int) ?_ dx H4 ((s2.trans s3).trans s4) hx
            simp only [rulePlace]
            rw [if_pos ⟨n1, n6⟩, bad_at hd1 hl okl]
        · rintro σ H1 ⟨u1, u2, rfl, s1, okl⟩
          have none1 := bad_no (ls := ls) (fun j hj => okl j (by omega))
          have pl1 : rulePlace (.tuple [.tuple ls, b]) = if countD b = true then none else some (ls.length : Int) := by
            simp only [rulePlace]
            rw [if_pos ⟨n1, n6⟩, none1]
          refine ⟨_, rfl, y, b, rfl, dp_same s1 hb, _, rfl, ?_⟩
          cases hc : countD b with
          | true =>
            rw [hc] at pl1
            exact iteF (kN pl1 _ s1)
          | false =>
            rw [hc] at pl1
            refine iteT ⟨_, rfl, pl, xs, rfl, .inr (same_seqT s1 ql), ?_⟩
            refine raise_go fun dx H4 s4 _ hx => kE (ls.length : Int) pl1 dx H4 (s1.trans s4) ?_
            rw [← ll]
            exact hx
end
end Vk
namespace Vk
open PySem PySem.Spec PyProof.Rows L2 GxR
/-- a def whose code object stands at c -/
structure DfC (K : PySem.W.Frag) (mg : Str → Option Value) (x : Str) (st : Stmt) (ps : List Str) (c : Addr) : Prop where
  ex : ∃ (f : Addr) (oc : Value) (od : Option Addr) (kV doc pm : Value) (an : Option Addr) (ct : Value) (osl : Array (Option Value)), mg x = some (.ref f) ∧
    K.lookup f = some ⟨oc, od, .func (PySem.W.fnOf x x (defArgs st) (defBody st) (defScope st) .none kV doc pm an (.ref c) ct), osl⟩ ∧ PySem.W.codeIn K (.ref c) x = true ∧ PySem.W.keepIn K (.ref f) = true ∧
    Binds K (PySem.W.fnOf x x (defArgs st) (defBody st) (defScope st) .none kV doc pm an (.ref c) ct) ps []
theorem clC {P : Program} {w : World} {K : PySem.W.Frag} {mg : Str → Option Value} {base : Heap} {x : Str} {st : Stmt} {N ps : List Str} {k : Nat} {sp : Sp} {c : Addr} (D : DfC K mg x st ps c) (S : FnScope N ps (defScope st)) (len : ∀ vs H Q E, sp vs H Q E → vs.length = ps.length)
    (body : ∀ (f : Addr) (A : Around) (outer : List Env) (s : Shared) (H : Hp) (vs : List V) (Q : VK) (E : XK), Room k (A.deeper (envOfC x (defScope st) s.heap.objs.size f (.ref c))) → sp vs H Q E →
      ∃ t, PSs (cxOf CX0 P w K mg base N x (defScope st) f (.ref c) A outer s H E).nox (defBody st) t ∧ t { nx := fun _ H' => Q .non H', rt := Q } (start N vs) H) : Cl P w K mg base CX0 (k + 1) x ps sp := by
  obtain ⟨f, oc, od, kV, doc, pm, an, ct, osl, hm, lk, hcd, kp, b⟩ := D.ex
  refine ⟨f, _, hm, kp, b, fn_of lk hcd S len fun A outer s H vs Q E hr hsp => ?_⟩
  obtain ⟨t, h, q⟩ := body f A outer s H vs Q E hr hsp
  exact ⟨t, h.nox, q⟩
theorem twoLoc {R : Str × NameKind → Prop} {a b : Str} : ∀ y ∈ [(a, NameKind.local), (b, NameKind.local)], y.2 = .free → R y := by
  intro y hy e
  rcases List.mem_cons.mp hy with rfl | hy
  · cases e
  · rcases List.mem_cons.mp hy with rfl | hy
    · cases e
    · cases hy
theorem same_put {H Hc : Hp} {D : Addr} {o : HO} (s : Same H Hc) (n : H D = none) : Same H (upd Hc D o) := by
  have ne : ∀ {b : Addr} {u : HO}, H b = some u → b ≠ D := fun e => ne_of_none e n
  refine ⟨fun b u e nt => ?_, fun b e => ?_, fun P ⟨ps, e, t⟩ => ?_⟩
  · rw [upd_ne (ne e)]
    exact s.at_ b u e nt
  · by_cases z : b = D
    · rw [z] at e
      exact absurd n e
    · rw [upd_ne z]
      exact s.has b e
  · obtain ⟨qs, f, u⟩ := s.tab P ⟨ps, e, t⟩
    exact ⟨qs, by rw [upd_ne (ne e)]; exact f, u⟩
theorem find_at {n i : Nat} {p : Nat → Bool} (h : i < n) (hp : p i = true) (ok : ∀ j < i, p j = false) : (List.range n).find? p = some i := by
  rw [List.find?_range_eq_some]
  refine ⟨hp, List.mem_range.mpr h, fun j hj => ?_⟩
  rw [ok j hj]
  rfl
theorem find_no {n : Nat} {p : Nat → Bool} (ok : ∀ j < n, p j = false) : (List.range n).find? p = none := by
  rw [List.find?_eq_none]
  intro j hj
  rw [ok j (List.mem_range.mp hj)]
  exact Bool.false_ne_true
theorem inV_strs {n : Str} : ∀ ns : List Str, inV (.str n) (ns.map V.str) = ns.any (fun y => y == n)
  | [] => rfl
  | x :: ns => by
    have ih := inV_strs (n := n) ns
    show ((x == n) || inV (.str n) (ns.map V.str)) = ((x == n) || ns.any (fun y => y == n))
    rw [ih]
theorem flat_strs (ns : List Str) : (ns.map V.str).all flatV = true := by
  rw [List.all_eq_true]
  intro x hx
  obtain ⟨y, _, rfl⟩ := List.mem_map.mp hx
  rfl
theorem lt_one {a b : Nat} : ([a] < [b]) ↔ a < b := by
  constructor
  · intro h
    cases h with
    | rel h => exact h
    | cons h => cases h
  · intro h
    exact List.Lex.rel h
def optV : Option Int → V
  | some i => .int i
  | none => .non
theorem cutR {α : Type} {R : α} {F : α → Prop} {G : Prop} (h : F R → G) (c : F R) : G := h c
def sgn (c : Nat) : Str := ⟨#[c]⟩
theorem off_none {a : Addr} {H : Hp} (h : H a = none) : Off a H = H := by
  funext b
  by_cases e : b = a
  · rw [e, off_same, h]
  · rw [off_ne e]
theorem off_free {a D : Addr} {H : Hp} (h : H D = none) : Off a H D = none := by
  by_cases e : D = a
  · rw [e, off_same]
  · rw [off_ne e, h]
/-- what was built beside the store and a cell is built beside the store -/
theorem kept_of_off {a l : Addr} {H G : Hp} (h : H l = none) (k : Same (Off l (Off a H)) (Off l (Off a G))) : Kept a H G := by
  rw [off_none (off_free h)] at k
  exact k.trans (off_sub l _)
theorem kept_new_put {a D : Addr} {o : HO} {H G : Hp} (k : Kept a H G) (h : H D = none) (n : D ≠ a) : Kept a H (upd G D o) := by
  unfold Kept
  rw [off_other n]
  exact same_put k (off_free h)
theorem cps_app (x y : Str) : (x ++ y).cps.toList = x.cps.toList ++ y.cps.toList := by
  show (x.cps ++ y.cps).toList = _
  rw [Array.toList_append]
theorem cut_to {z : Str} {i : Nat} (h : i ≤ z.cps.toList.length) : (cutS z none (some (i : Int))).cps.toList = z.cps.toList.take i := by
  have e : HT.sIx z.length z.length (some (i : Int)) = i := by
    rw [HT.sIx_nat]
    have : z.length = z.cps.toList.length := by rw [Array.length_toList]; rfl
    omega
  show ((z.cps.toList.drop 0).take (HT.sIx z.length z.length (some (i : Int)) - 0)) = _
  rw [e]
  rfl
theorem cut_from {z : Str} {i : Nat} (h : i ≤ z.cps.toList.length) : (cutS z (some (i : Int)) none).cps.toList = z.cps.toList.drop i := by
  have e0 : z.length = z.cps.toList.length := by rw [Array.length_toList]; rfl
  have e : HT.sIx z.length 0 (some (i : Int)) = i := by
    rw [HT.sIx_nat]
    omega
  show ((z.cps.toList.drop (HT.sIx z.length 0 (some (i : Int)))).take (z.length - HT.sIx z.length 0 (some (i : Int)))) = _
  rw [e]
  exact List.take_of_length_le (by rw [List.length_drop]; omega)
theorem atI_three {x0 x1 x2 : V} {r : Int} (h0 : 0 ≤ r) (h4 : r < 3) : ∃ x, atI [x0, x1, x2] r = some x ∧ (x = x0 ∨ x = x1 ∨ x = x2) := by
  have z : r = 0 ∨ r = 1 ∨ r = 2 := by omega
  rcases z with rfl | rfl | rfl
  · exact ⟨_, rfl, .inl rfl⟩
  · exact ⟨_, rfl, .inr (.inl rfl)⟩
  · exact ⟨_, rfl, .inr (.inr rfl)⟩
theorem dps_set {K : PySem.W.Frag} {H : Hp} {v : V} {d : PyData} (hv : Dp K H v d) : ∀ {vs : List V} {ds : List PyData} (j : Nat), DpAll K H vs ds → DpAll K H (vs.set j v) (ds.set j d)
  | _, _, _, .nil => .nil
  | _, _, 0, .cons x r => .cons hv r
  | _, _, j + 1, .cons x r => .cons x (dps_set hv j r)
theorem ixN_nat {n j : Nat} (h : j < n) : ixN n ((0 : Int) + (j : Nat)) = some j := by
  rw [Int.zero_add]
  unfold ixN
  rw [if_pos (by omega), if_pos (by omega)]
  rfl
theorem slen {s : Str} : s.length = s.cps.toList.length := by rw [Array.length_toList]; rfl
theorem alen {x y : Str} : (x ++ y).length = x.length + y.length := by rw [slen, cps_app, List.length_append, ← slen, ← slen]
theorem log_ok {n : Nat} (h : n ≤ 10 ^ 30) : ((n : Int)).natAbs.log2 < 1920 := by
  rw [Int.natAbs_natCast]
  by_cases e : n = 0
  · subst e
    decide
  · exact (Nat.log2_lt e).mpr (Nat.lt_of_le_of_lt h (by decide))
theorem small_le {m : Nat} (h : m ≤ 200) : m ≤ sizeLine := Nat.le_trans h (by decide)
theorem dg_nat {t : Int} (h0 : 0 ≤ t) : ∃ n : Nat, t = (n : Int) := Int.eq_ofNat_of_zero_le h0
theorem cutP {R G : Prop} (h : R → G) (c : R) : G := h c
theorem atI_str {l : List Str} {r : Int} (h0 : 0 ≤ r) (h1 : r < l.length) : ∃ s, atI (l.map V.str) r = some (.str s) ∧ s ∈ l := by
  obtain ⟨x, h2, h3⟩ := atI_mem (xs := l.map V.str) h0 (by rw [List.length_map]; exact h1)
  obtain ⟨s, hs, rfl⟩ := List.mem_map.mp h3
  exact ⟨s, h2, hs⟩
theorem map_erase {α β : Type} (f : α → β) : ∀ (l : List α) (i : Nat), (l.map f).eraseIdx i = (l.eraseIdx i).map f
  | [], _ => rfl
  | x :: l, 0 => rfl
  | x :: l, i + 1 => by
    rw [List.map_cons, List.eraseIdx_cons_succ, List.eraseIdx_cons_succ, List.map_cons, map_erase f l i]
theorem cut_from_len (z : Str) (i : Nat) : (cutS z (some (i : Int)) none).length ≤ z.length - i := by
  have e0 : z.length = z.cps.toList.length := slen
  rw [slen]
  show ((z.cps.toList.drop (HT.sIx z.length 0 (some (i : Int)))).take (z.length - HT.sIx z.length 0 (some (i : Int)))).length ≤ _
  rw [HT.sIx_nat, List.length_take, List.length_drop]
  omega
theorem cut_to_len (z : Str) (i : Nat) : (cutS z none (some (i : Int))).length ≤ i := by
  have e0 : z.length = z.cps.toList.length := slen
  rw [slen]
  show ((z.cps.toList.drop 0).take (HT.sIx z.length z.length (some (i : Int)) - 0)).length ≤ _
  rw [HT.sIx_nat, List.length_take, List.length_drop]
  omega
theorem ixN_at {n : Nat} {i : Int} (h0 : 0 ≤ i) (h : i < n) : ixN n i = some i.toNat := by
  unfold ixN
  rw [if_pos h0, if_pos h]
theorem sq_at {n : Nat} {i : Int} (h0 : 0 ≤ i) (h : i < n) : seqIndex? i n = some i.toNat := by
  unfold seqIndex?
  simp
  omega
theorem cut1 {a : V} {l : List V} : cutV (a :: l) (some 1) none = l := by
  have e : HT.sIx (a :: l).length 0 (some 1) = 1 := by
    show HT.sIx (a :: l).length 0 (some ((1 : Nat) : Int)) = 1
    rw [HT.sIx_nat]
    simp only [List.length_cons]
    omega
  unfold cutV
  rw [e]
  show l.take ((a :: l).length - 1) = l
  exact List.take_of_length_le (by simp only [List.length_cons]; omega)
def optD : Option Int → PyData
  | some i => .int i
  | none => .none
theorem dp_opt {K : PySem.W.Frag} {H : Hp} : ∀ o : Option Int, Dp K H (optV o) (optD o)
  | some i => .int i
  | none => .non
theorem eq_strV (x s : Str) : decide (V.str x = V.str s) = decide (x = s) := by
  by_cases h : x = s
  · rw [h, decide_eq_true rfl, decide_eq_true rfl]
  · rw [decide_eq_false h, decide_eq_false (fun z => h (V.str.inj z))]
theorem units65 {k : Nat} {A : Around} (r : Room k A) : A.units + 65 < cLine := by have := r.un; omega
theorem find_some {n i : Nat} {p : Nat → Bool} (h : (List.range n).find? p = some i) : i < n ∧ p i = true ∧ ∀ j < i, p j = false := by
  rw [List.find?_range_eq_some] at h
  obtain ⟨h1, h2, h3⟩ := h
  refine ⟨List.mem_range.mp h2, h1, fun j hj => ?_⟩
  have z := h3 j hj
  cases hp : p j with
  | false => rfl
  | true =>
    rw [hp] at z
    cases z
theorem mem_joinL {s : Nat} {y : List Nat} : ∀ {ps : List (List Nat)}, s ∈ TL.joinL y ps → s ∈ y ∨ ∃ p ∈ ps, s ∈ p
  | [], h => by cases h
  | [p], h => .inr ⟨p, by simp, h⟩
  | p :: q :: r, h => by
    have z : s ∈ p ++ (y ++ TL.joinL y (q :: r)) := h
    rcases List.mem_append.mp z with z | z
    · exact .inr ⟨p, by simp, z⟩
    · rcases List.mem_append.mp z with z | z
      · exact .inl z
      · rcases mem_joinL z with z | ⟨p', hp', z⟩
        · exact .inl z
        · exact .inr ⟨p', List.mem_cons_of_mem _ hp', z⟩
theorem joinL_len {y : List Nat} {m : Nat} : ∀ {ps : List (List Nat)}, (∀ p ∈ ps, p.length ≤ m) → (TL.joinL y ps).length ≤ ps.length * (m + y.length)
  | [], _ => Nat.zero_le _
  | [p], h => by
    have := h p (by simp)
    show p.length ≤ 1 * (m + y.length)
    omega
  | p :: q :: r, h => by
    have h1 := h p (by simp)
    have h2 := joinL_len (y := y) (m := m) (ps := q :: r) fun x hx => h x (List.mem_cons_of_mem _ hx)
    show (p ++ (y ++ TL.joinL y (q :: r))).length ≤ _
    rw [List.length_append, List.length_append, List.length_cons, Nat.succ_mul]
    omega
def rEqNilT (K : PySem.W.Frag) : R2 := fun x y H Q => ∃ p q xs, x = .ref p ∧ y = .ref q ∧ SqT K H p xs ∧ SqT K H q [] ∧ Q (.bl xs.isEmpty) H
theorem op_eqNilT {X : Cx} (hu : X.A.units < cLine) : OpR X (compareOp .Eq) (rEqNilT X.K) := by
  intro pins s σ H x y v u Q I rx ry h
  obtain ⟨p, q, xs, rfl, rfl, hp, hq, k⟩ := h
  cases rx
  cases ry
  obtain ⟨is1, r1, p1, _⟩ := I.tuple hp
  obtain ⟨is2, r2, p2, _⟩ := I.tuple hq
  cases r2
  have z : ((List.range (min is1.toArray.size ([] : List Value).toArray.size)).all (fun _ => true) && is1.toArray.size == ([] : List Value).toArray.size) = xs.isEmpty := by
    cases xs with
    | nil =>
      cases r1
      rfl
    | cons x r =>
      cases r1
      simp
  refine SeqAt.eq_tupleAt (e := fun _ => true) p1 p2 hu (fun j _ h2 => absurd h2 (Nat.not_lt_zero _)) ?_
  rw [z]
  exact ⟨.bl xs.isEmpty, H, I, rfl, k⟩
end Vk
namespace Vk
open PySem PySem.Spec PyProof.Rows L2 GxR
/-- whether a word is a written number: one to 31 digits, no 0 in front -/
def okNum (s : Str) : Bool := decide (1 ≤ s.length) && (decide (s.length ≤ 31) && (s.cps.toList.all (between "0" "9") && (decide (s = "0") || !decide (s.cps.toList.head? = some 48))))
def numD (s : Str) : Option Int := if okNum s = true then intText? s else none
theorem between_09 (c : Nat) : between "0" "9" c = decide (48 ≤ c ∧ c ≤ 57) := by
  have e1 : (("0" : Str)).cps.toList = [48] := by decide +kernel
  have e2 : (("9" : Str)).cps.toList = [57] := by decide +kernel
  unfold between
  rw [e1, e2]
  by_cases h1 : c < 48
  · rw [decide_eq_true (lt_one.mpr h1), decide_eq_false (show ¬ (48 ≤ c ∧ c ≤ 57) by omega)]
    rfl
  · by_cases h2 : 57 < c
    · rw [decide_eq_true (lt_one.mpr h2), decide_eq_false (show ¬ (48 ≤ c ∧ c ≤ 57) by omega), Bool.not_true, Bool.and_false]
    · rw [decide_eq_false (fun h => h1 (lt_one.mp h)), decide_eq_false (fun h => h2 (lt_one.mp h)), decide_eq_true (show 48 ≤ c ∧ c ≤ 57 by omega)]
      rfl
theorem num_some {s : Str} (h1 : 1 ≤ s.length) (h2 : s.length ≤ 31) (h3 : s.cps.toList.all (between "0" "9") = true) : ∃ n, intText? s = some n := by
  have e : s = SX.S s.cps.toList := rfl
  refine ⟨_, by
    rw [e]
    refine SX.int_S ?_ ?_ ?_
    · rw [List.all_eq_true] at h3 ⊢
      intro c hc
      have z := h3 c hc
      rw [between_09] at z
      obtain ⟨z1, z2⟩ := of_decide_eq_true z
      rw [decide_eq_true z1, decide_eq_true z2]
      rfl
    · intro z
      have : s.length = 0 := by
        show s.cps.size = 0
        rw [← Array.length_toList, z]
        rfl
      omega
    · rw [Array.length_toList]
      exact Nat.le_trans h2 (by decide)⟩
section
variable {P : Program} {w : World} {K : PySem.W.Frag} {mg : Str → Option Value} {base : Heap}
def spNum (T : Addr) : Sp := fun vs H Q _ => ∃ (s : Str), vs = [.str s] ∧ s.length ≤ sizeLine ∧ TabG H T ∧ ∀ H', Same H H' → Q (optV (numD s)) H'
theorem scReadNumber : FnScope ["word"] ["word"] (defScope sReadNumber) := ⟨rfl, rfl, rfl, by decide +kernel, rfl, by decide +kernel, by decide +kernel⟩
theorem ok_readNumber {c T : Addr} (D : DfC K mg "read_number" sReadNumber ["word"] c) (TB : TabB base mg c T) (B : Blt mg) (al : mg "all" = none) (M : ∃ u, mg "MOST_DIGITS" = some u ∧ RelV (.int 31) u) : Cl P w K mg base CX0 1 "read_number" ["word"] (spNum T) := by
  refine clC D scReadNumber (fun vs H Q E h => ?_) (fun f A outer s H vs Q E hr h => ?_)
  · obtain ⟨x, rfl, _⟩ := h
    rfl
  · obtain ⟨x, rfl, sm, tg, k⟩ := h
    obtain ⟨uM, mM, rM⟩ := M
    refine ⟨_, pss_cons (ps_if (pt_not (pt_chain op_le op_le pe_int (pe_callB call_len (by rfl) B.len PySem.boot_len (pa_cons (pv 0) pa_nil)) (pe_glob rfl mM rM))) (pss_one (ps_ret pe_non)) pss_nil)
      (pss_cons (ps_if (pt_not (pt_val (pe_allS (c := c) (P := T) (pb := between "0" "9") hr (by rfl) al (by decide +kernel) TB rfl ⟨rfl, rfl, by decide +kernel, by decide +kernel, by decide +kernel, twoLoc⟩ (pv 0) (elt_between rfl (by decide +kernel)) (fun _ => rfl)))) (pss_one (ps_ret pe_non)) pss_nil)
      (pss_one (ps_ret (pe_ifExp (PW.pt (pw_or (pt_cmpR op_eq (pv 0) pe_str (nomark _)) (pw_or1 (pt_cmpR op_ne (pe_ix ix_str (pv 0) pe_int (fun _ _ => rfl)) pe_str (nomark _))))) (pe_callTy call_int_str (by rfl) B.int (by decide +kernel) (pa_cons (pv 0) pa_nil)) pe_non)))), ?_⟩
    have no : okNum x = false → ∀ H', Same H H' → Q .non H' := fun h H' s1 => by
      have z := k H' s1
      unfold numD at z
      rw [h] at z
      exact z
    refine ⟨_, rfl, .str x, x.length, rfl, ⟨sm, rfl⟩, _, _, rfl, rfl, _, rfl, ?_⟩
    refine ite2 (fun z1 => ?_) (fun z1 => ?_)
    case refine_2 =>
      have z2 : ¬ 1 ≤ x.length := fun y => z1 (decide_eq_true (by omega))
      refine ⟨_, rfl, iteT (no ?_ H (Same.refl H))⟩
      unfold okNum
      rw [decide_eq_false z2]
      rfl
    have z2 : (1 : Int) ≤ (x.length : Nat) := of_decide_eq_true z1
    have e1 : decide (1 ≤ x.length) = true := decide_eq_true (by omega)
    refine ⟨_, _, rfl, rfl, _, rfl, ?_⟩
    by_cases z3 : x.length ≤ 31
    case neg =>
      rw [decide_eq_false (show ¬ ((x.length : Nat) : Int) ≤ 31 by omega)]
      refine iteT (no ?_ H (Same.refl H))
      unfold okNum
      rw [decide_eq_false z3, Bool.false_and, Bool.and_false]
    rw [decide_eq_true (show ((x.length : Nat) : Int) ≤ 31 by omega)]
    refine iteF ⟨_, rfl, x, rfl, tg, fun H2 tb => ⟨_, rfl, ?_⟩⟩
    have s1 := same_tabbed tb tg
    cases ha : x.cps.toList.all (between "0" "9") with
    | false =>
      refine iteT (no ?_ H2 s1)
      unfold okNum
      rw [ha, Bool.false_and, Bool.and_false, Bool.and_false]
    | true =>
      obtain ⟨n, hn⟩ := num_some (by omega) z3 ha
      have yes : (decide (x = "0") || !decide (x.cps.toList.head? = some 48)) = true → ∃ a n, [V.str x] = [V.str a] ∧ intText? a = some n ∧ a.length ≤ 640 ∧ Q (.int n) H2 := fun h => by
        refine ⟨x, n, rfl, hn, by omega, ?_⟩
        have z := k H2 s1
        unfold numD okNum at z
        rw [e1, decide_eq_true z3, ha, h, hn] at z
        exact z
      have o : okNum x = (decide (x = "0") || !decide (x.cps.toList.head? = some 48)) := by
        unfold okNum
        rw [e1, decide_eq_true z3, ha]
        rfl
      refine iteF ⟨_, rfl, rfl, _, rfl, ?_⟩
      have ev : decide (V.str x = V.str ("0" : Str)) = decide (x = "0") := by
        by_cases h : x = "0"
        · rw [h, decide_eq_true rfl, decide_eq_true rfl]
        · rw [decide_eq_false h, decide_eq_false (fun z => h (V.str.inj z))]
      rw [ev]
      cases h0 : decide (x = "0") with
      | true => exact iteT (iteT ⟨_, rfl, yes (by rw [h0]; rfl)⟩)
      | false =>
        have hp : 0 < x.cps.toList.length := by
          rw [Array.length_toList]
          exact (show 1 ≤ x.length by omega)
        have hat : atI x.cps.toList 0 = some (x.cps.toList[0]'hp) := atI_nat (j := 0) (List.getElem?_eq_getElem hp)
        have hd : x.cps.toList.head? = some (x.cps.toList[0]'hp) := by
          rw [List.head?_eq_getElem?, List.getElem?_eq_getElem hp]
        generalize x.cps.toList[0]'hp = c0 at hat hd
        refine iteF ⟨_, rfl, x, 0, c0, rfl, rfl, sm, hat, rfl, _, rfl, ?_⟩
        have e0 : (!decide (V.str (⟨#[c0]⟩ : Str) = V.str ("0" : Str))) = !decide (x.cps.toList.head? = some 48) := by
          rw [hd]
          congr 1
          by_cases h : c0 = 48
          · subst h
            rw [decide_eq_true (show some 48 = some 48 from rfl)]
            decide +kernel
          · rw [decide_eq_false (fun z => h (Option.some.inj z)), decide_eq_false (fun z => h ?_)]
            have q := congrArg (fun s : Str => s.cps.toList) (V.str.inj z)
            have q2 : [c0] = [48] := q.trans (by decide +kernel)
            exact (List.cons.inj q2).1
        rw [e0]
        cases h4 : decide (x.cps.toList.head? = some 48) with
        | true =>
          refine iteF (no ?_ H2 s1)
          rw [o, h0, h4]
          rfl
        | false => exact iteT ⟨_, rfl, yes (by rw [h0, h4]; rfl)⟩
end
end Vk
namespace Vk
open PySem PySem.Spec PyProof.Rows L2 GxR
/-- a number written -/
def dg (i : Int) : Str := Str.ofString (toString i)
theorem dg_tl (n : Nat) : (dg (n : Int)).cps.toList = TL.numL n := TL.tl_num n
theorem dg_len {n : Nat} (h : n ≤ 10 ^ 30) : 1 ≤ (dg (n : Int)).length ∧ (dg (n : Int)).length ≤ 31 := by
  rw [show ∀ s : Str, s.length = s.cps.toList.length from fun s => by rw [Array.length_toList]; rfl, dg_tl]
  refine ⟨List.length_pos_iff.mpr (TL.numL_ne n), TL.numL_len (by decide) (Nat.lt_of_le_of_lt h (by decide))⟩
theorem numL_head {n : Nat} (h : 0 < n) : (TL.numL n).head? ≠ some 48 := by
  induction n using Nat.strongRecOn with
  | _ n ih =>
    by_cases h10 : n < 10
    · rw [TL.numL_lt h10]
      intro z
      have := Option.some.inj z
      omega
    · rw [TL.numL_step (by omega), List.head?_append]
      have ne := ih (n / 10) (by omega) (by omega)
      intro z
      cases hq : (TL.numL (n / 10)).head? with
      | none => exact TL.numL_ne _ (List.head?_eq_none_iff.mp hq)
      | some c =>
        rw [hq] at z ne
        exact ne z
theorem numD_dg {n : Nat} (h : n ≤ 10 ^ 30) : numD (dg (n : Int)) = some (n : Int) := by
  obtain ⟨l1, l2⟩ := dg_len h
  have ok : okNum (dg (n : Int)) = true := by
    unfold okNum
    rw [decide_eq_true l1, decide_eq_true l2, dg_tl]
    have h3 : (TL.numL n).all (between "0" "9") = true := by
      rw [List.all_eq_true]
      intro c hc
      rw [between_09]
      exact decide_eq_true (TL.numL_digits n c hc)
    rw [h3]
    by_cases h0 : n = 0
    · subst h0
      decide +kernel
    · rw [decide_eq_false (numL_head (by omega))]
      simp
  unfold numD
  rw [if_pos ok]
  exact TL.int_num (Nat.le_trans (TL.numL_len (k := 31) (by decide) (Nat.lt_of_le_of_lt h (by decide))) (by decide))
/-- a count of a list of words -/
def countW : List Str → Option Int
  | [w] => if numD w = some 0 then none else numD w
  | _ => none
section
variable {P : Program} {w : World} {K : PySem.W.Frag} {mg : Str → Option Value} {base : Heap}
def spReadCount (K : PySem.W.Frag) (T : Addr) : Sp := fun vs H Q _ => ∃ (p : Addr) (ws : List Str), vs = [.ref p] ∧ SqL K H p (ws.map V.str) ∧ (∀ x ∈ ws, x.length ≤ sizeLine) ∧ TabG H T ∧ ∀ H', Same H H' → Q (optV (countW ws)) H'
theorem scReadCount : FnScope ["words", "number"] ["words"] (defScope sReadCount) := ⟨rfl, rfl, rfl, by decide +kernel, rfl, by decide +kernel, by decide +kernel⟩
theorem ok_readCount {T : Addr} (D : Df K mg "read_count" sReadCount ["words"]) (B : Blt mg) (N : Cl P w K mg base CX0 1 "read_number" ["word"] (spNum T)) : Cl P w K mg base CX0 2 "read_count" ["words"] (spReadCount K T) := by
  refine cl0 D scReadCount (fun vs H Q E h => ?_) (fun f cdv A outer s H vs Q E hr h => ?_)
  · obtain ⟨p, ws, rfl, _⟩ := h
    rfl
  · obtain ⟨p, ws, rfl, hp, sm, tg, k⟩ := h
    refine ⟨_, pss_cons (ps_if (pt_cmpR op_ne (pe_callB call_len_seq (by rfl) B.len PySem.boot_len (pa_cons (pv 0) pa_nil)) pe_int (nomark _)) (pss_one (ps_ret pe_non)) pss_nil)
      (pss_cons (ps_set (i := 1) scReadCount.nd rfl (Or.inl rfl) (pc N hr (by decide) (pa_cons (pe_ix ix_list (pv 0) pe_int (fun _ _ => rfl)) pa_nil)))
      (pss_one (ps_ret (pe_ifExp (pt_cmpR op_eq (pv 1) pe_int (nomark _)) pe_non (pv 1))))), ?_⟩
    refine ⟨_, rfl, p, _, rfl, .inl hp, rfl, _, rfl, ?_⟩
    match ws, hp, sm, k with
    | [], hp, sm, k => exact iteT (k H (Same.refl H))
    | a :: b :: r, hp, sm, k =>
      rw [show (!decide (V.int (((a :: b :: r).map V.str).length : Nat) = V.int 1)) = true from by
        rw [decide_eq_false (fun z => by have := V.int.inj z; rw [List.length_map, List.length_cons, List.length_cons] at this; omega)]
        rfl]
      exact iteT (k H (Same.refl H))
    | [a], hp, sm, k =>
      refine iteF ⟨_, rfl, p, _, 0, _, rfl, rfl, hp, rfl, a, rfl, sm a (by simp), tg, fun H1 s1 => ?_⟩
      have z : Q (optV (if numD a = some 0 then none else numD a)) H1 := k H1 s1
      cases hn : numD a with
      | none =>
        rw [hn] at z
        exact ⟨_, rfl, rfl, _, rfl, iteF ⟨_, rfl, z⟩⟩
      | some n =>
        rw [hn] at z
        refine ⟨_, rfl, rfl, _, rfl, ?_⟩
        by_cases h0 : n = 0
        · subst h0
          exact iteT z
        · rw [if_neg (fun e => h0 (Option.some.inj e))] at z
          rw [show decide (optV (some n) = V.int 0) = false from decide_eq_false (fun e => h0 (V.int.inj e))]
          exact iteF ⟨_, rfl, z⟩
end
end Vk
namespace Vk
open PySem PySem.Spec PyProof.Rows L2 GxR
theorem spl_wt (S : List Nat) : ∀ (xs : List Nat) (k : Nat) (acc : List Nat), ((TL.spl S k acc xs).map fun p => p.length + 1).sum ≤ acc.length + xs.length + 1
  | [], k, acc => by
    rw [TL.spl_nil]
    simp
  | c :: r, 0, acc => by
    show ((if TL.pre S (c :: r) = true then acc :: TL.spl S (S.length - 1) [] r else TL.spl S 0 (acc ++ [c]) r).map fun p => p.length + 1).sum ≤ _
    split
    · have z := spl_wt S r (S.length - 1) []
      rw [List.map_cons, List.sum_cons, List.length_cons]
      simp only [List.length_nil] at z
      omega
    · have z := spl_wt S r 0 (acc ++ [c])
      rw [List.length_append, List.length_singleton] at z
      rw [List.length_cons]
      omega
  | c :: r, k + 1, acc => by
    have z := spl_wt S r k acc
    show ((TL.spl S k acc r).map fun p => p.length + 1).sum ≤ _
    rw [List.length_cons]
    omega
/-- signs and ends of words -/
def wt (ws : List Str) : Nat := (ws.map fun s => s.length + 1).sum
theorem wt_nil : wt [] = 0 := rfl
theorem wt_cons (s : Str) (ws : List Str) : wt (s :: ws) = s.length + 1 + wt ws := by
  unfold wt
  rw [List.map_cons, List.sum_cons]
theorem wt_app (a b : List Str) : wt (a ++ b) = wt a + wt b := by
  unfold wt
  rw [List.map_append, List.sum_append]
theorem wt_mem {s : Str} : ∀ {ws : List Str}, s ∈ ws → s.length + 1 ≤ wt ws
  | x :: ws, h => by
    rw [wt_cons]
    rcases List.mem_cons.mp h with rfl | h
    · omega
    · have := wt_mem h
      omega
theorem wt_len : ∀ ws : List Str, ws.length ≤ wt ws
  | [] => Nat.zero_le _
  | x :: ws => by
    have := wt_len ws
    rw [wt_cons, List.length_cons]
    omega
theorem wt_set (x : Str) : ∀ (ws : List Str) (i : Nat), wt (ws.set i x) ≤ wt ws + (x.length + 1)
  | [], _ => by rw [List.set_nil, wt_nil]; omega
  | y :: ws, 0 => by
    rw [List.set_cons_zero, wt_cons, wt_cons]
    omega
  | y :: ws, i + 1 => by
    have := wt_set x ws i
    rw [List.set_cons_succ, wt_cons, wt_cons]
    omega
theorem wt_erase : ∀ (ws : List Str) (i : Nat), wt (ws.eraseIdx i) ≤ wt ws
  | [], _ => by rw [List.eraseIdx_nil]; exact Nat.le_refl _
  | y :: ws, 0 => by
    rw [List.eraseIdx_zero, List.tail_cons, wt_cons]
    omega
  | y :: ws, i + 1 => by
    have := wt_erase ws i
    rw [List.eraseIdx_cons_succ, wt_cons, wt_cons]
    omega
theorem wt_ins (x : Str) (ws : List Str) (i : Nat) : wt (ws.take i ++ [x] ++ ws.drop i) = wt ws + (x.length + 1) := by
  have e : wt ws = wt (ws.take i) + wt (ws.drop i) := by rw [← wt_app, List.take_append_drop]
  rw [wt_app, wt_app, e, wt_cons, wt_nil]
  omega
theorem wt_sum : ∀ ws : List Str, (ws.map (·.length)).sum + ws.length * 1 = wt ws
  | [] => rfl
  | x :: ws => by
    have := wt_sum ws
    rw [wt_cons, List.map_cons, List.sum_cons, List.length_cons]
    omega
theorem split_wt (x : Str) {b : List Nat} (hb : b ≠ []) (hk : b.all (· < 256) = true) : wt (Txt.split x (SX.S b)) ≤ x.length + 1 := by
  have e : x = SX.S x.cps.toList := rfl
  rw [e, SX.split_S hb hk, ← e]
  have z := spl_wt b x.cps.toList 0 []
  unfold wt
  rw [List.map_map]
  have e2 : ((fun s : Str => s.length + 1) ∘ SX.S) = fun p : List Nat => p.length + 1 := by
    funext p
    show (SX.S p).length + 1 = p.length + 1
    rw [SX.S_len]
  rw [e2]
  simp only [List.length_nil] at z
  have : x.length = x.cps.toList.length := slen
  omega
theorem split_sp (x : Str) : wt (Txt.split x " ") ≤ x.length + 1 := by
  have z := split_wt x (b := [32]) (by simp) (by decide)
  rw [show SX.S [32] = (" " : Str) from by decide +kernel] at z
  exact z
theorem split_nl (x : Str) : wt (Txt.split x "\n") ≤ x.length + 1 := by
  have z := split_wt x (b := [10]) (by simp) (by decide)
  rw [show SX.S [10] = ("\n" : Str) from by decide +kernel] at z
  exact z
theorem split_ne (x : Str) {b : List Nat} (hb : b ≠ []) (hk : b.all (· < 256) = true) : Txt.split x (SX.S b) ≠ [] := by
  have e : x = SX.S x.cps.toList := rfl
  rw [e, SX.split_S hb hk]
  have ne : ∀ (xs : List Nat) (k : Nat) (acc : List Nat), TL.spl b k acc xs ≠ [] := by
    intro xs
    induction xs with
    | nil => intro k acc; rw [TL.spl_nil]; simp
    | cons c r ih =>
      intro k acc
      cases k with
      | zero =>
        show (if TL.pre b (c :: r) = true then acc :: TL.spl b (b.length - 1) [] r else TL.spl b 0 (acc ++ [c]) r) ≠ []
        split
        · simp
        · exact ih _ _
      | succ k => exact ih k acc
  simpa using ne _ _ _
theorem split_sp_ne (x : Str) : Txt.split x " " ≠ [] := by
  have z := split_ne x (b := [32]) (by simp) (by decide)
  rw [show SX.S [32] = (" " : Str) from by decide +kernel] at z
  exact z
theorem joinL_sum (y : List Nat) : ∀ ps : List (List Nat), (TL.joinL y ps).length ≤ (ps.map (·.length)).sum + ps.length * y.length
  | [] => Nat.zero_le _
  | [p] => by
    show p.length ≤ _
    simp
  | p :: q :: r => by
    have h2 := joinL_sum y (q :: r)
    show (p ++ (y ++ TL.joinL y (q :: r))).length ≤ _
    rw [List.length_append, List.length_append, List.map_cons, List.sum_cons, List.length_cons (a := p), Nat.succ_mul]
    omega
theorem join_wt {a : Str} (ws : List Str) (h : a.length = 1) : (Txt.join a ws).length ≤ wt ws := by
  rw [slen]
  show (TL.tl (Txt.join a ws)).length ≤ _
  rw [TL.join_eq, TL.tl_join]
  have z := joinL_sum (TL.tl a) (ws.map TL.tl)
  have e1 : (TL.tl a).length = 1 := by rw [← h, slen]
  have e2 : (ws.map TL.tl).map (·.length) = ws.map (·.length) := by
    rw [List.map_map]
    refine List.map_congr_left fun s _ => ?_
    show (TL.tl s).length = s.length
    rw [slen]
  rw [e1, e2, List.length_map, wt_sum] at z
  exact z
end Vk
namespace Vk
open PySem PySem.Spec PyProof.Rows L2 GxR
def d09 : Str := "0123456789"
theorem d09_list : d09.cps.toList = List.range' 48 10 := by decide +kernel
theorem mem_d09 (c : Nat) : decide (c ∈ d09.cps.toList) = between "0" "9" c := by
  rw [between_09, d09_list]
  congr 1
  rw [List.mem_range'_1]
  exact propext ⟨fun h => by omega, fun h => by omega⟩
section
variable {P : Program} {w : World} {K : PySem.W.Frag} {mg : Str → Option Value} {base : Heap}
def spNumL : Sp := fun vs H Q _ => ∃ (s : Str), vs = [.str s] ∧ s.length ≤ sizeLine ∧ ∀ H', Same H H' → Q (optV (numD s)) H'
theorem scNumberL : FnScope ["word", "char"] ["word"] (defScope sNumberL) := ⟨rfl, rfl, rfl, by decide +kernel, rfl, by decide +kernel, by decide +kernel⟩
theorem ok_numberL (D : Df K mg "_law_number" sNumberL ["word"]) (B : Blt mg) : Cl P w K mg base CX0 1 "_law_number" ["word"] spNumL := by
  refine cl0 D scNumberL (fun vs H Q E h => ?_) (fun f cdv A outer s H vs Q E hr h => ?_)
  · obtain ⟨x, rfl, _⟩ := h
    rfl
  · obtain ⟨x, rfl, sm, k⟩ := h
    refine ⟨_, pss_cons (ps_if (PW.pt (pw_or (pt_not (pt_chain op_le op_le pe_int (pe_callB call_len (by rfl) B.len PySem.boot_len (pa_cons (pv 0) pa_nil)) pe_int))
        (pw_or1 (pt_cmpR (op_neNilL (Nat.lt_of_succ_lt (hu_of hr))) (pe_lc (own := [("char", 1)]) (g := gName 1) (tt := tTest (tOp (fun x y H Q => ∃ (c : Nat) (z : Str), x = .str ⟨#[c]⟩ ∧ y = .str z ∧ Q (.bl (!decide (c ∈ z.cps.toList))) H) (tVar 1) (tC (.str d09)))) (te := tVar 1) (by rfl) scNumberL.nd (pi_str (pv 0))
          (blkOk_by (own := [("char", 1)]) (N := ["word", "char"]) (sc := defScope sNumberL) (by decide +kernel)) (fun _ _ _ _ _ => pg_name (i := 1) scNumberL.nd rfl (Or.inl rfl)) (fun _ _ _ _ _ => pts_one (pt_cmpR op_notIn_sign (pv 1) pe_str (by rfl))) (fun _ _ _ _ _ => pv 1))
          (pe_lst pa_nil) (nomark _))))) (pss_one (ps_ret pe_non)) pss_nil)
      (pss_cons (ps_if (PW.pt (pw_and (pt_cmpR op_eq (pe_ix ix_str (pv 0) pe_int (fun _ _ => rfl)) pe_str (nomark _)) (pw_and1 (pt_cmpR op_ne (pv 0) pe_str (nomark _))))) (pss_one (ps_ret pe_non)) pss_nil)
      (pss_one (ps_ret (pe_callTy call_int_str (by rfl) B.int (by decide +kernel) (pa_cons (pv 0) pa_nil))))), ?_⟩
    have no : okNum x = false → ∀ H', Same H H' → Q .non H' := fun h H' s1 => by
      have z := k H' s1
      unfold numD at z
      rw [h] at z
      exact z
    refine ⟨_, rfl, .str x, x.length, rfl, ⟨sm, rfl⟩, _, _, rfl, rfl, _, rfl, ?_⟩
    refine ite2 (fun z1 => ?_) (fun z1 => ?_)
    case refine_2 =>
      have z2 : ¬ 1 ≤ x.length := fun y => z1 (decide_eq_true (by omega))
      refine ⟨_, rfl, iteT (iteT (no ?_ H (Same.refl H)))⟩
      unfold okNum
      rw [decide_eq_false z2]
      rfl
    have z2 : (1 : Int) ≤ (x.length : Nat) := of_decide_eq_true z1
    have e1 : decide (1 ≤ x.length) = true := decide_eq_true (by omega)
    refine ⟨_, _, rfl, rfl, _, rfl, ?_⟩
    by_cases z3 : x.length ≤ 31
    case neg =>
      rw [decide_eq_false (show ¬ ((x.length : Nat) : Int) ≤ 31 by omega)]
      refine iteT (iteT (no ?_ H (Same.refl H)))
      unfold okNum
      rw [decide_eq_false z3, Bool.false_and, Bool.and_false]
    rw [decide_eq_true (show ((x.length : Nat) : Int) ≤ 31 by omega)]
    refine iteF ⟨_, rfl, x, rfl, fun D0 nD => ?_⟩
    refine lc_it (walk_str (z := x)) (fun m Hc => ∃ acc, Same H Hc ∧ Hc D0 = some (.lst acc) ∧ acc.length ≤ m ∧ (acc = [] ↔ ∀ c ∈ x.cps.toList.take m, between "0" "9" c = true))
      ⟨[], same_new nD, upd_same, Nat.le_refl _, Iff.intro (fun _ c hc => absurd hc (by simp)) (fun _ => rfl)⟩ (fun _ _ _ _ => True.intro) ?_ ?_
    · rintro m y1 Hc0 Hc hm ⟨acc, s1, hD, hacc, iff⟩ ⟨rfl, c, hc, rfl⟩
      have hc2 : x.cps.toList[m]? = some c := by rw [Array.getElem?_toList]; exact hc
      have tk : x.cps.toList.take (m + 1) = x.cps.toList.take m ++ [c] := by
        rw [List.take_add_one, hc2]
        rfl
      have hm8 : m ≤ 31 := by
        have z : x.cps.size = x.length := rfl
        omega
      refine ⟨rfl, _, rfl, c, d09, rfl, rfl, _, rfl, ?_⟩
      rw [mem_d09]
      cases hb : between "0" "9" c with
      | true =>
        refine iteF ⟨acc, s1, hD, by omega, ?_⟩
        rw [iff, tk]
        refine Iff.intro (fun h x hx => ?_) (fun h x hx => h x (List.mem_append_left _ hx))
        rcases List.mem_append.mp hx with hx | hx
        · exact h x hx
        · rw [List.mem_singleton.mp hx]
          exact hb
      | false =>
        refine iteT ⟨_, rfl, acc, hD, Nat.lt_of_le_of_lt hacc (Nat.lt_of_le_of_lt hm8 (by decide)), acc ++ [.str ⟨#[c]⟩], same_put s1 nD, upd_same, by rw [List.length_append, List.length_singleton]; omega, ?_⟩
        refine Iff.intro (fun h => absurd h (by simp)) (fun h => ?_)
        have z := h c (by rw [tk]; simp)
        rw [hb] at z
        cases z
    · rintro Hc ⟨acc, s1, hD, hacc, iff⟩
      have full : x.cps.toList.take x.cps.size = x.cps.toList := List.take_of_length_le (by simp)
      rw [full] at iff
      refine ⟨(by show 0 ≤ sizeLine; decide), fun e9 ne9 => ?_⟩
      have s2 := s1.trans (same_new (o := .lst []) ne9)
      refine ⟨D0, e9, acc, rfl, rfl, SqL.of ((same_new ne9).at hD), SqL.of upd_same, _, rfl, ?_⟩
      cases acc with
      | cons q1 q2 =>
        refine iteT (no ?_ _ s2)
        have z : x.cps.toList.all (between "0" "9") = false := by
          refine Bool.eq_false_iff.mpr fun h => ?_
          have y := iff.mpr (List.all_eq_true.mp h)
          cases y
        unfold okNum
        rw [z, Bool.false_and, Bool.and_false, Bool.and_false]
      | nil =>
        have ha : x.cps.toList.all (between "0" "9") = true := List.all_eq_true.mpr (iff.mp rfl)
        obtain ⟨n, hn⟩ := num_some (by omega) z3 ha
        have o : okNum x = (decide (x = "0") || !decide (x.cps.toList.head? = some 48)) := by
          unfold okNum
          rw [e1, decide_eq_true z3, ha]
          rfl
        generalize upd Hc e9 (.lst []) = H2 at s2 ⊢
        have yes : (decide (x = "0") || !decide (x.cps.toList.head? = some 48)) = true → ∃ a n, [V.str x] = [V.str a] ∧ intText? a = some n ∧ a.length ≤ 640 ∧ Q (.int n) H2 := fun h => by
          refine ⟨x, n, rfl, hn, by omega, ?_⟩
          have z := k H2 s2
          unfold numD at z
          rw [o, h, hn] at z
          exact z
        have hp : 0 < x.cps.toList.length := by
          rw [Array.length_toList]
          exact (show 1 ≤ x.length by omega)
        have hat : atI x.cps.toList 0 = some (x.cps.toList[0]'hp) := atI_nat (j := 0) (List.getElem?_eq_getElem hp)
        have hd : x.cps.toList.head? = some (x.cps.toList[0]'hp) := by
          rw [List.head?_eq_getElem?, List.getElem?_eq_getElem hp]
        generalize x.cps.toList[0]'hp = c0 at hat hd
        refine iteF ⟨_, rfl, x, 0, c0, rfl, rfl, sm, hat, rfl, _, rfl, ?_⟩
        have e0 : decide (V.str (⟨#[c0]⟩ : Str) = V.str ("0" : Str)) = decide (x.cps.toList.head? = some 48) := by
          rw [hd]
          by_cases h : c0 = 48
          · subst h
            rw [decide_eq_true (show some 48 = some 48 from rfl)]
            decide +kernel
          · rw [decide_eq_false (fun z => h (Option.some.inj z)), decide_eq_false (fun z => h ?_)]
            have q := congrArg (fun s : Str => s.cps.toList) (V.str.inj z)
            have q2 : [c0] = [48] := q.trans (by decide +kernel)
            exact (List.cons.inj q2).1
        rw [e0]
        cases h4 : decide (x.cps.toList.head? = some 48) with
        | false => exact iteF (iteF ⟨_, rfl, yes (by rw [h4]; simp)⟩)
        | true =>
          refine iteT ⟨_, rfl, rfl, _, rfl, ?_⟩
          rw [eq_strV]
          cases h0 : decide (x = "0") with
          | true => exact iteF ⟨_, rfl, yes (by rw [h0]; rfl)⟩
          | false =>
            refine iteT (no ?_ H2 s2)
            rw [o, h0, h4]
            rfl
end
end Vk
namespace Vk
open PySem PySem.Spec PyProof.Rows L2
/-- the truth of the twelve questions, for the class with number i -/
def bits (i : Nat) : List V := (List.range 12).map fun j => V.bl (decide (j = i))
def words7 : List Str := ["jobs", "rule", "lengths", "log", "marks", "named", "order"]
theorem bits_len (i : Nat) : (bits i).length = 12 := by simp [bits]
theorem bits_get {i m : Nat} (h : m < 12) : (bits i)[m]? = some (V.bl (decide (m = i))) := by
  unfold bits
  rw [List.getElem?_map, List.getElem?_range h]
  rfl
theorem bits_flat (i : Nat) : (bits i).all flatV = true := by
  unfold bits
  rw [List.all_eq_true]
  intro x hx
  obtain ⟨j, _, rfl⟩ := List.mem_map.mp hx
  rfl
theorem bits_cnt : ∀ i : Fin 12, (bits i.1).countP (fun z => eqV z (.bl true)) = 1 := by decide +kernel
structure Kn (K : PySem.W.Frag) (mg : Str → Option Value) (C : Addr) (i : Nat) : Prop where
  ex : ExcC K C
  xf : XfC K C
  noP : PySem.W.findIn K (.ref C) "place" = some none
  ve : mg "ValueError" = none
  kv : PySem.W.kitOne K (.ref C) (.type "ValueError") = some true
  se : ∃ S, mg "SlotError" = some (.ref S) ∧ PySem.W.kitOne K (.ref C) (.ref S) = some true ∧ PySem.W.exmOne K (.ref C) (.ref S) = some true
  c0 : ∃ D, mg "NoJobs" = some (.ref D) ∧ PySem.W.kitOne K (.ref C) (.ref D) = some (decide (0 = i))
  c1 : ∃ D, mg "NoRule" = some (.ref D) ∧ PySem.W.kitOne K (.ref C) (.ref D) = some (decide (1 = i))
  c2 : ∃ D, mg "NoLengths" = some (.ref D) ∧ PySem.W.kitOne K (.ref C) (.ref D) = some (decide (2 = i))
  c3 : ∃ D, mg "NoLog" = some (.ref D) ∧ PySem.W.kitOne K (.ref C) (.ref D) = some (decide (3 = i))
  c4 : ∃ D, mg "NoMarks" = some (.ref D) ∧ PySem.W.kitOne K (.ref C) (.ref D) = some (decide (4 = i))
  c5 : ∃ D, mg "NoNamed" = some (.ref D) ∧ PySem.W.kitOne K (.ref C) (.ref D) = some (decide (5 = i))
  c6 : ∃ D, mg "NoOrder" = some (.ref D) ∧ PySem.W.kitOne K (.ref C) (.ref D) = some (decide (6 = i))
  c7 : ∃ D, mg "NoText" = some (.ref D) ∧ PySem.W.kitOne K (.ref C) (.ref D) = some (decide (7 = i))
  c8 : ∃ D, mg "NoNumber" = some (.ref D) ∧ PySem.W.kitOne K (.ref C) (.ref D) = some (decide (8 = i))
  c9 : ∃ D, mg "NoName" = some (.ref D) ∧ PySem.W.kitOne K (.ref C) (.ref D) = some (decide (9 = i))
  c10 : ∃ D, mg "NoUndo" = some (.ref D) ∧ PySem.W.kitOne K (.ref C) (.ref D) = some (decide (10 = i))
  c11 : ∃ D, mg "NoLine" = some (.ref D) ∧ PySem.W.kitOne K (.ref C) (.ref D) = some (decide (11 = i))
section
variable {P : Program} {w : World} {K : PySem.W.Frag} {mg : Str → Option Value} {base : Heap}
def spKind (C : Addr) (i : Nat) : Sp := fun vs H Q _ => ∃ (a dd : Addr) (v : V), vs = [.ref a] ∧ H a = some (Xco a (.ref C) (some dd)) ∧ H dd = some (.xd [(("place" : Str), v)]) ∧
  ∀ (t : Addr) (H' : Hp), Same H H' → H' t = some (.tup [.str (words7.getD i ""), v]) → Q (.ref t) H'
theorem scKind : FnScope ["caught", "kinds", "at"] ["caught"] (defScope sKind) := ⟨rfl, rfl, rfl, by decide +kernel, rfl, by decide +kernel, by decide +kernel⟩
theorem ok_kind {C : Addr} {i : Nat} (hi : i < 7) (D : Df K mg "_law_kind" sKind ["caught"]) (B : Blt mg) (N : Kn K mg C i) : Cl P w K mg base CX0 1 "_law_kind" ["caught"] (spKind C i) := by
  refine cl0 D scKind (fun vs H Q E h => ?_) (fun f cdv A outer s H vs Q E hr h => ?_)
  · obtain ⟨a, dd, v, rfl, _⟩ := h
    rfl
  · obtain ⟨a, dd, v, rfl, ha, hdd, k⟩ := h
    obtain ⟨S, mS, kS, _⟩ := N.se
    obtain ⟨D0, m0, k0⟩ := N.c0
    obtain ⟨D1, m1, k1⟩ := N.c1
    obtain ⟨D2, m2, k2⟩ := N.c2
    obtain ⟨D3, m3, k3⟩ := N.c3
    obtain ⟨D4, m4, k4⟩ := N.c4
    obtain ⟨D5, m5, k5⟩ := N.c5
    obtain ⟨D6, m6, k6⟩ := N.c6
    obtain ⟨D7, m7, k7⟩ := N.c7
    obtain ⟨D8, m8, k8⟩ := N.c8
    obtain ⟨D9, m9, k9⟩ := N.c9
    obtain ⟨D10, m10, k10⟩ := N.c10
    obtain ⟨D11, m11, k11⟩ := N.c11
    refine ⟨_, pss_cons (ps_set (i := 1) scKind.nd rfl (Or.inl rfl) (pe_lst (pa_cons (pe_callB call_isX (by rfl) B.isi (by decide +kernel) (pa_cons (pv 0) (pa_cons (pe_glob rfl m0 (show RelV (.ref _) _ from rfl)) pa_nil))) (pa_cons (pe_callB call_isX (by rfl) B.isi (by decide +kernel) (pa_cons (pv 0) (pa_cons (pe_glob rfl m1 (show RelV (.ref _) _ from rfl)) pa_nil))) (pa_cons (pe_callB call_isX (by rfl) B.isi (by decide +kernel) (pa_cons (pv 0) (pa_cons (pe_glob rfl m2 (show RelV (.ref _) _ from rfl)) pa_nil))) pa_nil)))))
      (pss_cons (ps_set (i := 1) scKind.nd rfl (Or.inl rfl) (pe_op op_cat (pv 1) (pe_lst (pa_cons (pe_callB call_isX (by rfl) B.isi (by decide +kernel) (pa_cons (pv 0) (pa_cons (pe_glob rfl m3 (show RelV (.ref _) _ from rfl)) pa_nil))) (pa_cons (pe_callB call_isX (by rfl) B.isi (by decide +kernel) (pa_cons (pv 0) (pa_cons (pe_glob rfl m4 (show RelV (.ref _) _ from rfl)) pa_nil))) (pa_cons (pe_callB call_isX (by rfl) B.isi (by decide +kernel) (pa_cons (pv 0) (pa_cons (pe_glob rfl m5 (show RelV (.ref _) _ from rfl)) pa_nil))) pa_nil))))))
      (pss_cons (ps_set (i := 1) scKind.nd rfl (Or.inl rfl) (pe_op op_cat (pv 1) (pe_lst (pa_cons (pe_callB call_isX (by rfl) B.isi (by decide +kernel) (pa_cons (pv 0) (pa_cons (pe_glob rfl m6 (show RelV (.ref _) _ from rfl)) pa_nil))) (pa_cons (pe_callB call_isX (by rfl) B.isi (by decide +kernel) (pa_cons (pv 0) (pa_cons (pe_glob rfl m7 (show RelV (.ref _) _ from rfl)) pa_nil))) (pa_cons (pe_callB call_isX (by rfl) B.isi (by decide +kernel) (pa_cons (pv 0) (pa_cons (pe_glob rfl m8 (show RelV (.ref _) _ from rfl)) pa_nil))) pa_nil))))))
      (pss_cons (ps_set (i := 1) scKind.nd rfl (Or.inl rfl) (pe_op op_cat (pv 1) (pe_lst (pa_cons (pe_callB call_isX (by rfl) B.isi (by decide +kernel) (pa_cons (pv 0) (pa_cons (pe_glob rfl m9 (show RelV (.ref _) _ from rfl)) pa_nil))) (pa_cons (pe_callB call_isX (by rfl) B.isi (by decide +kernel) (pa_cons (pv 0) (pa_cons (pe_glob rfl m10 (show RelV (.ref _) _ from rfl)) pa_nil))) (pa_cons (pe_callB call_isX (by rfl) B.isi (by decide +kernel) (pa_cons (pv 0) (pa_cons (pe_glob rfl m11 (show RelV (.ref _) _ from rfl)) pa_nil))) pa_nil))))))
      (pss_cons (ps_if (PW.pt (pw_or (pt_not (pt_val (pe_callB call_isX (by rfl) B.isi (by decide +kernel) (pa_cons (pv 0) (pa_cons (pe_glob rfl mS (show RelV (.ref _) _ from rfl)) pa_nil))))) (pw_or (pt_not (pt_val (pe_callB call_isX (by rfl) B.isi (by decide +kernel) (pa_cons (pv 0) (pa_cons (pe_bltn (v := .ty "ValueError") (u := .type "ValueError") (by rfl) N.ve (by decide +kernel) rfl) pa_nil)))))
        (pw_or1 (pt_cmpR op_ne (pe_bm PySem.F.plainAttrs_list PySem.F.slot_list_count PySem.F.type_list_count mt_countV (pv 1) (pa_cons pe_bl pa_nil)) pe_int (nomark _)))))) (pss_one (ps_ret (pe_tup (pa_cons pe_str (pa_cons pe_int pa_nil))))) pss_nil)
      (pss_cons (ps_set (i := 2) scKind.nd rfl (Or.inl rfl) (pe_bm PySem.F.plainAttrs_list PySem.F.slot_list_index PySem.F.type_list_index mt_index (pv 1) (pa_cons pe_bl pa_nil)))
      (pss_cons (ps_if (pt_cmpR op_lt (pv 2) pe_int (nomark _)) (pss_one (ps_ret (pe_tup (pa_cons (pe_ix ix_list (pe_lst (pa_cons pe_str (pa_cons pe_str (pa_cons pe_str (pa_cons pe_str (pa_cons pe_str (pa_cons pe_str (pa_cons pe_str pa_nil)))))))) (pv 2) (fun _ _ => rfl)) (pa_cons (pe_xp (pv 0)) pa_nil))))) pss_nil)
      (pss_cons ps_never (pss_cons ps_never (pss_cons ps_never (pss_one ps_never)))))))))), ?_⟩
    refine ⟨_, rfl, a, C, some dd, _, _, _, rfl, (Same.refl H).at ha, (fun d2 e2 => by cases e2; exact ⟨_, (Same.refl H).at hdd⟩), N.ex, .own _, k0,
      _, rfl, a, C, some dd, _, _, _, rfl, (Same.refl H).at ha, (fun d2 e2 => by cases e2; exact ⟨_, (Same.refl H).at hdd⟩), N.ex, .own _, k1,
      _, rfl, a, C, some dd, _, _, _, rfl, (Same.refl H).at ha, (fun d2 e2 => by cases e2; exact ⟨_, (Same.refl H).at hdd⟩), N.ex, .own _, k2, (by show 3 ≤ sizeLine; decide), fun p1 n1 => ?_⟩
    have s1 := same_new (o := .lst [.bl (decide (0 = i)), .bl (decide (1 = i)), .bl (decide (2 = i))]) n1
    refine ⟨_, rfl, _, rfl, a, C, some dd, _, _, _, rfl, s1.at ha, (fun d2 e2 => by cases e2; exact ⟨_, s1.at hdd⟩), N.ex, .own _, k3,
      _, rfl, a, C, some dd, _, _, _, rfl, s1.at ha, (fun d2 e2 => by cases e2; exact ⟨_, s1.at hdd⟩), N.ex, .own _, k4,
      _, rfl, a, C, some dd, _, _, _, rfl, s1.at ha, (fun d2 e2 => by cases e2; exact ⟨_, s1.at hdd⟩), N.ex, .own _, k5, (by show 3 ≤ sizeLine; decide), fun q1 m1' => ?_⟩
    have t1 := same_new (o := .lst [.bl (decide (3 = i)), .bl (decide (4 = i)), .bl (decide (5 = i))]) m1'
    refine ⟨p1, q1, _, _, rfl, rfl, t1.at upd_same, upd_same, (by show 3 + 3 ≤ sizeLine; decide), fun p2 n2 => ?_⟩
    have s2 := (s1.trans t1).trans (same_new (o := .lst ([.bl (decide (0 = i)), .bl (decide (1 = i)), .bl (decide (2 = i))] ++ [.bl (decide (3 = i)), .bl (decide (4 = i)), .bl (decide (5 = i))])) n2)
    refine ⟨_, rfl, _, rfl, a, C, some dd, _, _, _, rfl, s2.at ha, (fun d2 e2 => by cases e2; exact ⟨_, s2.at hdd⟩), N.ex, .own _, k6,
      _, rfl, a, C, some dd, _, _, _, rfl, s2.at ha, (fun d2 e2 => by cases e2; exact ⟨_, s2.at hdd⟩), N.ex, .own _, k7,
      _, rfl, a, C, some dd, _, _, _, rfl, s2.at ha, (fun d2 e2 => by cases e2; exact ⟨_, s2.at hdd⟩), N.ex, .own _, k8, (by show 3 ≤ sizeLine; decide), fun q2 m2' => ?_⟩
    have t2 := same_new (o := .lst [.bl (decide (6 = i)), .bl (decide (7 = i)), .bl (decide (8 = i))]) m2'
    refine ⟨p2, q2, _, _, rfl, rfl, t2.at upd_same, upd_same, (by show 6 + 3 ≤ sizeLine; decide), fun p3 n3 => ?_⟩
    have s3 := (s2.trans t2).trans (same_new (o := .lst (([.bl (decide (0 = i)), .bl (decide (1 = i)), .bl (decide (2 = i))] ++ [.bl (decide (3 = i)), .bl (decide (4 = i)), .bl (decide (5 = i))]) ++ [.bl (decide (6 = i)), .bl (decide (7 = i)), .bl (decide (8 = i))])) n3)
    refine ⟨_, rfl, _, rfl, a, C, some dd, _, _, _, rfl, s3.at ha, (fun d2 e2 => by cases e2; exact ⟨_, s3.at hdd⟩), N.ex, .own _, k9,
      _, rfl, a, C, some dd, _, _, _, rfl, s3.at ha, (fun d2 e2 => by cases e2; exact ⟨_, s3.at hdd⟩), N.ex, .own _, k10,
      _, rfl, a, C, some dd, _, _, _, rfl, s3.at ha, (fun d2 e2 => by cases e2; exact ⟨_, s3.at hdd⟩), N.ex, .own _, k11, (by show 3 ≤ sizeLine; decide), fun q3 m3' => ?_⟩
    have t3 := same_new (o := .lst [.bl (decide (9 = i)), .bl (decide (10 = i)), .bl (decide (11 = i))]) m3'
    refine ⟨p3, q3, _, _, rfl, rfl, t3.at upd_same, upd_same, (by show 9 + 3 ≤ sizeLine; decide), fun p4 n4 => ?_⟩
    have s4 := (s3.trans t3).trans (same_new (o := .lst ((([.bl (decide (0 = i)), .bl (decide (1 = i)), .bl (decide (2 = i))] ++ [.bl (decide (3 = i)), .bl (decide (4 = i)), .bl (decide (5 = i))]) ++ [.bl (decide (6 = i)), .bl (decide (7 = i)), .bl (decide (8 = i))]) ++ [.bl (decide (9 = i)), .bl (decide (10 = i)), .bl (decide (11 = i))])) n4)
    have e12 : ((([.bl (decide (0 = i)), .bl (decide (1 = i)), .bl (decide (2 = i))] ++ [.bl (decide (3 = i)), .bl (decide (4 = i)), .bl (decide (5 = i))]) ++ [.bl (decide (6 = i)), .bl (decide (7 = i)), .bl (decide (8 = i))]) ++ [.bl (decide (9 = i)), .bl (decide (10 = i)), .bl (decide (11 = i))]) = bits i := rfl
    refine ⟨_, rfl, a, C, some dd, _, _, _, rfl, s4.at ha, (fun d2 e2 => by cases e2; exact ⟨_, s4.at hdd⟩), N.ex, .own _, kS, _, rfl, iteF ?_⟩
    refine ⟨_, rfl, a, C, some dd, _, _, _, rfl, s4.at ha, (fun d2 e2 => by cases e2; exact ⟨_, s4.at hdd⟩), N.ex, .ty "ValueError", N.kv, _, rfl, iteF ?_⟩
    refine ⟨_, rfl, .inl ⟨rfl, _, SqL.of upd_same⟩, p4, _, _, rfl, rfl, SqL.of upd_same, rfl, ?_, ?_⟩
    · rw [e12]
      exact bits_flat i
    rw [e12]
    have ec : (bits i).countP (fun z => eqV z (.bl true)) = 1 := bits_cnt ⟨i, by omega⟩
    rw [ec]
    refine ⟨rfl, _, rfl, iteF ?_⟩
    refine ⟨_, rfl, .inl ⟨rfl, _, SqL.of upd_same⟩, p4, _, _, i, .bl (decide (i = i)), rfl, rfl, SqL.of upd_same, rfl, bits_flat i, bits_get (by omega), by rw [decide_eq_true rfl]; rfl, fun m z' hm hz => ?_, ?_⟩
    · rw [bits_get (by omega)] at hz
      cases hz
      rw [decide_eq_false (by omega)]
      rfl
    refine ⟨_, rfl, _, _, rfl, rfl, _, rfl, ?_⟩
    rw [decide_eq_true (show (i : Int) < 7 by omega)]
    refine iteT ⟨(by show 7 ≤ sizeLine; decide), fun l nl => ?_⟩
    have s5 := s4.trans (same_new (o := .lst (words7.map V.str)) nl)
    have ew : (words7.map V.str)[i]? = some (.str (words7.getD i "")) := by
      rw [List.getElem?_map, List.getD_eq_getElem?_getD]
      have hl : i < words7.length := hi
      rw [List.getElem?_eq_getElem hl]
      rfl
    refine ⟨_, rfl, l, _, _, _, rfl, rfl, SqL.of upd_same, atI_nat ew, _, rfl, a, C, dd, _, v, rfl, s5.at ha, s5.at hdd, by simp [List.lookup], N.xf, N.noP, (by show 2 ≤ sizeLine; decide), fun t nt => ?_⟩
    exact k t _ (s5.trans (same_new nt)) upd_same
end
end Vk
namespace Vk
open PySem PySem.Spec PyProof.Rows L2
section
variable {P : Program} {w : World} {K : PySem.W.Frag} {mg : Str → Option Value} {base : Heap}
def spKindT (C : Addr) : Sp := fun vs H Q _ => ∃ (a dd : Addr) (v : V), vs = [.ref a] ∧ H a = some (Xco a (.ref C) (some dd)) ∧ H dd = some (.xd [(("row" : Str), v)]) ∧
  ∀ (t : Addr) (H' : Hp), Same H H' → H' t = some (.tup [.str ("text" : Str), v]) → Q (.ref t) H'
def spKind2 (C Ct : Addr) : Sp := fun vs H Q E => spKind C 1 vs H Q E ∨ spKindT Ct vs H Q E
theorem ok_kind2 {C0 Ct : Addr} {i7 : Nat} (h7 : i7 = 7) (D : Df K mg "_law_kind" sKind ["caught"]) (B : Blt mg) (N0 : Kn K mg C0 1) (N7 : Kn K mg Ct i7) (noR : PySem.W.findIn K (.ref Ct) "row" = some none) : Cl P w K mg base CX0 1 "_law_kind" ["caught"] (spKind2 C0 Ct) := by
  refine cl0 D scKind (fun vs H Q E h => ?_) (fun f cdv A outer s H vs Q E hr h => ?_)
  · rcases h with ⟨a, dd, v, rfl, _⟩ | ⟨a, dd, v, rfl, _⟩
    · rfl
    · rfl
  rcases h with h | h
  · obtain ⟨a, dd, v, rfl, ha, hdd, k⟩ := h
    obtain ⟨i, hi0⟩ : ∃ i : Nat, i = 1 := ⟨1, rfl⟩
    have hi : i < 7 := by omega
    rw [← hi0] at N0 k
    revert N0
    generalize C0 = C at ha
    intro N
    obtain ⟨S, mS, kS, _⟩ := N.se
    obtain ⟨D0, m0, k0⟩ := N.c0
    obtain ⟨D1, m1, k1⟩ := N.c1
    obtain ⟨D2, m2, k2⟩ := N.c2
    obtain ⟨D3, m3, k3⟩ := N.c3
    obtain ⟨D4, m4, k4⟩ := N.c4
    obtain ⟨D5, m5, k5⟩ := N.c5
    obtain ⟨D6, m6, k6⟩ := N.c6
    obtain ⟨D7, m7, k7⟩ := N.c7
    obtain ⟨D8, m8, k8⟩ := N.c8
    obtain ⟨D9, m9, k9⟩ := N.c9
    obtain ⟨D10, m10, k10⟩ := N.c10
    obtain ⟨D11, m11, k11⟩ := N.c11
    refine ⟨_, pss_cons (ps_set (i := 1) scKind.nd rfl (Or.inl rfl) (pe_lst (pa_cons (pe_callB call_isX (by rfl) B.isi (by decide +kernel) (pa_cons (pv 0) (pa_cons (pe_glob rfl m0 (show RelV (.ref _) _ from rfl)) pa_nil))) (pa_cons (pe_callB call_isX (by rfl) B.isi (by decide +kernel) (pa_cons (pv 0) (pa_cons (pe_glob rfl m1 (show RelV (.ref _) _ from rfl)) pa_nil))) (pa_cons (pe_callB call_isX (by rfl) B.isi (by decide +kernel) (pa_cons (pv 0) (pa_cons (pe_glob rfl m2 (show RelV (.ref _) _ from rfl)) pa_nil))) pa_nil)))))
      (pss_cons (ps_set (i := 1) scKind.nd rfl (Or.inl rfl) (pe_op op_cat (pv 1) (pe_lst (pa_cons (pe_callB call_isX (by rfl) B.isi (by decide +kernel) (pa_cons (pv 0) (pa_cons (pe_glob rfl m3 (show RelV (.ref _) _ from rfl)) pa_nil))) (pa_cons (pe_callB call_isX (by rfl) B.isi (by decide +kernel) (pa_cons (pv 0) (pa_cons (pe_glob rfl m4 (show RelV (.ref _) _ from rfl)) pa_nil))) (pa_cons (pe_callB call_isX (by rfl) B.isi (by decide +kernel) (pa_cons (pv 0) (pa_cons (pe_glob rfl m5 (show RelV (.ref _) _ from rfl)) pa_nil))) pa_nil))))))
      (pss_cons (ps_set (i := 1) scKind.nd rfl (Or.inl rfl) (pe_op op_cat (pv 1) (pe_lst (pa_cons (pe_callB call_isX (by rfl) B.isi (by decide +kernel) (pa_cons (pv 0) (pa_cons (pe_glob rfl m6 (show RelV (.ref _) _ from rfl)) pa_nil))) (pa_cons (pe_callB call_isX (by rfl) B.isi (by decide +kernel) (pa_cons (pv 0) (pa_cons (pe_glob rfl m7 (show RelV (.ref _) _ from rfl)) pa_nil))) (pa_cons (pe_callB call_isX (by rfl) B.isi (by decide +kernel) (pa_cons (pv 0) (pa_cons (pe_glob rfl m8 (show RelV (.ref _) _ from rfl)) pa_nil))) pa_nil))))))
      (pss_cons (ps_set (i := 1) scKind.nd rfl (Or.inl rfl) (pe_op op_cat (pv 1) (pe_lst (pa_cons (pe_callB call_isX (by rfl) B.isi (by decide +kernel) (pa_cons (pv 0) (pa_cons (pe_glob rfl m9 (show RelV (.ref _) _ from rfl)) pa_nil))) (pa_cons (pe_callB call_isX (by rfl) B.isi (by decide +kernel) (pa_cons (pv 0) (pa_cons (pe_glob rfl m10 (show RelV (.ref _) _ from rfl)) pa_nil))) (pa_cons (pe_callB call_isX (by rfl) B.isi (by decide +kernel) (pa_cons (pv 0) (pa_cons (pe_glob rfl m11 (show RelV (.ref _) _ from rfl)) pa_nil))) pa_nil))))))
      (pss_cons (ps_if (PW.pt (pw_or (pt_not (pt_val (pe_callB call_isX (by rfl) B.isi (by decide +kernel) (pa_cons (pv 0) (pa_cons (pe_glob rfl mS (show RelV (.ref _) _ from rfl)) pa_nil))))) (pw_or (pt_not (pt_val (pe_callB call_isX (by rfl) B.isi (by decide +kernel) (pa_cons (pv 0) (pa_cons (pe_bltn (v := .ty "ValueError") (u := .type "ValueError") (by rfl) N.ve (by decide +kernel) rfl) pa_nil)))))
        (pw_or1 (pt_cmpR op_ne (pe_bm PySem.F.plainAttrs_list PySem.F.slot_list_count PySem.F.type_list_count mt_countV (pv 1) (pa_cons pe_bl pa_nil)) pe_int (nomark _)))))) (pss_one (ps_ret (pe_tup (pa_cons pe_str (pa_cons pe_int pa_nil))))) pss_nil)
      (pss_cons (ps_set (i := 2) scKind.nd rfl (Or.inl rfl) (pe_bm PySem.F.plainAttrs_list PySem.F.slot_list_index PySem.F.type_list_index mt_index (pv 1) (pa_cons pe_bl pa_nil)))
      (pss_cons (ps_if (pt_cmpR op_lt (pv 2) pe_int (nomark _)) (pss_one (ps_ret (pe_tup (pa_cons (pe_ix ix_list (pe_lst (pa_cons pe_str (pa_cons pe_str (pa_cons pe_str (pa_cons pe_str (pa_cons pe_str (pa_cons pe_str (pa_cons pe_str pa_nil)))))))) (pv 2) (fun _ _ => rfl)) (pa_cons (pe_xp (pv 0)) pa_nil))))) pss_nil)
      (pss_cons ps_never (pss_cons ps_never (pss_cons ps_never (pss_one ps_never)))))))))), ?_⟩
    refine ⟨_, rfl, a, C, some dd, _, _, _, rfl, (Same.refl H).at ha, (fun d2 e2 => by cases e2; exact ⟨_, (Same.refl H).at hdd⟩), N.ex, .own _, k0,
      _, rfl, a, C, some dd, _, _, _, rfl, (Same.refl H).at ha, (fun d2 e2 => by cases e2; exact ⟨_, (Same.refl H).at hdd⟩), N.ex, .own _, k1,
      _, rfl, a, C, some dd, _, _, _, rfl, (Same.refl H).at ha, (fun d2 e2 => by cases e2; exact ⟨_, (Same.refl H).at hdd⟩), N.ex, .own _, k2, (by show 3 ≤ sizeLine; decide), fun p1 n1 => ?_⟩
    have s1 := same_new (o := .lst [.bl (decide (0 = i)), .bl (decide (1 = i)), .bl (decide (2 = i))]) n1
    refine ⟨_, rfl, _, rfl, a, C, some dd, _, _, _, rfl, s1.at ha, (fun d2 e2 => by cases e2; exact ⟨_, s1.at hdd⟩), N.ex, .own _, k3,
      _, rfl, a, C, some dd, _, _, _, rfl, s1.at ha, (fun d2 e2 => by cases e2; exact ⟨_, s1.at hdd⟩), N.ex, .own _, k4,
      _, rfl, a, C, some dd, _, _, _, rfl, s1.at ha, (fun d2 e2 => by cases e2; exact ⟨_, s1.at hdd⟩), N.ex, .own _, k5, (by show 3 ≤ sizeLine; decide), fun q1 m1' => ?_⟩
    have t1 := same_new (o := .lst [.bl (decide (3 = i)), .bl (decide (4 = i)), .bl (decide (5 = i))]) m1'
    refine ⟨p1, q1, _, _, rfl, rfl, t1.at upd_same, upd_same, (by show 3 + 3 ≤ sizeLine; decide), fun p2 n2 => ?_⟩
    have s2 := (s1.trans t1).trans (same_new (o := .lst ([.bl (decide (0 = i)), .bl (decide (1 = i)), .bl (decide (2 = i))] ++ [.bl (decide (3 = i)), .bl (decide (4 = i)), .bl (decide (5 = i))])) n2)
    refine ⟨_, rfl, _, rfl, a, C, some dd, _, _, _, rfl, s2.at ha, (fun d2 e2 => by cases e2; exact ⟨_, s2.at hdd⟩), N.ex, .own _, k6,
      _, rfl, a, C, some dd, _, _, _, rfl, s2.at ha, (fun d2 e2 => by cases e2; exact ⟨_, s2.at hdd⟩), N.ex, .own _, k7,
      _, rfl, a, C, some dd, _, _, _, rfl, s2.at ha, (fun d2 e2 => by cases e2; exact ⟨_, s2.at hdd⟩), N.ex, .own _, k8, (by show 3 ≤ sizeLine; decide), fun q2 m2' => ?_⟩
    have t2 := same_new (o := .lst [.bl (decide (6 = i)), .bl (decide (7 = i)), .bl (decide (8 = i))]) m2'
    refine ⟨p2, q2, _, _, rfl, rfl, t2.at upd_same, upd_same, (by show 6 + 3 ≤ sizeLine; decide), fun p3 n3 => ?_⟩
    have s3 := (s2.trans t2).trans (same_new (o := .lst (([.bl (decide (0 = i)), .bl (decide (1 = i)), .bl (decide (2 = i))] ++ [.bl (decide (3 = i)), .bl (decide (4 = i)), .bl (decide (5 = i))]) ++ [.bl (decide (6 = i)), .bl (decide (7 = i)), .bl (decide (8 = i))])) n3)
    refine ⟨_, rfl, _, rfl, a, C, some dd, _, _, _, rfl, s3.at ha, (fun d2 e2 => by cases e2; exact ⟨_, s3.at hdd⟩), N.ex, .own _, k9,
      _, rfl, a, C, some dd, _, _, _, rfl, s3.at ha, (fun d2 e2 => by cases e2; exact ⟨_, s3.at hdd⟩), N.ex, .own _, k10,
      _, rfl, a, C, some dd, _, _, _, rfl, s3.at ha, (fun d2 e2 => by cases e2; exact ⟨_, s3.at hdd⟩), N.ex, .own _, k11, (by show 3 ≤ sizeLine; decide), fun q3 m3' => ?_⟩
    have t3 := same_new (o := .lst [.bl (decide (9 = i)), .bl (decide (10 = i)), .bl (decide (11 = i))]) m3'
    refine ⟨p3, q3, _, _, rfl, rfl, t3.at upd_same, upd_same, (by show 9 + 3 ≤ sizeLine; decide), fun p4 n4 => ?_⟩
    have s4 := (s3.trans t3).trans (same_new (o := .lst ((([.bl (decide (0 = i)), .bl (decide (1 = i)), .bl (decide (2 = i))] ++ [.bl (decide (3 = i)), .bl (decide (4 = i)), .bl (decide (5 = i))]) ++ [.bl (decide (6 = i)), .bl (decide (7 = i)), .bl (decide (8 = i))]) ++ [.bl (decide (9 = i)), .bl (decide (10 = i)), .bl (decide (11 = i))])) n4)
    have e12 : ((([.bl (decide (0 = i)), .bl (decide (1 = i)), .bl (decide (2 = i))] ++ [.bl (decide (3 = i)), .bl (decide (4 = i)), .bl (decide (5 = i))]) ++ [.bl (decide (6 = i)), .bl (decide (7 = i)), .bl (decide (8 = i))]) ++ [.bl (decide (9 = i)), .bl (decide (10 = i)), .bl (decide (11 = i))]) = bits i := rfl
    refine ⟨_, rfl, a, C, some dd, _, _, _, rfl, s4.at ha, (fun d2 e2 => by cases e2; exact ⟨_, s4.at hdd⟩), N.ex, .own _, kS, _, rfl, iteF ?_⟩
    refine ⟨_, rfl, a, C, some dd, _, _, _, rfl, s4.at ha, (fun d2 e2 => by cases e2; exact ⟨_, s4.at hdd⟩), N.ex, .ty "ValueError", N.kv, _, rfl, iteF ?_⟩
    refine ⟨_, rfl, .inl ⟨rfl, _, SqL.of upd_same⟩, p4, _, _, rfl, rfl, SqL.of upd_same, rfl, ?_, ?_⟩
    · rw [e12]
      exact bits_flat i
    rw [e12]
    have ec : (bits i).countP (fun z => eqV z (.bl true)) = 1 := bits_cnt ⟨i, by omega⟩
    rw [ec]
    refine ⟨rfl, _, rfl, iteF ?_⟩
    refine ⟨_, rfl, .inl ⟨rfl, _, SqL.of upd_same⟩, p4, _, _, i, .bl (decide (i = i)), rfl, rfl, SqL.of upd_same, rfl, bits_flat i, bits_get (by omega), by rw [decide_eq_true rfl]; rfl, fun m z' hm hz => ?_, ?_⟩
    · rw [bits_get (by omega)] at hz
      cases hz
      rw [decide_eq_false (by omega)]
      rfl
    refine ⟨_, rfl, _, _, rfl, rfl, _, rfl, ?_⟩
    rw [decide_eq_true (show (i : Int) < 7 by omega)]
    refine iteT ⟨(by show 7 ≤ sizeLine; decide), fun l nl => ?_⟩
    have s5 := s4.trans (same_new (o := .lst (words7.map V.str)) nl)
    have ew : (words7.map V.str)[i]? = some (.str (words7.getD i "")) := by
      rw [List.getElem?_map, List.getD_eq_getElem?_getD]
      have hl : i < words7.length := hi
      rw [List.getElem?_eq_getElem hl]
      rfl
    refine ⟨_, rfl, l, _, _, _, rfl, rfl, SqL.of upd_same, atI_nat ew, _, rfl, a, C, dd, _, v, rfl, s5.at ha, s5.at hdd, by simp [List.lookup], N.xf, N.noP, (by show 2 ≤ sizeLine; decide), fun t nt => ?_⟩
    exact k t _ (s5.trans (same_new nt)) upd_same
  · obtain ⟨a, dd, v, rfl, ha, hdd, k⟩ := h
    revert N7 noR h7
    generalize i7 = i
    generalize Ct = C at ha
    intro h7 N noR
    obtain ⟨S, mS, kS, _⟩ := N.se
    obtain ⟨D0, m0, k0⟩ := N.c0
    obtain ⟨D1, m1, k1⟩ := N.c1
    obtain ⟨D2, m2, k2⟩ := N.c2
    obtain ⟨D3, m3, k3⟩ := N.c3
    obtain ⟨D4, m4, k4⟩ := N.c4
    obtain ⟨D5, m5, k5⟩ := N.c5
    obtain ⟨D6, m6, k6⟩ := N.c6
    obtain ⟨D7, m7, k7⟩ := N.c7
    obtain ⟨D8, m8, k8⟩ := N.c8
    obtain ⟨D9, m9, k9⟩ := N.c9
    obtain ⟨D10, m10, k10⟩ := N.c10
    obtain ⟨D11, m11, k11⟩ := N.c11
    refine ⟨_, pss_cons (ps_set (i := 1) scKind.nd rfl (Or.inl rfl) (pe_lst (pa_cons (pe_callB call_isX (by rfl) B.isi (by decide +kernel) (pa_cons (pv 0) (pa_cons (pe_glob rfl m0 (show RelV (.ref _) _ from rfl)) pa_nil))) (pa_cons (pe_callB call_isX (by rfl) B.isi (by decide +kernel) (pa_cons (pv 0) (pa_cons (pe_glob rfl m1 (show RelV (.ref _) _ from rfl)) pa_nil))) (pa_cons (pe_callB call_isX (by rfl) B.isi (by decide +kernel) (pa_cons (pv 0) (pa_cons (pe_glob rfl m2 (show RelV (.ref _) _ from rfl)) pa_nil))) pa_nil)))))
      (pss_cons (ps_set (i := 1) scKind.nd rfl (Or.inl rfl) (pe_op op_cat (pv 1) (pe_lst (pa_cons (pe_callB call_isX (by rfl) B.isi (by decide +kernel) (pa_cons (pv 0) (pa_cons (pe_glob rfl m3 (show RelV (.ref _) _ from rfl)) pa_nil))) (pa_cons (pe_callB call_isX (by rfl) B.isi (by decide +kernel) (pa_cons (pv 0) (pa_cons (pe_glob rfl m4 (show RelV (.ref _) _ from rfl)) pa_nil))) (pa_cons (pe_callB call_isX (by rfl) B.isi (by decide +kernel) (pa_cons (pv 0) (pa_cons (pe_glob rfl m5 (show RelV (.ref _) _ from rfl)) pa_nil))) pa_nil))))))
      (pss_cons (ps_set (i := 1) scKind.nd rfl (Or.inl rfl) (pe_op op_cat (pv 1) (pe_lst (pa_cons (pe_callB call_isX (by rfl) B.isi (by decide +kernel) (pa_cons (pv 0) (pa_cons (pe_glob rfl m6 (show RelV (.ref _) _ from rfl)) pa_nil))) (pa_cons (pe_callB call_isX (by rfl) B.isi (by decide +kernel) (pa_cons (pv 0) (pa_cons (pe_glob rfl m7 (show RelV (.ref _) _ from rfl)) pa_nil))) (pa_cons (pe_callB call_isX (by rfl) B.isi (by decide +kernel) (pa_cons (pv 0) (pa_cons (pe_glob rfl m8 (show RelV (.ref _) _ from rfl)) pa_nil))) pa_nil))))))
      (pss_cons (ps_set (i := 1) scKind.nd rfl (Or.inl rfl) (pe_op op_cat (pv 1) (pe_lst (pa_cons (pe_callB call_isX (by rfl) B.isi (by decide +kernel) (pa_cons (pv 0) (pa_cons (pe_glob rfl m9 (show RelV (.ref _) _ from rfl)) pa_nil))) (pa_cons (pe_callB call_isX (by rfl) B.isi (by decide +kernel) (pa_cons (pv 0) (pa_cons (pe_glob rfl m10 (show RelV (.ref _) _ from rfl)) pa_nil))) (pa_cons (pe_callB call_isX (by rfl) B.isi (by decide +kernel) (pa_cons (pv 0) (pa_cons (pe_glob rfl m11 (show RelV (.ref _) _ from rfl)) pa_nil))) pa_nil))))))
      (pss_cons (ps_if (PW.pt (pw_or (pt_not (pt_val (pe_callB call_isX (by rfl) B.isi (by decide +kernel) (pa_cons (pv 0) (pa_cons (pe_glob rfl mS (show RelV (.ref _) _ from rfl)) pa_nil))))) (pw_or (pt_not (pt_val (pe_callB call_isX (by rfl) B.isi (by decide +kernel) (pa_cons (pv 0) (pa_cons (pe_bltn (v := .ty "ValueError") (u := .type "ValueError") (by rfl) N.ve (by decide +kernel) rfl) pa_nil)))))
        (pw_or1 (pt_cmpR op_ne (pe_bm PySem.F.plainAttrs_list PySem.F.slot_list_count PySem.F.type_list_count mt_countV (pv 1) (pa_cons pe_bl pa_nil)) pe_int (nomark _)))))) (pss_one (ps_ret (pe_tup (pa_cons pe_str (pa_cons pe_int pa_nil))))) pss_nil)
      (pss_cons (ps_set (i := 2) scKind.nd rfl (Or.inl rfl) (pe_bm PySem.F.plainAttrs_list PySem.F.slot_list_index PySem.F.type_list_index mt_index (pv 1) (pa_cons pe_bl pa_nil)))
      (pss_cons (ps_if (pt_cmpR op_lt (pv 2) pe_int (nomark _)) (pss_one ps_never) pss_nil)
      (pss_cons (ps_if (pt_cmpR op_eq (pv 2) pe_int (nomark _)) (pss_one (ps_ret (pe_tup (pa_cons pe_str (pa_cons (pe_xp (pv 0)) pa_nil))))) pss_nil) (pss_cons ps_never (pss_cons ps_never (pss_one ps_never)))))))))), ?_⟩
    refine ⟨_, rfl, a, C, some dd, _, _, _, rfl, (Same.refl H).at ha, (fun d2 e2 => by cases e2; exact ⟨_, (Same.refl H).at hdd⟩), N.ex, .own _, k0,
      _, rfl, a, C, some dd, _, _, _, rfl, (Same.refl H).at ha, (fun d2 e2 => by cases e2; exact ⟨_, (Same.refl H).at hdd⟩), N.ex, .own _, k1,
      _, rfl, a, C, some dd, _, _, _, rfl, (Same.refl H).at ha, (fun d2 e2 => by cases e2; exact ⟨_, (Same.refl H).at hdd⟩), N.ex, .own _, k2, (by show 3 ≤ sizeLine; decide), fun p1 n1 => ?_⟩
    have s1 := same_new (o := .lst [.bl (decide (0 = i)), .bl (decide (1 = i)), .bl (decide (2 = i))]) n1
    refine ⟨_, rfl, _, rfl, a, C, some dd, _, _, _, rfl, s1.at ha, (fun d2 e2 => by cases e2; exact ⟨_, s1.at hdd⟩), N.ex, .own _, k3,
      _, rfl, a, C, some dd, _, _, _, rfl, s1.at ha, (fun d2 e2 => by cases e2; exact ⟨_, s1.at hdd⟩), N.ex, .own _, k4,
      _, rfl, a, C, some dd, _, _, _, rfl, s1.at ha, (fun d2 e2 => by cases e2; exact ⟨_, s1.at hdd⟩), N.ex, .own _, k5, (by show 3 ≤ sizeLine; decide), fun q1 m1' => ?_⟩
    have t1 := same_new (o := .lst [.bl (decide (3 = i)), .bl (decide (4 = i)), .bl (decide (5 = i))]) m1'
    refine ⟨p1, q1, _, _, rfl, rfl, t1.at upd_same, upd_same, (by show 3 + 3 ≤ sizeLine; decide), fun p2 n2 => ?_⟩
    have s2 := (s1.trans t1).trans (same_new (o := .lst ([.bl (decide (0 = i)), .bl (decide (1 = i)), .bl (decide (2 = i))] ++ [.bl (decide (3 = i)), .bl (decide (4 = i)), .bl (decide (5 = i))])) n2)
    refine ⟨_, rfl, _, rfl, a, C, some dd, _, _, _, rfl, s2.at ha, (fun d2 e2 => by cases e2; exact ⟨_, s2.at hdd⟩), N.ex, .own _, k6,
      _, rfl, a, C, some dd, _, _, _, rfl, s2.at ha, (fun d2 e2 => by cases e2; exact ⟨_, s2.at hdd⟩), N.ex, .own _, k7,
      _, rfl, a, C, some dd, _, _, _, rfl, s2.at ha, (fun d2 e2 => by cases e2; exact ⟨_, s2.at hdd⟩), N.ex, .own _, k8, (by show 3 ≤ sizeLine; decide), fun q2 m2' => ?_⟩
    have t2 := same_new (o := .lst [.bl (decide (6 = i)), .bl (decide (7 = i)), .bl (decide (8 = i))]) m2'
    refine ⟨p2, q2, _, _, rfl, rfl, t2.at upd_same, upd_same, (by show 6 + 3 ≤ sizeLine; decide), fun p3 n3 => ?_⟩
    have s3 := (s2.trans t2).trans (same_new (o := .lst (([.bl (decide (0 = i)), .bl (decide (1 = i)), .bl (decide (2 = i))] ++ [.bl (decide (3 = i)), .bl (decide (4 = i)), .bl (decide (5 = i))]) ++ [.bl (decide (6 = i)), .bl (decide (7 = i)), .bl (decide (8 = i))])) n3)
    refine ⟨_, rfl, _, rfl, a, C, some dd, _, _, _, rfl, s3.at ha, (fun d2 e2 => by cases e2; exact ⟨_, s3.at hdd⟩), N.ex, .own _, k9,
      _, rfl, a, C, some dd, _, _, _, rfl, s3.at ha, (fun d2 e2 => by cases e2; exact ⟨_, s3.at hdd⟩), N.ex, .own _, k10,
      _, rfl, a, C, some dd, _, _, _, rfl, s3.at ha, (fun d2 e2 => by cases e2; exact ⟨_, s3.at hdd⟩), N.ex, .own _, k11, (by show 3 ≤ sizeLine; decide), fun q3 m3' => ?_⟩
    have t3 := same_new (o := .lst [.bl (decide (9 = i)), .bl (decide (10 = i)), .bl (decide (11 = i))]) m3'
    refine ⟨p3, q3, _, _, rfl, rfl, t3.at upd_same, upd_same, (by show 9 + 3 ≤ sizeLine; decide), fun p4 n4 => ?_⟩
    have s4 := (s3.trans t3).trans (same_new (o := .lst ((([.bl (decide (0 = i)), .bl (decide (1 = i)), .bl (decide (2 = i))] ++ [.bl (decide (3 = i)), .bl (decide (4 = i)), .bl (decide (5 = i))]) ++ [.bl (decide (6 = i)), .bl (decide (7 = i)), .bl (decide (8 = i))]) ++ [.bl (decide (9 = i)), .bl (decide (10 = i)), .bl (decide (11 = i))])) n4)
    have e12 : ((([.bl (decide (0 = i)), .bl (decide (1 = i)), .bl (decide (2 = i))] ++ [.bl (decide (3 = i)), .bl (decide (4 = i)), .bl (decide (5 = i))]) ++ [.bl (decide (6 = i)), .bl (decide (7 = i)), .bl (decide (8 = i))]) ++ [.bl (decide (9 = i)), .bl (decide (10 = i)), .bl (decide (11 = i))]) = bits i := rfl
    refine ⟨_, rfl, a, C, some dd, _, _, _, rfl, s4.at ha, (fun d2 e2 => by cases e2; exact ⟨_, s4.at hdd⟩), N.ex, .own _, kS, _, rfl, iteF ?_⟩
    refine ⟨_, rfl, a, C, some dd, _, _, _, rfl, s4.at ha, (fun d2 e2 => by cases e2; exact ⟨_, s4.at hdd⟩), N.ex, .ty "ValueError", N.kv, _, rfl, iteF ?_⟩
    refine ⟨_, rfl, .inl ⟨rfl, _, SqL.of upd_same⟩, p4, _, _, rfl, rfl, SqL.of upd_same, rfl, ?_, ?_⟩
    · rw [e12]
      exact bits_flat i
    rw [e12]
    have ec : (bits i).countP (fun z => eqV z (.bl true)) = 1 := bits_cnt ⟨i, by omega⟩
    rw [ec]
    refine ⟨rfl, _, rfl, iteF ?_⟩
    refine ⟨_, rfl, .inl ⟨rfl, _, SqL.of upd_same⟩, p4, _, _, i, .bl (decide (i = i)), rfl, rfl, SqL.of upd_same, rfl, bits_flat i, bits_get (by omega), by rw [decide_eq_true rfl]; rfl, fun m z' hm hz => ?_, ?_⟩
    · rw [bits_get (by omega)] at hz
      cases hz
      rw [decide_eq_false (by omega)]
      rfl
    refine ⟨_, rfl, _, _, rfl, rfl, _, rfl, ?_⟩
    rw [decide_eq_false (show ¬ (i : Int) < 7 by omega)]
    refine iteF ⟨_, rfl, rfl, _, rfl, ?_⟩
    rw [show decide (V.int (i : Int) = V.int 7) = true from decide_eq_true (by rw [h7]; rfl)]
    refine iteT ⟨_, rfl, a, C, dd, _, v, rfl, s4.at ha, s4.at hdd, by simp [List.lookup], N.xf, noR, (by show 2 ≤ sizeLine; decide), fun t nt => ?_⟩
    exact k t _ (s4.trans (same_new nt)) upd_same
end
end Vk
namespace Vk
open PySem PySem.Spec PyProof.Rows L2 GxR
abbrev sTextInit : Stmt := inClass (top 9) 0
/-- the level that the words of a line write -/
def levW : List Str → Option PyData
  | [k] => if kindD (.str k) = true then some (.tuple [.str k, .none]) else none
  | [k, n] => if kindD (.str k) = true then (countW [n]).map (fun q => PyData.tuple [.str k, .int q]) else none
  | _ => none
def booW : List Str → Option Int
  | k :: r => if k = "boost" then countW r else none
  | [] => none
def runR : List Str → Nat → List PyData → PyData
  | [], _, lev => .tuple [.tuple lev, .none]
  | l :: rest, row, lev =>
    match (if 0 < row then booW (Txt.split l " ") else none) with
    | some b => (match rest with
      | [] => .tuple [.tuple lev, .int b]
      | _ :: _ => .int ((row : Int) + 1))
    | none => match levW (Txt.split l " ") with
      | some d => if row < 6 then runR rest (row + 1) (lev ++ [d]) else .int (row : Int)
      | none => .int (row : Int)
def dueR (tx : Str) : PyData := runR (Txt.split tx "\n") 0 []
theorem levW_big {a b c : Str} {r : List Str} : levW (a :: b :: c :: r) = none := rfl
section
variable {P : Program} {w : World} {K : PySem.W.Frag} {mg : Str → Option Value} {base : Heap}
theorem scTextInit : FnScope ["self", "row"] ["self", "row"] (defScope sTextInit) := ⟨rfl, rfl, rfl, by decide +kernel, rfl, by decide +kernel, by decide +kernel⟩
theorem ok_textInit {C fI : Addr} {fd : FuncData} (F : Fun K "__init__" "NoText.__init__" sTextInit fI fd) (T : OexC K C) (no : PySem.W.findIn K (.ref C) "row" = some none) : FnOk P w K mg base CX0 1 fI fd ["self", "row"] (spIni C "row") := by
  refine F.ok scTextInit (fun vs H Q E h => ?_) (fun cdv A outer s H vs Q E hr h => ?_)
  · obtain ⟨a, v, rfl, _⟩ := h
    rfl
  · obtain ⟨a, v, rfl, ha, k⟩ := h
    refine ⟨_, pss_one (ps_ost (pv 0) (pv 1)), ?_⟩
    exact ⟨_, rfl, _, rfl, a, C, rfl, T, no, .inl ⟨ha, fun dx n1 n2 => k dx n1 n2⟩⟩
theorem erc_text {C : Addr} (g : mg "NoText" = some (.ref C)) (T : OexC K C) (no : PySem.W.findIn K (.ref C) "row" = some none) (N : Nit K "NoText" "NoText.__init__" "row" sTextInit C) : ErC P w K mg base "NoText" "row" C := by
  obtain ⟨fI, fd, h1, h2, h3, h4⟩ := N.ex
  exact ⟨g, T, fI, fd, h1, h2, h4, ok_textInit h3 T no⟩
/-- the words of a line, split -/
theorem words_ok {x : Str} (lx : x.length ≤ 50000) : ∃ a r, Txt.split x " " = a :: r ∧ (∀ y ∈ a :: r, y.length ≤ sizeLine) ∧ r.length ≤ 50001 := by
  have z1 := split_sp x
  have z2 := split_sp_ne x
  have z3 := wt_len (Txt.split x " ")
  have z4 : ∀ y ∈ Txt.split x " ", y.length ≤ sizeLine := fun y hy => by
    have z := wt_mem hy
    exact Nat.le_trans (show y.length ≤ 50001 by omega) (by decide)
  cases h : Txt.split x " " with
  | nil => exact absurd h z2
  | cons a r =>
    rw [h] at z3 z4 z1
    rw [List.length_cons] at z3
    exact ⟨a, r, rfl, z4, by omega⟩
def spReadBoost (T : Addr) : Sp := fun vs H Q _ => ∃ (x : Str), vs = [.str x] ∧ x.length ≤ 50000 ∧ TabG H T ∧ ∀ H', Same H H' → Q (optV (booW (Txt.split x " "))) H'
theorem scReadBoost : FnScope ["line", "words"] ["line"] (defScope sReadBoost) := ⟨rfl, rfl, rfl, by decide +kernel, rfl, by decide +kernel, by decide +kernel⟩
theorem ok_readBoost {T : Addr} (D : Df K mg "read_boost" sReadBoost ["line"]) (C : Cl P w K mg base CX0 2 "read_count" ["words"] (spReadCount K T)) : Cl P w K mg base CX0 3 "read_boost" ["line"] (spReadBoost T) := by
  refine cl0 D scReadBoost (fun vs H Q E h => ?_) (fun f cdv A outer s H vs Q E hr h => ?_)
  · obtain ⟨x, rfl, _⟩ := h
    rfl
  · obtain ⟨x, rfl, lx, tg, k⟩ := h
    refine ⟨_, pss_cons (ps_set (i := 1) scReadBoost.nd rfl (Or.inl rfl) (pe_split (pv 0) pe_str))
      (pss_one (ps_ret (pe_ifExp (pt_cmpR op_eq (pe_ix ix_list (pv 1) pe_int (fun _ _ => rfl)) pe_str (nomark _)) (pc C hr (by decide) (pa_cons (pe_slice sl_list (pv 1) (po_some pe_int) po_none) pa_nil)) pe_non))), ?_⟩
    refine ⟨_, rfl, ⟨_, rfl⟩, _, " ", rfl, rfl, by decide +kernel, Nat.le_trans (show _ + 2 ≤ 50002 by omega) (by decide), fun p np => ?_⟩
    obtain ⟨a, r, e, sm, rl⟩ := words_ok lx
    rw [e] at k ⊢
    have s1 := same_new (o := .lst ((a :: r).map V.str)) np
    have hp1 : upd H p (.lst ((a :: r).map V.str)) p = some (.lst (V.str a :: r.map V.str)) := upd_same
    generalize upd H p (.lst ((a :: r).map V.str)) = H1 at s1 hp1 ⊢
    refine ⟨_, rfl, p, _, 0, .str a, rfl, rfl, SqL.of hp1, atI_nat (j := 0) rfl, rfl, _, rfl, ?_⟩
    rw [eq_strV]
    have eb : booW (a :: r) = if a = "boost" then countW r else none := rfl
    rw [eb] at k
    by_cases h0 : a = "boost"
    · rw [decide_eq_true h0]
      rw [if_pos h0] at k
      refine iteT ⟨_, rfl, _, rfl, ?_⟩
      dsimp only [tNoPart]
      refine ⟨p, _, rfl, SqL.of hp1, fun q nq => ?_⟩
      rw [cut1]
      have sq := same_new (o := .lst (r.map V.str)) nq
      exact ⟨q, r, rfl, SqL.of upd_same, fun y hy => sm y (List.mem_cons_of_mem _ hy), sq.tab T (s1.tab T tg), fun H2 s2 => k H2 ((s1.trans sq).trans s2)⟩
    · rw [decide_eq_false h0]
      rw [if_neg h0] at k
      exact iteF (k H1 s1)
def spReadLevel (K : PySem.W.Frag) (T Ct : Addr) : Sp := fun vs H Q E => ∃ (x : Str) (row : Nat) (l : Addr), vs = [.str x, .int (row : Int)] ∧ x.length ≤ 50000 ∧ H l ≠ none ∧ TabG H T ∧ (∀ d, row < 6 → levW (Txt.split x " ") = some d → ∀ v H', Same H H' → Dp K (Off l H') v d → Q v H') ∧
  (levW (Txt.split x " ") = none ∨ ¬ row < 6 → ∀ (dx : Addr) (H' : Hp), Same H H' → H' dx = some (.xd [(("row" : Str), .int (row : Int))]) → E (.ref Ct) (some dx) H')
theorem scReadLevel : FnScope ["line", "row", "words", "quantum"] ["line", "row"] (defScope sReadLevel) := ⟨rfl, rfl, rfl, by decide +kernel, rfl, by decide +kernel, by decide +kernel⟩
theorem kindD_in (k : Str) : inV (.str k) [.str ("queue" : Str), .str ("stack" : Str)] = kindD (.str k) := in_kinds (K := default) (H := fun _ => none) (.str k)
theorem ok_readLevel {T Ct : Addr} (D : Df K mg "read_level" sReadLevel ["line", "row"]) (B : Blt mg) (M : ∃ u, mg "MOST_LEVELS" = some u ∧ RelV (.int 6) u) (ER : ErC P w K mg base "NoText" "row" Ct) (C : Cl P w K mg base CX0 2 "read_count" ["words"] (spReadCount K T)) : Cl P w K mg base (L2.CX P w) 3 "read_level" ["line", "row"] (spReadLevel K T Ct) := by
  refine clX D scReadLevel (fun vs H Q E h => ?_) (fun f cdv A outer s H vs Q E hr h => ?_)
  · obtain ⟨x, row, l, rfl, _⟩ := h
    rfl
  · obtain ⟨x, row, l, rfl, lx, hl, tg, kN, kE⟩ := h
    obtain ⟨mu, mm, mr⟩ := M
    refine ⟨_, pss_cons (ps_set (i := 2) scReadLevel.nd rfl (Or.inl rfl) (pe_split (pv 0) pe_str))
      (pss_cons (ps_set (i := 3) scReadLevel.nd rfl (Or.inl rfl) (pc C hr (by decide) (pa_cons (pe_slice sl_list (pv 2) (po_some pe_int) po_none) pa_nil)))
      (pss_cons (ps_if (PW.pt (pw_or (pt_cmpR op_ge (pv 1) (pe_glob rfl mm mr) (nomark _)) (pw_or1 (pt_cmpR op_notIn_seq (pe_ix ix_list (pv 2) pe_int (fun _ _ => rfl)) (pe_tup (pa_cons pe_str (pa_cons pe_str pa_nil))) (by rfl))))) (pss_one (ps_raiseE ER rfl hr (by decide) (takes_of rfl rfl rfl rfl) (pv 1))) pss_nil)
      (pss_cons (ps_if (PW.pt (pw_and (pt_cmpR op_isN (pv 3) pe_non (nomark _)) (pw_and1 (pt_cmpR op_gt (pe_callB call_len_seq (by rfl) B.len PySem.boot_len (pa_cons (pv 2) pa_nil)) pe_int (nomark _))))) (pss_one (ps_raiseE ER rfl hr (by decide) (takes_of rfl rfl rfl rfl) (pv 1))) pss_nil)
      (pss_one (ps_ret (pe_tup (pa_cons (pe_ix ix_list (pv 2) pe_int (fun _ _ => rfl)) (pa_cons (pv 3) pa_nil)))))))), ?_⟩
    refine ⟨_, rfl, ⟨_, rfl⟩, _, " ", rfl, rfl, by decide +kernel, Nat.le_trans (show _ + 2 ≤ 50002 by omega) (by decide), fun p np => ?_⟩
    obtain ⟨a, r, e, sm, rl⟩ := words_ok lx
    rw [e] at kN kE ⊢
    have s1 := same_new (o := .lst ((a :: r).map V.str)) np
    have hp1 : upd H p (.lst ((a :: r).map V.str)) p = some (.lst (V.str a :: r.map V.str)) := upd_same
    generalize upd H p (.lst ((a :: r).map V.str)) = H1 at s1 hp1 ⊢
    refine ⟨_, rfl, _, rfl, ?_⟩
    dsimp only [tNoPart]
    refine ⟨p, _, rfl, SqL.of hp1, fun q nq => ?_⟩
    rw [cut1]
    have sq := same_new (o := .lst (r.map V.str)) nq
    refine ⟨q, r, rfl, SqL.of upd_same, fun y hy => sm y (List.mem_cons_of_mem _ hy), sq.tab T (s1.tab T tg), fun H2 s2 => ?_⟩
    have s12 := (s1.trans sq).trans s2
    have hp2 := (sq.trans s2).at hp1
    refine ⟨_, rfl, _, _, rfl, rfl, _, rfl, ?_⟩
    by_cases h6 : row < 6
    case neg =>
      rw [decide_eq_true (show (row : Int) ≥ 6 by omega)]
      refine iteT (iteT ⟨_, rfl, ?_⟩)
      exact raise_go fun dx H3 s3 _ hx => kE (.inr h6) dx H3 (s12.trans s3) hx
    rw [decide_eq_false (show ¬ (row : Int) ≥ 6 by omega)]
    refine iteF ⟨_, rfl, p, _, 0, .str a, rfl, rfl, SqL.of hp2, atI_nat (j := 0) rfl, (by show 2 ≤ sizeLine; decide), fun t nt => ?_⟩
    have st := same_new (o := .tup [.str ("queue" : Str), .str ("stack" : Str)]) nt
    refine ⟨t, _, rfl, .inr (SqT.of upd_same), rfl, rfl, _, rfl, ?_⟩
    show if (!inV (.str a) [.str ("queue" : Str), .str ("stack" : Str)]) = true then _ else _
    rw [kindD_in]
    have s13 := s12.trans st
    cases hk : kindD (.str a) with
    | false =>
      refine iteT ⟨_, rfl, ?_⟩
      refine raise_go fun dx H3 s3 _ hx => kE (.inl ?_) dx H3 (s13.trans s3) hx
      match r with
      | [] =>
        show (if kindD (.str a) = true then _ else none) = none
        rw [hk, if_neg Bool.false_ne_true]
      | [n] =>
        show (if kindD (.str a) = true then _ else none) = none
        rw [hk, if_neg Bool.false_ne_true]
      | _ :: _ :: _ => rfl
    | true =>
    refine iteF ⟨_, rfl, rfl, _, rfl, ?_⟩
    have hp3 := st.at hp2
    have lenS : ((V.str a :: r.map V.str).length : Nat) = r.length + 1 := by rw [List.length_cons, List.length_map]
    have out : ∀ (d : PyData), levW (a :: r) = some d → d = .tuple [.str a, optD (countW r)] → ∀ u, upd H2 t (.tup [.str ("queue" : Str), .str ("stack" : Str)]) u = none → Q (.ref u) (upd (upd H2 t (.tup [.str ("queue" : Str), .str ("stack" : Str)])) u (.tup [.str a, optV (countW r)])) := fun d h1 h2 u nu => by
      have su := same_new (o := .tup [.str a, optV (countW r)]) nu
      have ul : u ≠ l := ne_has (s13.has l hl) nu
      refine kN d h6 h1 _ _ (s13.trans su) ?_
      rw [h2]
      exact .tup (SqT.of (by rw [off_ne ul, upd_same])) (.cons (.str a) (.cons (dp_opt _) .nil))
    cases hc : countW r with
    | some n =>
      rw [hc] at out
      obtain ⟨m, em⟩ : ∃ m, r = [m] := by
        match r, hc with
        | [m], _ => exact ⟨m, rfl⟩
        | [], h => cases h
        | _ :: _ :: _, h => cases h
      have hw : levW (a :: r) = some (.tuple [.str a, .int n]) := by
        rw [em] at hc ⊢
        show (if kindD (.str a) = true then (countW [m]).map (fun q => PyData.tuple [.str a, .int q]) else none) = _
        rw [hk, if_pos rfl, hc]
        rfl
      exact iteF (iteF ⟨_, rfl, p, _, 0, _, rfl, rfl, SqL.of hp3, atI_nat (j := 0) rfl, _, rfl, (by show 2 ≤ sizeLine; decide), fun u nu => out _ hw rfl u nu⟩)
    | none =>
      rw [hc] at out
      refine iteT ⟨_, rfl, p, _, rfl, .inl (SqL.of hp3), _, _, rfl, rfl, _, rfl, ?_⟩
      rw [lenS]
      match r, hc, out, kE with
      | [], hc, out, kE =>
        have hw : levW [a] = some (.tuple [.str a, .none]) := by
          show (if kindD (.str a) = true then _ else none) = _
          rw [hk, if_pos rfl]
        exact iteF ⟨_, rfl, p, _, 0, _, rfl, rfl, SqL.of hp3, atI_nat (j := 0) rfl, _, rfl, (by show 2 ≤ sizeLine; decide), fun u nu => out _ hw rfl u nu⟩
      | m :: r', hc, out, kE =>
        rw [decide_eq_true (show (((m :: r').length + 1 : Nat) : Int) > 1 by rw [List.length_cons]; omega)]
        refine iteT ⟨_, rfl, ?_⟩
        refine raise_go fun dx H3 s3 _ hx => kE (.inl ?_) dx H3 (s13.trans s3) hx
        match r', hc with
        | [], hc =>
          show (if kindD (.str a) = true then (countW [m]).map (fun q => PyData.tuple [.str a, .int q]) else none) = _
          rw [hk, if_pos rfl, hc]
          rfl
        | _ :: _, _ => rfl
end
end Vk
namespace Vk
open PySem PySem.Spec PyProof.Rows L2 GxR
/-- what is due where a boost has been read, or none -/
def goOn (rest : List Str) (i : Nat) (lev : List PyData) : Option Int → PyData
  | some b => (match rest with
    | [] => .tuple [.tuple lev, .int b]
    | _ :: _ => .int (i : Int))
  | none => runR rest i lev
theorem runR_boost {l : Str} {rest : List Str} {row : Nat} {lev : List PyData} {b : Int} (h : (if 0 < row then booW (Txt.split l " ") else none) = some b) : runR (l :: rest) row lev = goOn rest (row + 1) lev (some b) := by
  show (match (if 0 < row then booW (Txt.split l " ") else none) with
    | some b => (match rest with
      | [] => PyData.tuple [.tuple lev, .int b]
      | _ :: _ => .int ((row : Int) + 1))
    | none => match levW (Txt.split l " ") with
      | some d => if row < 6 then runR rest (row + 1) (lev ++ [d]) else .int (row : Int)
      | none => .int (row : Int)) = _
  rw [h]
  cases rest <;> rfl
theorem runR_level {l : Str} {rest : List Str} {row : Nat} {lev : List PyData} (h : (if 0 < row then booW (Txt.split l " ") else none) = none) : runR (l :: rest) row lev = (match levW (Txt.split l " ") with
      | some d => if row < 6 then runR rest (row + 1) (lev ++ [d]) else .int (row : Int)
      | none => .int (row : Int)) := by
  show (match (if 0 < row then booW (Txt.split l " ") else none) with
    | some b => (match rest with
      | [] => PyData.tuple [.tuple lev, .int b]
      | _ :: _ => .int ((row : Int) + 1))
    | none => match levW (Txt.split l " ") with
      | some d => if row < 6 then runR rest (row + 1) (lev ++ [d]) else .int (row : Int)
      | none => .int (row : Int)) = _
  rw [h]
section
variable {P : Program} {w : World} {K : PySem.W.Frag} {mg : Str → Option Value} {base : Heap}
def spReadRule (K : PySem.W.Frag) (T Ct : Addr) : Sp := fun vs H Q E => ∃ (tx : Str), vs = [.str tx] ∧ tx.length ≤ 49999 ∧ TabG H T ∧
  (∀ i, dueR tx = .int i → ∀ (dx : Addr) (H' : Hp), Same H H' → H' dx = some (.xd [(("row" : Str), .int i)]) → E (.ref Ct) (some dx) H') ∧
  (∀ lev b, dueR tx = .tuple [.tuple lev, b] → ∀ v H', Same H H' → Dp K H' v (.tuple [.tuple lev, b]) → Q v H')
theorem scReadRule : FnScope ["text", "levels", "boost", "row", "line"] ["text"] (defScope sReadRule) := ⟨rfl, rfl, rfl, by decide +kernel, rfl, by decide +kernel, by decide +kernel⟩
theorem ok_readRule {T Ct : Addr} (D : Df K mg "read_rule" sReadRule ["text"]) (B : Blt mg) (ER : ErC P w K mg base "NoText" "row" Ct) (RB : Cl P w K mg base CX0 3 "read_boost" ["line"] (spReadBoost T)) (RL : Cl P w K mg base (L2.CX P w) 3 "read_level" ["line", "row"] (spReadLevel K T Ct)) :
    Cl P w K mg base (L2.CX P w) 4 "read_rule" ["text"] (spReadRule K T Ct) := by
  refine clX D scReadRule (fun vs H Q E h => ?_) (fun f cdv A outer s H vs Q E hr h => ?_)
  · obtain ⟨x, rfl, _⟩ := h
    rfl
  · obtain ⟨tx, rfl, ltx, tg, kE, kN⟩ := h
    obtain ⟨fL, fdL, mL, kpL, bL, FL⟩ := RL.ex
    refine ⟨_, pss_cons (ps_set (i := 1) scReadRule.nd rfl (Or.inl rfl) (pe_lst pa_nil))
      (pss_cons (ps_set (i := 2) scReadRule.nd rfl (Or.inl rfl) pe_non)
      (pss_cons (ps_for (passes_of rfl) rfl (pi_enum (by rfl) B.enum (pa_cons (pe_split (pv 0) pe_str) pa_nil)) (pg_tup rfl (pgs_cons (pg_name (i := 3) scReadRule.nd rfl (.inl rfl)) (pgs_cons (pg_name (i := 4) scReadRule.nd rfl (.inl rfl)) pgs_nil)))
        (pss_cons (ps_if (pt_cmpR op_notN (pv 2) pe_non (nomark _)) (pss_one (ps_raiseE ER rfl hr (by decide) (takes_of rfl rfl rfl rfl) (pv 3))) pss_nil)
        (pss_cons (ps_if (pt_cmpR op_gt (pv 3) pe_int (nomark _)) (pss_one (ps_set (i := 2) scReadRule.nd rfl (Or.inl rfl) (pc RB hr (by decide) (pa_cons (pv 4) pa_nil)))) pss_nil)
        (pss_one (ps_if (pt_cmpR op_isN (pv 2) pe_non (nomark _)) (pss_one (ps_expr (pe_bm PySem.F.plainAttrs_list PySem.F.slot_list_append PySem.F.type_list_append mt_append (pv 1)
          (pa_cons (pe_call (E := E) FL hr rfl mL kpL bL .nil (passes_call (W := fun cls d _ H => E cls d H) (takes_of rfl rfl rfl rfl) (fun _ _ _ _ h => h)) (pa_cons (pv 4) (pa_cons (pv 3) pa_nil))) pa_nil)))) pss_nil)))))
      (pss_one (ps_ret (pe_tup (pa_cons (pe_callTy call_tuple_of (by rfl) B.tuple (by decide +kernel) (pa_cons (pv 1) pa_nil)) (pa_cons (pv 2) pa_nil))))))), ?_⟩
    refine ⟨(by show 0 ≤ sizeLine; decide), fun lv nlv => ?_⟩
    have s0 := same_new (o := .lst []) nlv
    refine ⟨_, rfl, ⟨_, rfl⟩, _, _, rfl, rfl, by decide +kernel, Nat.le_trans (show _ + 2 ≤ 50001 by omega) (by decide), fun ll nll => ?_⟩
    have lw := split_nl tx
    have ll_ := wt_len (Txt.split tx "\n")
    have dd : dueR tx = runR (Txt.split tx "\n") 0 [] := rfl
    generalize Txt.split tx "\n" = lines at lw ll_ dd ⊢
    have nl : lv ≠ ll := ne_of_none upd_same nll
    have s1 : Same H (Off lv (upd (upd H lv (.lst [])) ll (.lst (lines.map V.str)))) := by
      rw [off_other nl.symm, off_upd, off_none nlv]
      refine same_new ?_
      have z := nll
      rw [upd_ne nl.symm] at z
      exact z
    have hll : Off lv (upd (upd H lv (.lst [])) ll (.lst (lines.map V.str))) ll = some (.lst (lines.map V.str)) := by
      rw [off_ne nl.symm, upd_same]
    have hlv : upd (upd H lv (.lst [])) ll (.lst (lines.map V.str)) lv = some (.lst []) := by
      rw [upd_ne nl, upd_same]
    generalize upd (upd H lv (.lst [])) ll (.lst (lines.map V.str)) = H1 at s1 hll hlv ⊢
    refine ⟨ll, _, rfl, SqL.of (off_some hll).2, for_it (walk_enum (K := K) (a := ll) (xs := lines.map V.str)) (fun i σ G => ∃ (bo : Option Int) (u3 u4 : Option V) (vs : List V) (lev : List PyData), σ = [some (.str tx), some (.ref lv), some (optV bo), u3, u4] ∧ Same (Off lv H1) (Off lv G) ∧ G lv = some (.lst vs) ∧ DpAll K (Off lv G) vs lev ∧ lev.length ≤ i ∧ lev.length ≤ 6 ∧ dueR tx = goOn (lines.drop i) i lev bo)
      ⟨none, none, none, [], [], rfl, Same.refl _, hlv, .nil, Nat.le_refl _, Nat.zero_le _, dd⟩ (fun i σ G _ ⟨_, _, _, _, _, _, s, _⟩ => SqL.of ((s.trans (off_sub lv G)).at hll)) ?_ ?_⟩
    · rintro i v1 σ G G2 hi ⟨bo, u3, u4, vs, lev, rfl, sG, hG, dG, li, l6, due⟩ ⟨TT, x1, y1, rfl, nT, rfl, ex, ey⟩
      cases ex
      rw [List.length_map] at hi
      replace ey : (lines.map V.str)[i]? = some y1 := ey
      rw [List.getElem?_map] at ey
      obtain ⟨ln, hln, rfl⟩ := Option.map_eq_some_iff.mp ey
      have dr : lines.drop i = ln :: lines.drop (i + 1) := by
        obtain ⟨h1, h2⟩ := List.getElem?_eq_some_iff.mp hln
        rw [List.drop_eq_getElem_cons h1, h2]
      have lln : ln.length ≤ 50000 := by
        have z := wt_mem (List.mem_of_getElem? hln)
        omega
      rw [dr] at due
      have s3 := same_new (o := .tup [V.int (i : Nat), V.str ln]) nT
      have sH : Same H (upd G TT (.tup [V.int (i : Nat), V.str ln])) := ((s1.trans sG).trans (off_sub lv G)).trans s3
      have hG3 := s3.at hG
      have tg3 := sH.tab T tg
      have sG3 : Same (Off lv H1) (Off lv (upd G TT (.tup [V.int (i : Nat), V.str ln]))) := sG.trans (off_mono s3)
      have dG3 := dps_same (off_mono s3) dG
      refine ⟨TT, _, rfl, SqT.of upd_same, rfl, _, _, rfl, _, _, rfl, rfl, ?_⟩
      generalize upd G TT (.tup [V.int (i : Nat), V.str ln]) = G3 at sH hG3 tg3 sG3 dG3 ⊢
      cases bo with
      | some b =>
        refine ⟨_, rfl, rfl, _, rfl, iteT ⟨_, rfl, ?_⟩⟩
        exact raise_go fun dx H5 s5 _ hx => kE i due dx H5 (sH.trans s5) hx
      | none =>
        refine ⟨_, rfl, rfl, _, rfl, iteF ?_⟩
        replace due : dueR tx = runR (ln :: lines.drop (i + 1)) i lev := due
        apply cutR (α := L2.St → Hp → Prop) (F := fun R => ∀ (o : Option Int) (G4 : Hp), (if 0 < i then booW (Txt.split ln " ") else none) = o → Same G3 G4 → R [some (.str tx), some (.ref lv), some (optV o), some (.int (i : Int)), some (.str ln)] G4)
        · intro cont
          refine ⟨_, rfl, _, _, rfl, rfl, _, rfl, ?_⟩
          by_cases h0 : 0 < i
          · rw [decide_eq_true (show (i : Int) > 0 by omega)]
            rw [if_pos h0] at cont
            exact iteT ⟨_, rfl, ln, rfl, lln, tg3, fun G4 s4 => cont _ G4 rfl s4⟩
          · rw [decide_eq_false (show ¬ (i : Int) > 0 by omega)]
            rw [if_neg h0] at cont
            exact iteF (cont none G3 rfl (Same.refl G3))
        intro o G4 eo s4
        have sH4 := sH.trans s4
        have hG4 := s4.at hG3
        refine ⟨_, rfl, rfl, _, rfl, ?_⟩
        cases o with
        | some b =>
          exact iteF ⟨some b, _, _, vs, lev, rfl, sG3.trans (off_mono s4), hG4, dps_same (off_mono s4) dG3, by omega, l6, due.trans (runR_boost eo)⟩
        | none =>
          have due2 := due.trans (runR_level eo)
          refine iteT ⟨_, rfl, .inl ⟨rfl, _, SqL.of hG4⟩, ?_⟩
          refine ⟨_, rfl, _, rfl, ln, i, lv, rfl, lln, has_of hG4, s4.tab T tg3, fun d h6 hd v G5 s5 dv => ?_, fun hn dx H5 s5 hx => kE i ?_ dx H5 (sH4.trans s5) hx⟩
          · rw [hd] at due2
            replace due2 : dueR tx = if i < 6 then runR (lines.drop (i + 1)) (i + 1) (lev ++ [d]) else .int (i : Int) := due2
            rw [if_pos h6] at due2
            have vl := dps_len dG3
            have hG5 := s5.at hG4
            refine ⟨lv, _, _, rfl, rfl, hG5, Nat.lt_of_le_of_lt (show vs.length ≤ 50000 by omega) (by decide), none, _, _, vs ++ [v], lev ++ [d], rfl, ?_, upd_same, ?_, ?_, ?_, due2⟩
            · rw [off_upd]
              exact (sG3.trans (off_mono s4)).trans (off_mono s5)
            · rw [off_upd]
              exact dps_app (dps_same (off_mono (s4.trans s5)) dG3) (.cons dv .nil)
            · rw [List.length_append, List.length_singleton]
              omega
            · rw [List.length_append, List.length_singleton]
              omega
          · rcases hn with hn | hn
            · rw [hn] at due2
              exact due2
            · cases hd : levW (Txt.split ln " ") with
              | none =>
                rw [hd] at due2
                exact due2
              | some d =>
                rw [hd] at due2
                replace due2 : dueR tx = if i < 6 then runR (lines.drop (i + 1)) (i + 1) (lev ++ [d]) else .int (i : Int) := due2
                rw [if_neg hn] at due2
                exact due2
    · rintro σ G ⟨bo, u3, u4, vs, lev, rfl, sG, hG, dG, li, l6, due⟩
      rw [List.length_map, List.drop_length] at due
      have vl := dps_len dG
      have due3 : dueR tx = .tuple [.tuple lev, optD bo] := by
        cases bo with
        | none => exact due
        | some b => exact due
      refine ⟨_, rfl, lv, vs, rfl, .inl ⟨SqL.of hG, fun tp ntp => ?_⟩⟩
      have s5 := same_new (o := .tup vs) ntp
      refine ⟨_, rfl, (by show 2 ≤ sizeLine; decide), fun p np => ?_⟩
      have s6 := same_new (o := .tup [.ref tp, optV bo]) np
      have dG1 := dps_same (off_sub lv G) dG
      exact kN lev _ due3 _ _ ((((s1.trans sG).trans (off_sub lv G)).trans s5).trans s6) (.tup (SqT.of upd_same) (.cons (.tup (SqT.of (s6.at upd_same)) (dps_same (s5.trans s6) dG1)) (.cons (dp_opt _) .nil)))
end
end Vk
namespace Vk
open PySem PySem.Spec PyProof.Rows L2 GxR
/-- the law's reading of words -/
def readL (heads : List Str) : List Str → PyData
  | [k] => if heads.any (fun y => y == k) = true then .list [.str k, .none] else .none
  | [k, n] => if heads.any (fun y => y == k) = true then (match countW [n] with
    | some q => .list [.str k, .int q]
    | none => .none) else .none
  | _ => .none
def qsL : List Str := ["queue", "stack"]
def boL : List Str := ["boost"]
theorem any_qs (k : Str) : (qsL.any fun y => y == k) = kindD (.str k) := by
  show (("queue" : Str) == k || (("stack" : Str) == k || false)) = (k == ("queue" : Str) || k == ("stack" : Str))
  rw [Bool.or_false, BEq.comm (a := ("queue" : Str)), BEq.comm (a := ("stack" : Str))]
theorem any_bo (k : Str) : (boL.any fun y => y == k) = decide (k = "boost") := by
  show (("boost" : Str) == k || false) = _
  rw [Bool.or_false, BEq.comm (a := ("boost" : Str)), Bool.eq_iff_iff]
  simp
theorem kind_not {k : Str} (h : kindD (.str k) = true) : k ≠ "boost" := fun e => by
  subst e
  revert h
  decide +kernel
theorem read_none {ws : List Str} (h : readL qsL ws = .none) : levW ws = none := by
  match ws, h with
  | [], _ => rfl
  | [k], h =>
    have h' : (if (qsL.any fun y => y == k) = true then PyData.list [.str k, .none] else .none) = .none := h
    rw [any_qs] at h'
    show (if kindD (.str k) = true then _ else none) = none
    by_cases z : kindD (.str k) = true
    · rw [if_pos z] at h'
      cases h'
    · rw [if_neg z]
  | [k, n], h =>
    have h' : (if (qsL.any fun y => y == k) = true then (match countW [n] with
      | some q => PyData.list [.str k, .int q]
      | none => .none) else .none) = .none := h
    rw [any_qs] at h'
    show (if kindD (.str k) = true then (countW [n]).map (fun q => PyData.tuple [.str k, .int q]) else none) = none
    by_cases z : kindD (.str k) = true
    · rw [if_pos z] at h' ⊢
      cases hc : countW [n] with
      | none => rfl
      | some q =>
        rw [hc] at h'
        cases h'
    · rw [if_neg z]
  | _ :: _ :: _ :: _, _ => rfl
/-- where the law reads a level -/
theorem read_some {ws : List Str} (h : readL qsL ws ≠ .none) : ∃ (k : Str) (o : Option Int), readL qsL ws = .list [.str k, optD o] ∧ levW ws = some (.tuple [.str k, optD o]) ∧ booW ws = none := by
  match ws, h with
  | [], h => exact absurd rfl h
  | _ :: _ :: _ :: _, h => exact absurd rfl h
  | [k], h =>
    have e : readL qsL [k] = if (qsL.any fun y => y == k) = true then PyData.list [.str k, .none] else .none := rfl
    have e2 : levW [k] = if kindD (.str k) = true then some (.tuple [.str k, .none]) else none := rfl
    rw [any_qs] at e
    by_cases z : kindD (.str k) = true
    · rw [if_pos z] at e e2
      refine ⟨k, none, e, e2, ?_⟩
      show (if k = "boost" then countW [] else none) = none
      rw [if_neg (kind_not z)]
    · rw [if_neg z] at e
      exact absurd e h
  | [k, n], h =>
    have e : readL qsL [k, n] = if (qsL.any fun y => y == k) = true then (match countW [n] with
      | some q => PyData.list [.str k, .int q]
      | none => .none) else .none := rfl
    have e2 : levW [k, n] = if kindD (.str k) = true then (countW [n]).map (fun q => PyData.tuple [.str k, .int q]) else none := rfl
    rw [any_qs] at e
    by_cases z : kindD (.str k) = true
    · rw [if_pos z] at e e2
      cases hc : countW [n] with
      | none =>
        rw [hc] at e
        exact absurd e h
      | some q =>
        rw [hc] at e e2
        refine ⟨k, some q, e, e2, ?_⟩
        show (if k = "boost" then countW [n] else none) = none
        rw [if_neg (kind_not z)]
    · rw [if_neg z] at e
      exact absurd e h
/-- what the law reads as a boost -/
theorem read_boost (ws : List Str) : (readL boL ws = .none ∧ booW ws = none) ∨ (∃ k, readL boL ws = .list [.str k, .none] ∧ booW ws = none) ∨ ∃ k b, readL boL ws = .list [.str k, .int b] ∧ booW ws = some b := by
  match ws with
  | [] => exact .inl ⟨rfl, rfl⟩
  | a :: b :: c :: r =>
    refine .inl ⟨rfl, ?_⟩
    show (if a = "boost" then (none : Option Int) else none) = none
    rw [ite_self]
  | [k] =>
    have e : readL boL [k] = if (boL.any fun y => y == k) = true then PyData.list [.str k, .none] else .none := rfl
    have e2 : booW [k] = if k = "boost" then (none : Option Int) else none := rfl
    rw [ite_self] at e2
    rw [any_bo] at e
    by_cases z : k = "boost"
    · rw [decide_eq_true z, if_pos rfl] at e
      exact .inr (.inl ⟨k, e, e2⟩)
    · rw [decide_eq_false z, if_neg Bool.false_ne_true] at e
      exact .inl ⟨e, e2⟩
  | [k, n] =>
    have e : readL boL [k, n] = if (boL.any fun y => y == k) = true then (match countW [n] with
      | some q => PyData.list [.str k, .int q]
      | none => .none) else .none := rfl
    have e2 : booW [k, n] = if k = "boost" then countW [n] else none := rfl
    rw [any_bo] at e
    by_cases z : k = "boost"
    · rw [decide_eq_true z, if_pos rfl] at e
      rw [if_pos z] at e2
      cases hc : countW [n] with
      | none =>
        rw [hc] at e e2
        exact .inl ⟨e, e2⟩
      | some q =>
        rw [hc] at e e2
        exact .inr (.inr ⟨k, q, e, e2⟩)
    · rw [decide_eq_false z, if_neg Bool.false_ne_true] at e
      rw [if_neg z] at e2
      exact .inl ⟨e, e2⟩
section
variable {P : Program} {w : World} {K : PySem.W.Frag} {mg : Str → Option Value} {base : Heap}
def spWordsRead (K : PySem.W.Frag) : Sp := fun vs H Q _ => ∃ (x : Str) (hp l : Addr) (heads : List Str), vs = [.str x, .ref hp] ∧ x.length ≤ 50000 ∧ SqL K H hp (heads.map V.str) ∧ H l ≠ none ∧ ∀ v H', Same H H' → Dp K (Off l H') v (readL heads (Txt.split x " ")) → Q v H'
theorem scWordsRead : FnScope ["line", "heads", "words", "number"] ["line", "heads"] (defScope sWordsRead) := ⟨rfl, rfl, rfl, by decide +kernel, rfl, by decide +kernel, by decide +kernel⟩
theorem ok_wordsRead (D : Df K mg "_law_words_read" sWordsRead ["line", "heads"]) (B : Blt mg) (N : Cl P w K mg base CX0 1 "_law_number" ["word"] spNumL) : Cl P w K mg base CX0 2 "_law_words_read" ["line", "heads"] (spWordsRead K) := by
  refine cl0 D scWordsRead (fun vs H Q E h => ?_) (fun f cdv A outer s H vs Q E hr h => ?_)
  · obtain ⟨x, hp, l, hs, rfl, _⟩ := h
    rfl
  · obtain ⟨x, hp, l, hs, rfl, lx, hh, hl, k⟩ := h
    refine ⟨_, pss_cons (ps_set (i := 2) scWordsRead.nd rfl (Or.inl rfl) (pe_split (pv 0) pe_str))
      (pss_cons (ps_if (PW.pt (pw_or (pt_cmpR op_notIn_seq (pe_ix ix_list (pv 2) pe_int (fun _ _ => rfl)) (pv 1) (by rfl)) (pw_or1 (pt_cmpR op_gt (pe_callB call_len_seq (by rfl) B.len PySem.boot_len (pa_cons (pv 2) pa_nil)) pe_int (nomark _))))) (pss_one (ps_ret pe_non)) pss_nil)
      (pss_cons (ps_if (pt_cmpR op_eq (pe_callB call_len_seq (by rfl) B.len PySem.boot_len (pa_cons (pv 2) pa_nil)) pe_int (nomark _)) (pss_one (ps_ret (pe_lst (pa_cons (pe_ix ix_list (pv 2) pe_int (fun _ _ => rfl)) (pa_cons pe_non pa_nil))))) pss_nil)
      (pss_cons (ps_set (i := 3) scWordsRead.nd rfl (Or.inl rfl) (pc N hr (by decide) (pa_cons (pe_ix ix_list (pv 2) pe_int (fun _ _ => rfl)) pa_nil)))
      (pss_cons (ps_if (PW.pt (pw_or (pt_cmpR op_isN (pv 3) pe_non (nomark _)) (pw_or1 (pt_cmpR op_eq (pv 3) pe_int (nomark _))))) (pss_one (ps_ret pe_non)) pss_nil)
      (pss_one (ps_ret (pe_lst (pa_cons (pe_ix ix_list (pv 2) pe_int (fun _ _ => rfl)) (pa_cons (pv 3) pa_nil))))))))), ?_⟩
    refine ⟨_, rfl, ⟨_, rfl⟩, _, " ", rfl, rfl, by decide +kernel, Nat.le_trans (show _ + 2 ≤ 50002 by omega) (by decide), fun p np => ?_⟩
    obtain ⟨a, r, e, sm, rl⟩ := words_ok lx
    rw [e] at k ⊢
    have s1 := same_new (o := .lst ((a :: r).map V.str)) np
    have hp1 : upd H p (.lst ((a :: r).map V.str)) p = some (.lst (V.str a :: r.map V.str)) := upd_same
    generalize upd H p (.lst ((a :: r).map V.str)) = H1 at s1 hp1 ⊢
    have lenS : ((V.str a :: r.map V.str).length : Nat) = r.length + 1 := by rw [List.length_cons, List.length_map]
    refine ⟨_, rfl, p, _, 0, .str a, rfl, rfl, SqL.of hp1, atI_nat (j := 0) rfl, _, rfl, hp, _, rfl, .inl (s1.seq hh), rfl, flat_strs _, _, rfl, ?_⟩
    show if (!inV (.str a) (hs.map V.str)) = true then _ else _
    rw [inV_strs]
    cases ha : hs.any (fun y => y == a) with
    | false =>
      refine iteT (iteT (k .non H1 s1 ?_))
      have z : readL hs (a :: r) = .none := by
        match r with
        | [] =>
          show (if hs.any (fun y => y == a) = true then _ else PyData.none) = _
          rw [ha, if_neg Bool.false_ne_true]
        | [n] =>
          show (if hs.any (fun y => y == a) = true then _ else PyData.none) = _
          rw [ha, if_neg Bool.false_ne_true]
        | _ :: _ :: _ => rfl
      rw [z]
      exact .non
    | true =>
    refine iteF ⟨_, rfl, p, _, rfl, .inl (SqL.of hp1), _, _, rfl, rfl, _, rfl, ?_⟩
    rw [lenS]
    match r, k, sm, hp1, lenS with
    | b :: c :: r', k, sm, hp1, lenS =>
      rw [decide_eq_true (show (((b :: c :: r').length + 1 : Nat) : Int) > 2 by rw [List.length_cons, List.length_cons]; omega)]
      exact iteT (k .non H1 s1 .non)
    | [], k, sm, hp1, lenS =>
      refine iteF ⟨_, rfl, p, _, rfl, .inl (SqL.of hp1), rfl, _, rfl, iteT ?_⟩
      refine ⟨_, rfl, p, _, 0, .str a, rfl, rfl, SqL.of hp1, atI_nat (j := 0) rfl, (by show 2 ≤ sizeLine; decide), fun q nq => ?_⟩
      have sq := same_new (o := .lst [V.str a, .non]) nq
      have ql : q ≠ l := ne_has (s1.has l hl) nq
      refine k _ _ (s1.trans sq) ?_
      have z : readL hs [a] = .list [.str a, .none] := by
        show (if hs.any (fun y => y == a) = true then _ else PyData.none) = _
        rw [ha, if_pos rfl]
      rw [z]
      exact .lst (SqL.of (by rw [off_ne ql, upd_same])) (.cons (.str a) (.cons .non .nil))
    | [n], k, sm, hp1, lenS =>
      refine iteF ⟨_, rfl, p, _, rfl, .inl (SqL.of hp1), rfl, _, rfl, iteF ?_⟩
      refine ⟨_, rfl, p, _, 1, .str n, rfl, rfl, SqL.of hp1, atI_nat (j := 1) rfl, n, rfl, sm n (by simp), fun H2 s2 => ?_⟩
      have s12 := s1.trans s2
      have z : readL hs [a, n] = (match countW [n] with
        | some q => PyData.list [.str a, .int q]
        | none => .none) := by
        show (if hs.any (fun y => y == a) = true then _ else PyData.none) = _
        rw [ha, if_pos rfl]
      rw [z] at k
      have cw : countW [n] = if numD n = some 0 then none else numD n := rfl
      refine ⟨_, rfl, rfl, _, rfl, ?_⟩
      cases hn : numD n with
      | none =>
        rw [hn] at cw
        rw [cw] at k
        exact iteT (iteT (k .non H2 s12 .non))
      | some m =>
        rw [hn] at cw
        refine iteF ⟨_, rfl, rfl, _, rfl, ?_⟩
        by_cases h0 : m = 0
        · subst h0
          rw [cw] at k
          exact iteT (k .non H2 s12 .non)
        · rw [if_neg (fun e => h0 (Option.some.inj e))] at cw
          rw [cw] at k
          rw [show decide (optV (some m) = V.int 0) = false from decide_eq_false (fun e => h0 (V.int.inj e))]
          refine iteF ⟨_, rfl, p, _, 0, .str a, rfl, rfl, SqL.of (s2.at hp1), atI_nat (j := 0) rfl, _, rfl, (by show 2 ≤ sizeLine; decide), fun q nq => ?_⟩
          have sq := same_new (o := .lst [V.str a, .int m]) nq
          have ql : q ≠ l := ne_has (s12.has l hl) nq
          exact k _ _ (s12.trans sq) (.lst (SqL.of (by rw [off_ne ql, upd_same]; rfl)) (.cons (.str a) (.cons (.int m) .nil)))
end
end Vk
namespace Vk
open PySem PySem.Spec PyProof.Rows L2 GxR
section
variable {P : Program} {w : World} {K : PySem.W.Frag} {mg : Str → Option Value} {base : Heap}
theorem dp_lst2 {H : Hp} {v : V} {a b : PyData} (h : Dp K H v (.list [a, b])) : ∃ p x y, v = .ref p ∧ SqL K H p [x, y] ∧ Dp K H x a ∧ Dp K H y b := by
  cases h with
  | lst q r =>
    cases r with
    | cons h1 r =>
      cases r with
      | cons h2 r =>
        cases r
        exact ⟨_, _, _, rfl, q, h1, h2⟩
theorem dp_optV {H : Hp} {v : V} {o : Option Int} (h : Dp K H v (optD o)) : v = optV o := by
  cases o with
  | none => exact dp_none h
  | some i => exact dp_int h
def spDue (K : PySem.W.Frag) : Sp := fun vs H Q _ => ∃ (tx : Str), vs = [.str tx] ∧ tx.length ≤ 49999 ∧ ∀ v H', Same H H' → Dp K H' v (dueR tx) → Q v H'
theorem scDue : FnScope ["text", "lines", "levels", "row", "line", "level", "last"] ["text"] (defScope sDue) := ⟨rfl, rfl, rfl, by decide +kernel, rfl, by decide +kernel, by decide +kernel⟩
theorem ok_due (D : Df K mg "_law_due" sDue ["text"]) (B : Blt mg) (WR : Cl P w K mg base CX0 2 "_law_words_read" ["line", "heads"] (spWordsRead K)) : Cl P w K mg base CX0 3 "_law_due" ["text"] (spDue K) := by
  refine cl0 D scDue (fun vs H Q E h => ?_) (fun f cdv A outer s H vs Q E hr h => ?_)
  · obtain ⟨x, rfl, _⟩ := h
    rfl
  · obtain ⟨tx, rfl, ltx, k⟩ := h
    refine ⟨_, pss_cons (ps_set (i := 1) scDue.nd rfl (Or.inl rfl) (pe_split (pv 0) pe_str))
      (pss_cons (ps_set (i := 2) scDue.nd rfl (Or.inl rfl) (pe_lst pa_nil))
      (pss_cons (ps_for PassesOwn.never rfl (pi_enum (by rfl) B.enum (pa_cons (pv 1) pa_nil)) (pg_tup rfl (pgs_cons (pg_name (i := 3) scDue.nd rfl (.inl rfl)) (pgs_cons (pg_name (i := 4) scDue.nd rfl (.inl rfl)) pgs_nil)))
        (pss_cons (ps_set (i := 5) scDue.nd rfl (Or.inl rfl) (pc WR hr (by decide) (pa_cons (pv 4) (pa_cons (pe_lst (pa_cons pe_str (pa_cons pe_str pa_nil))) pa_nil))))
        (pss_cons (ps_if (pt_cmpR op_isN (pv 5) pe_non (nomark _))
            (pss_cons (ps_set (i := 6) scDue.nd rfl (Or.inl rfl) (pc WR hr (by decide) (pa_cons (pv 4) (pa_cons (pe_lst (pa_cons pe_str pa_nil)) pa_nil))))
            (pss_cons (ps_if (PW.pt (pw_or (pt_cmpR op_eq (pv 3) pe_int (nomark _)) (pw_or (pt_cmpR op_isN (pv 6) pe_non (nomark _)) (pw_or1 (pt_cmpR op_isN (pe_ix ix_list (pv 6) pe_int (fun _ _ => rfl)) pe_non (nomark _)))))) (pss_one (ps_ret (pv 3))) pss_nil)
            (pss_one (ps_ret (pe_ifExp (pt_cmpR op_lt (pe_op op_add (pv 3) pe_int) (pe_callB call_len_seq (by rfl) B.len PySem.boot_len (pa_cons (pv 1) pa_nil)) (nomark _)) (pe_op op_add (pv 3) pe_int)
              (pe_tup (pa_cons (pe_callTy call_tuple_of (by rfl) B.tuple (by decide +kernel) (pa_cons (pv 2) pa_nil)) (pa_cons (pe_ix ix_list (pv 6) pe_int (fun _ _ => rfl)) pa_nil)))))))) pss_nil)
        (pss_cons (ps_if (pt_cmpR op_eq (pv 3) pe_int (nomark _)) (pss_one (ps_ret (pv 3))) pss_nil)
        (pss_one (ps_expr (pe_bm PySem.F.plainAttrs_list PySem.F.slot_list_append PySem.F.type_list_append mt_append (pv 2)
          (pa_cons (pe_tup (pa_cons (pe_ix ix_list (pv 5) pe_int (fun _ _ => rfl)) (pa_cons (pe_ix ix_list (pv 5) pe_int (fun _ _ => rfl)) pa_nil))) pa_nil))))))))
      (pss_one (ps_ret (pe_tup (pa_cons (pe_callTy call_tuple_of (by rfl) B.tuple (by decide +kernel) (pa_cons (pv 2) pa_nil)) (pa_cons pe_non pa_nil))))))), ?_⟩
    refine ⟨_, rfl, ⟨_, rfl⟩, _, _, rfl, rfl, by decide +kernel, Nat.le_trans (show _ + 2 ≤ 50001 by omega) (by decide), fun ll nll => ?_⟩
    have lw := split_nl tx
    have ll_ := wt_len (Txt.split tx "\n")
    have dd : dueR tx = runR (Txt.split tx "\n") 0 [] := rfl
    generalize Txt.split tx "\n" = lines at lw ll_ dd ⊢
    have s0 := same_new (o := .lst (lines.map V.str)) nll
    refine ⟨(by show 0 ≤ sizeLine; decide), fun lv nlv => ?_⟩
    have hll0 : upd H ll (.lst (lines.map V.str)) ll = some (.lst (lines.map V.str)) := upd_same
    have s1 : Same H (Off lv (upd (upd H ll (.lst (lines.map V.str))) lv (.lst []))) := by
      rw [off_upd, off_none nlv]
      exact s0
    have nl : ll ≠ lv := ne_of_none hll0 nlv
    have hll : Off lv (upd (upd H ll (.lst (lines.map V.str))) lv (.lst [])) ll = some (.lst (lines.map V.str)) := by
      rw [off_ne nl, upd_ne nl, upd_same]
    have hlv : upd (upd H ll (.lst (lines.map V.str))) lv (.lst []) lv = some (.lst []) := upd_same
    generalize upd (upd H ll (.lst (lines.map V.str))) lv (.lst []) = H1 at s1 hll hlv ⊢
    have lml : (lines.map V.str).length = lines.length := List.length_map ..
    refine ⟨_, rfl, ll, _, rfl, SqL.of (off_some hll).2, for_it (walk_enum (K := K) (a := ll) (xs := lines.map V.str)) (fun i σ G => ∃ (u3 u4 u5 u6 : Option V) (vs : List V) (lev : List PyData), σ = [some (.str tx), some (.ref ll), some (.ref lv), u3, u4, u5, u6] ∧ Same (Off lv H1) (Off lv G) ∧ G lv = some (.lst vs) ∧ DpAll K (Off lv G) vs lev ∧ lev.length ≤ i ∧ i ≤ 6 ∧ dueR tx = runR (lines.drop i) i lev)
      ⟨none, none, none, none, [], [], rfl, Same.refl _, hlv, .nil, Nat.le_refl _, Nat.zero_le _, dd⟩ (fun i σ G _ ⟨_, _, _, _, _, _, _, s, _⟩ => SqL.of ((s.trans (off_sub lv G)).at hll)) ?_ ?_⟩
    · rintro i v1 σ G G2 hi ⟨u3, u4, u5, u6, vs, lev, rfl, sG, hG, dG, li, i6, due⟩ ⟨TT, x1, y1, rfl, nT, rfl, ex, ey⟩
      cases ex
      rw [List.length_map] at hi
      replace ey : (lines.map V.str)[i]? = some y1 := ey
      rw [List.getElem?_map] at ey
      obtain ⟨ln, hln, rfl⟩ := Option.map_eq_some_iff.mp ey
      have dr : lines.drop i = ln :: lines.drop (i + 1) := by
        obtain ⟨h1, h2⟩ := List.getElem?_eq_some_iff.mp hln
        rw [List.drop_eq_getElem_cons h1, h2]
      have lln : ln.length ≤ 50000 := by
        have z := wt_mem (List.mem_of_getElem? hln)
        omega
      rw [dr] at due
      have s3 := same_new (o := .tup [V.int (i : Nat), V.str ln]) nT
      have sH : Same H (upd G TT (.tup [V.int (i : Nat), V.str ln])) := ((s1.trans sG).trans (off_sub lv G)).trans s3
      have hG3 := s3.at hG
      have sG3 : Same (Off lv H1) (Off lv (upd G TT (.tup [V.int (i : Nat), V.str ln]))) := sG.trans (off_mono s3)
      have dG3 := dps_same (off_mono s3) dG
      have hl3 := (sG3.trans (off_sub lv _)).at hll
      refine ⟨TT, _, rfl, SqT.of upd_same, rfl, _, _, rfl, _, _, rfl, rfl, ?_⟩
      generalize upd G TT (.tup [V.int (i : Nat), V.str ln]) = G3 at sH hG3 sG3 dG3 hl3 ⊢
      refine ⟨_, rfl, (by show 2 ≤ sizeLine; decide), fun q nq => ?_⟩
      have sq := same_new (o := .lst (qsL.map V.str)) nq
      have hG4 := sq.at hG3
      refine ⟨ln, q, lv, qsL, rfl, lln, SqL.of upd_same, has_of hG4, fun v G5 s5 dv => ?_⟩
      have s35 := sq.trans s5
      have hG5 := s35.at hG3
      have sH5 := sH.trans s35
      have dG5 := dps_same (off_mono s35) dG3
      have vl := dps_len dG3
      by_cases hz : readL qsL (Txt.split ln " ") = .none
      · rw [hz] at dv
        have ev := dp_none dv
        subst ev
        refine ⟨_, rfl, rfl, _, rfl, iteT ?_⟩
        refine ⟨_, rfl, (by show 1 ≤ sizeLine; decide), fun q2 nq2 => ?_⟩
        have sq2 := same_new (o := .lst (boL.map V.str)) nq2
        refine ⟨ln, q2, lv, boL, rfl, lln, SqL.of upd_same, has_of (sq2.at hG5), fun v6 G6 s6 dv6 => ?_⟩
        have s56 := sq2.trans s6
        have sH6 := sH5.trans s56
        have lw := read_none hz
        -- a row that is no level and no boost
        have bad : (if 0 < i then booW (Txt.split ln " ") else none) = none → ∀ {G' : Hp}, Same H G' → Q (.int (i : Int)) G' := fun hb G' s' => by
          refine k (.int (i : Int)) G' s' ?_
          rw [due, runR_level hb, lw]
          exact .int _
        refine ⟨_, rfl, rfl, _, rfl, ?_⟩
        by_cases h0 : i = 0
        · rw [show decide (V.int (i : Int) = V.int 0) = true from decide_eq_true (by rw [h0]; rfl)]
          exact iteT (iteT ⟨_, rfl, bad (by rw [h0]; rfl) sH6⟩)
        rw [show decide (V.int (i : Int) = V.int 0) = false from decide_eq_false (fun e => h0 (by have := V.int.inj e; omega))]
        have i0 : 0 < i := by omega
        rw [if_pos i0] at bad
        refine iteF ?_
        rcases read_boost (Txt.split ln " ") with ⟨e, eb⟩ | ⟨kk, e, eb⟩ | ⟨kk, b, e, eb⟩
        · rw [e] at dv6
          have ev := dp_none dv6
          subst ev
          exact ⟨_, rfl, rfl, _, rfl, iteT (iteT ⟨_, rfl, bad eb sH6⟩)⟩
        · rw [e] at dv6
          obtain ⟨p, x, y, rfl, qL, dx, dy⟩ := dp_lst2 (dp_same (off_sub lv G6) dv6)
          have ey := dp_none dy
          subst ey
          exact ⟨_, rfl, rfl, _, rfl, iteF ⟨_, rfl, p, _, 1, _, rfl, rfl, qL, atI_nat (j := 1) rfl, rfl, _, rfl, iteT ⟨_, rfl, bad eb sH6⟩⟩⟩
        · rw [e] at dv6
          obtain ⟨p, x, y, rfl, qL, dx, dy⟩ := dp_lst2 (dp_same (off_sub lv G6) dv6)
          have ey := dp_int dy
          subst ey
          refine ⟨_, rfl, rfl, _, rfl, iteF ⟨_, rfl, p, _, 1, _, rfl, rfl, qL, atI_nat (j := 1) rfl, rfl, _, rfl, iteF ?_⟩⟩
          have due2 : dueR tx = goOn (lines.drop (i + 1)) (i + 1) lev (some b) := due.trans (runR_boost (by rw [if_pos i0]; exact eb))
          have hl6 := (s35.trans s56).at hl3
          have hG6 := s56.at hG5
          refine ⟨_, rfl, _, _, rfl, rfl, _, rfl, ll, _, rfl, .inl (SqL.of hl6), _, _, rfl, rfl, _, rfl, ?_⟩
          rw [lml]
          by_cases hr : i + 1 < lines.length
          · rw [decide_eq_true (show (i : Int) + 1 < (lines.length : Nat) by omega)]
            refine iteT ⟨_, rfl, _, _, rfl, rfl, ?_⟩
            refine k _ _ sH6 ?_
            rw [due2, List.drop_eq_getElem_cons hr]
            exact .int _
          · rw [decide_eq_false (show ¬ (i : Int) + 1 < (lines.length : Nat) by omega)]
            refine iteF ⟨_, rfl, lv, vs, rfl, .inl ⟨SqL.of hG6, fun tp ntp => ?_⟩⟩
            have s7 := same_new (o := .tup vs) ntp
            refine ⟨_, rfl, p, _, 1, _, rfl, rfl, s7.seq qL, atI_nat (j := 1) rfl, (by show 2 ≤ sizeLine; decide), fun u nu => ?_⟩
            have s8 := same_new (o := .tup [.ref tp, .int b]) nu
            refine k _ _ ((sH6.trans s7).trans s8) ?_
            rw [due2, List.drop_of_length_le (by omega)]
            exact .tup (SqT.of upd_same) (.cons (.tup (SqT.of (s8.at upd_same)) (dps_same ((off_sub lv G5).trans ((s56.trans s7).trans s8)) dG5)) (.cons (.int b) .nil))
      · obtain ⟨kk, o, e1, e2, e3⟩ := read_some hz
        rw [e1] at dv
        obtain ⟨p, x, y, rfl, qL, dx, dy⟩ := dp_lst2 (dp_same (off_sub lv G5) dv)
        have ex := dp_str dx
        subst ex
        have ey := dp_optV dy
        subst ey
        have due2 : dueR tx = if i < 6 then runR (lines.drop (i + 1)) (i + 1) (lev ++ [.tuple [.str kk, optD o]]) else .int (i : Int) := by
          rw [due, runR_level (by rw [e3, ite_self]), e2]
        refine ⟨_, rfl, rfl, _, rfl, iteF ⟨_, rfl, rfl, _, rfl, ?_⟩⟩
        by_cases h6 : i = 6
        · rw [show decide (V.int (i : Int) = V.int 6) = true from decide_eq_true (by rw [h6]; rfl)]
          refine iteT ⟨_, rfl, k (.int (i : Int)) G5 sH5 ?_⟩
          rw [due2, if_neg (by omega)]
          exact .int _
        rw [show decide (V.int (i : Int) = V.int 6) = false from decide_eq_false (fun e => h6 (by have := V.int.inj e; omega))]
        rw [if_pos (show i < 6 by omega)] at due2
        refine iteF ⟨_, rfl, .inl ⟨rfl, _, SqL.of hG5⟩, _, rfl, p, _, 0, _, rfl, rfl, qL, atI_nat (j := 0) rfl, _, rfl, p, _, 1, _, rfl, rfl, qL, atI_nat (j := 1) rfl, (by show 2 ≤ sizeLine; decide), fun u nu => ?_⟩
        have s7 := same_new (o := .tup [V.str kk, optV o]) nu
        have ul : u ≠ lv := ne_has (has_of hG5) nu
        refine ⟨lv, _, _, rfl, rfl, s7.at hG5, Nat.lt_of_le_of_lt (show vs.length ≤ 50000 by omega) (by decide), _, _, _, _, vs ++ [.ref u], lev ++ [.tuple [.str kk, optD o]], rfl, ?_, upd_same, ?_, ?_, by omega, due2⟩
        · rw [off_upd]
          exact sG3.trans (off_mono (s35.trans s7))
        · rw [off_upd]
          exact dps_app (dps_same (off_mono s7) dG5) (.cons (.tup (SqT.of (by rw [off_ne ul, upd_same])) (.cons (.str kk) (.cons (dp_opt o) .nil))) .nil)
        · rw [List.length_append, List.length_singleton]
          omega
    · rintro σ G ⟨u3, u4, u5, u6, vs, lev, rfl, sG, hG, dG, li, i6, due⟩
      rw [List.length_map, List.drop_length] at due
      refine ⟨_, rfl, lv, vs, rfl, .inl ⟨SqL.of hG, fun tp ntp => ?_⟩⟩
      have s5 := same_new (o := .tup vs) ntp
      refine ⟨(by show 2 ≤ sizeLine; decide), fun p np => ?_⟩
      have s6 := same_new (o := .tup [.ref tp, .non]) np
      refine k _ _ ((((s1.trans sG).trans (off_sub lv G)).trans s5).trans s6) ?_
      rw [due]
      exact .tup (SqT.of upd_same) (.cons (.tup (SqT.of (s6.at upd_same)) (dps_same ((off_sub lv G).trans (s5.trans s6)) dG)) (.cons .non .nil))
end
end Vk
/-! {x} of a text, an int, none -/
namespace Vk
open PySem PySem.Spec PyProof.Rows L2
section
variable {X : Cx}
def tFmtO (te : TE) : TE := fun σ H Q => te σ H fun x H1 => ((∃ y : Str, x = .str y ∧ y.length ≤ sizeLine ∧ Q (.str y) H1) ∨ ∃ i : Int, x = .int i ∧ i.natAbs.log2 < 1920 ∧ Q (.str (toString i)) H1) ∨ (x = .non ∧ Q (.str ("None" : Str)) H1)
theorem pe_fmtO {e : Expr} {te : TE} {pos : Pos} (he : PE X e te) : PE X (.FormattedValue e (-1) none pos) (tFmtO te) := by
  refine ⟨fun pins s σ H Q I h => ?_⟩
  refine wpAny_FormattedValue_plain (thn (he.run pins s σ H _ I h) fun v s1 hv => ?_)
  obtain ⟨x, H1, I1, r1, q⟩ := hv
  rcases q with (⟨y, rfl, hz, q⟩ | ⟨i, rfl, hz, q⟩) | ⟨rfl, q⟩
  · obtain ⟨t, rfl⟩ := r1
    exact wpAny_formatField_str ⟨.str y, H1, I1, ⟨t, rfl⟩, q⟩ ⟨.str y, H1, I1.tok _, ⟨_, rfl⟩, q⟩ hz
  · obtain ⟨t, rfl⟩ := r1
    exact wpAny_formatField_int hz ⟨.str (toString i), H1, I1.tok _, ⟨_, rfl⟩, q⟩
  · cases r1
    exact wpAny_formatField_none ⟨.str "None", H1, I1.tok _, ⟨_, rfl⟩, q⟩
end
end Vk
namespace Vk
open PySem PySem.Spec PyProof.Rows L2 GxR
/-- none, or an integer from 1 on that can be written -/
def okQ (q : PyData) : Prop := q = .none ∨ ∃ n : Nat, q = .int (n : Int) ∧ 1 ≤ n ∧ n ≤ 10 ^ 30
def goodLv (d : PyData) : Prop := ∃ (k : Str) (q : PyData), d = .tuple [.str k, q] ∧ (k = "queue" ∨ k = "stack") ∧ okQ q
def cntP (k : Str) : PyData → List Str
  | .int n => [k, dg n]
  | _ => [k]
def cntL (k : Str) (q : PyData) : Str := Txt.join " " (cntP k q)
def lvL : PyData → Str
  | .tuple [.str k, q] => cntL k q
  | _ => ""
def boLs : PyData → List Str
  | .int n => [cntL "boost" (.int n)]
  | _ => []
def rlines (ls : List PyData) (b : PyData) : List Str := ls.map lvL ++ boLs b
def textR (ls : List PyData) (b : PyData) : Str := Txt.join "\n" (rlines ls b)
theorem join_one (k : Str) : Txt.join " " [k] = k := by
  refine TL.ext_tl ?_
  rw [TL.join_eq, TL.tl_join]
  rfl
theorem join_two (k d : Str) : Txt.join " " [k, d] = ((Str.empty ++ k) ++ " ") ++ d := by
  refine TL.ext_tl ?_
  rw [TL.join_eq, TL.tl_join]
  show TL.tl k ++ (TL.tl " " ++ TL.tl d) = (((Str.empty ++ k) ++ " ") ++ d).cps.toList
  rw [cps_app, cps_app, cps_app]
  show TL.tl k ++ (TL.tl " " ++ TL.tl d) = (([] ++ TL.tl k) ++ TL.tl " ") ++ TL.tl d
  simp only [List.nil_append, List.append_assoc]
theorem join_two2 (k d : Str) : k ++ ((Str.empty ++ " ") ++ d) = ((Str.empty ++ k) ++ " ") ++ d := by
  refine TL.ext_tl ?_
  show (k ++ ((Str.empty ++ " ") ++ d)).cps.toList = (((Str.empty ++ k) ++ " ") ++ d).cps.toList
  simp only [cps_app]
  show TL.tl k ++ (([] ++ TL.tl " ") ++ TL.tl d) = (([] ++ TL.tl k) ++ TL.tl " ") ++ TL.tl d
  simp only [List.nil_append, List.append_assoc]
/-- the words that stand in front -/
def heads : List Str := ["queue", "stack", "boost"]
theorem head_len {k : Str} (h : k ∈ heads) : k.length = 5 := by
  simp only [heads, List.mem_cons, List.not_mem_nil, or_false] at h
  rcases h with rfl | rfl | rfl <;> decide +kernel
theorem head_free {k : Str} (h : k ∈ heads) {s : Nat} (hs : s < 97) : s ∉ TL.tl k := fun hm => by
  have z : ∀ w : Str, (w.cps.toList.all fun c => decide (97 ≤ c)) = true → 97 ≤ s → True := fun _ _ _ => trivial
  have letters : ∀ w : Str, (w.cps.toList.all fun c => decide (97 ≤ c)) = true → s ∉ TL.tl w := fun w hw hm => by
    have := of_decide_eq_true (List.all_eq_true.mp hw s hm)
    omega
  simp only [heads, List.mem_cons, List.not_mem_nil, or_false] at h
  rcases h with rfl | rfl | rfl
  · exact letters _ (by decide +kernel) hm
  · exact letters _ (by decide +kernel) hm
  · exact letters _ (by decide +kernel) hm
theorem cnt_free {k : Str} {q : PyData} (h : k ∈ heads) (hq : okQ q) {s : Nat} (hs : s < 48) : ∀ p ∈ cntP k q, s ∉ TL.tl p := by
  rcases hq with rfl | ⟨n, rfl, _, _⟩
  · intro p hp
    rw [List.mem_singleton.mp hp]
    exact head_free h (by omega)
  · intro p hp
    simp only [cntP, List.mem_cons, List.not_mem_nil, or_false] at hp
    rcases hp with rfl | rfl
    · exact head_free h (by omega)
    · rw [show TL.tl (dg (n : Int)) = TL.numL n from dg_tl n]
      exact TL.numL_free (by omega)
theorem cnt_ne (k : Str) (q : PyData) : cntP k q ≠ [] := by
  cases q <;> simp [cntP]
theorem cnt_split {k : Str} {q : PyData} (h : k ∈ heads) (hq : okQ q) : Txt.split (cntL k q) " " = cntP k q :=
  TL.split_join (s := 32) (S := []) (by decide +kernel) (by decide +kernel) (cnt_ne k q) (cnt_free h hq (by omega))
theorem cnt_line {k : Str} {q : PyData} (h : k ∈ heads) (hq : okQ q) : 10 ∉ TL.tl (cntL k q) := fun hm => by
  unfold cntL at hm
  rw [TL.join_eq, TL.tl_join] at hm
  rcases mem_joinL hm with z | ⟨p, hp, z⟩
  · exact absurd z (by decide +kernel)
  · obtain ⟨q', hq', rfl⟩ := List.mem_map.mp hp
    exact cnt_free h hq (by omega) q' hq' z
theorem cnt_len {k : Str} {q : PyData} (h : k ∈ heads) (hq : okQ q) : (cntL k q).length ≤ 38 := by
  have hl := head_len h
  refine Nat.le_trans (join_wt (a := " ") _ (by decide +kernel)) ?_
  rcases hq with rfl | ⟨n, rfl, _, h2⟩
  · show wt [k] ≤ _
    rw [wt_cons, wt_nil]
    omega
  · have := (dg_len h2).2
    show wt [k, dg (n : Int)] ≤ _
    rw [wt_cons, wt_cons, wt_nil]
    omega
theorem kind_mem {k : Str} (h : k = "queue" ∨ k = "stack") : k ∈ heads ∧ kindD (.str k) = true := by
  rcases h with rfl | rfl
  · exact ⟨by simp [heads], by decide +kernel⟩
  · exact ⟨by simp [heads], by decide +kernel⟩
theorem cw_dg {n : Nat} (h1 : 1 ≤ n) (h2 : n ≤ 10 ^ 30) : countW [dg (n : Int)] = some (n : Int) := by
  show (if numD (dg (n : Int)) = some 0 then none else numD (dg (n : Int))) = _
  rw [numD_dg h2, if_neg (fun z => by have := Option.some.inj z; omega)]
theorem lev_back {d : PyData} (h : goodLv d) : levW (Txt.split (lvL d) " ") = some d ∧ booW (Txt.split (lvL d) " ") = none := by
  obtain ⟨k, q, rfl, hk, hq⟩ := h
  obtain ⟨h1, h2⟩ := kind_mem hk
  show levW (Txt.split (cntL k q) " ") = _ ∧ booW (Txt.split (cntL k q) " ") = none
  rw [cnt_split h1 hq]
  rcases hq with rfl | ⟨n, rfl, n1, n2⟩
  · refine ⟨?_, ?_⟩
    · show (if kindD (.str k) = true then some (PyData.tuple [.str k, .none]) else none) = _
      rw [if_pos h2]
    · show (if k = "boost" then countW [] else none) = none
      rw [if_neg (kind_not h2)]
  · refine ⟨?_, ?_⟩
    · show (if kindD (.str k) = true then (countW [dg (n : Int)]).map (fun q => PyData.tuple [.str k, .int q]) else none) = _
      rw [if_pos h2, cw_dg n1 n2]
      rfl
    · show (if k = "boost" then countW [dg (n : Int)] else none) = none
      rw [if_neg (kind_not h2)]
theorem run_back (b : PyData) (hb : okQ b) : ∀ (ls : List PyData) (row : Nat) (lev : List PyData), (∀ d ∈ ls, goodLv d) → row + ls.length ≤ 6 → 1 ≤ row + ls.length → runR (ls.map lvL ++ boLs b) row lev = .tuple [.tuple (lev ++ ls), b]
  | [], row, lev, _, _, h1 => by
    rw [List.append_nil]
    rcases hb with rfl | ⟨n, rfl, n1, n2⟩
    · rfl
    · show runR [cntL "boost" (.int (n : Int))] row lev = _
      have e : (if 0 < row then booW (Txt.split (cntL "boost" (.int (n : Int))) " ") else none) = some (n : Int) := by
        rw [if_pos (by rw [List.length_nil] at h1; omega), cnt_split (by simp [heads]) (.inr ⟨n, rfl, n1, n2⟩)]
        show (if ("boost" : Str) = "boost" then countW [dg (n : Int)] else none) = _
        rw [if_pos rfl, cw_dg n1 n2]
      rw [runR_boost e]
      rfl
  | d :: ls, row, lev, h, h6, h1 => by
    obtain ⟨e1, e2⟩ := lev_back (h d (by simp))
    rw [List.length_cons] at h6
    show runR (lvL d :: (ls.map lvL ++ boLs b)) row lev = _
    rw [runR_level (by rw [e2, ite_self]), e1]
    show (if row < 6 then runR (ls.map lvL ++ boLs b) (row + 1) (lev ++ [d]) else .int (row : Int)) = _
    rw [if_pos (by omega), run_back b hb ls (row + 1) (lev ++ [d]) (fun x hx => h x (List.mem_cons_of_mem _ hx)) (by omega) (by omega), List.append_assoc]
    rfl
/-- a rule that can be written -/
def wrR (ls : List PyData) (b : PyData) : Prop := (∀ d ∈ ls, goodLv d) ∧ okQ b ∧ 1 ≤ ls.length ∧ ls.length ≤ 6
theorem rlines_ok {ls : List PyData} {b : PyData} (h : wrR ls b) : ∀ l ∈ rlines ls b, 10 ∉ TL.tl l ∧ l.length ≤ 38 := fun l hl => by
  rcases List.mem_append.mp hl with hl | hl
  · obtain ⟨d, hd, rfl⟩ := List.mem_map.mp hl
    obtain ⟨k, q, rfl, hk, hq⟩ := h.1 d hd
    exact ⟨cnt_line (kind_mem hk).1 hq, cnt_len (kind_mem hk).1 hq⟩
  · rcases h.2.1 with rfl | ⟨n, rfl, n1, n2⟩
    · cases hl
    · rw [List.mem_singleton.mp hl]
      exact ⟨cnt_line (by simp [heads]) (.inr ⟨n, rfl, n1, n2⟩), cnt_len (by simp [heads]) (.inr ⟨n, rfl, n1, n2⟩)⟩
theorem rlines_len {ls : List PyData} {b : PyData} (h : wrR ls b) : 1 ≤ (rlines ls b).length ∧ (rlines ls b).length ≤ 7 := by
  obtain ⟨_, hb, h1, h6⟩ := h
  unfold rlines
  rw [List.length_append, List.length_map]
  rcases hb with rfl | ⟨n, rfl, _, _⟩
  · show 1 ≤ ls.length + 0 ∧ ls.length + 0 ≤ 7
    omega
  · show 1 ≤ ls.length + 1 ∧ ls.length + 1 ≤ 7
    omega
theorem wt_all {m : Nat} : ∀ {ls : List Str}, (∀ s ∈ ls, s.length ≤ m) → wt ls ≤ ls.length * (m + 1)
  | [], _ => Nat.zero_le _
  | x :: ls, h => by
    have h1 := h x (by simp)
    have h2 := wt_all (ls := ls) fun s hs => h s (List.mem_cons_of_mem _ hs)
    rw [wt_cons, List.length_cons, Nat.succ_mul]
    omega
theorem rlines_wt {ls : List PyData} {b : PyData} (h : wrR ls b) : wt (rlines ls b) ≤ 273 := by
  have h1 := wt_all (m := 38) fun l hl => (rlines_ok h l hl).2
  have h2 := rlines_len h
  exact Nat.le_trans h1 (Nat.le_trans (Nat.mul_le_mul_right 39 h2.2) (by decide))
theorem textR_len {ls : List PyData} {b : PyData} (h : wrR ls b) : (textR ls b).length ≤ 273 :=
  Nat.le_trans (join_wt (a := "\n") _ (by decide +kernel)) (rlines_wt h)
theorem textR_split {ls : List PyData} {b : PyData} (h : wrR ls b) : Txt.split (textR ls b) "\n" = rlines ls b :=
  TL.split_join (s := 10) (S := []) (by decide +kernel) (by decide +kernel) (fun e => by have := (rlines_len h).1; rw [e] at this; cases this) fun p hp => (rlines_ok h p hp).1
theorem due_back {ls : List PyData} {b : PyData} (h : wrR ls b) : dueR (textR ls b) = .tuple [.tuple ls, b] := by
  unfold dueR
  rw [textR_split h]
  have z := run_back b h.2.1 ls 0 [] h.1 (by have := h.2.2.2; omega) (by have := h.2.2.1; omega)
  rw [List.nil_append] at z
  exact z
end Vk
namespace Vk
open PySem PySem.Spec PyProof.Rows L2 GxR
theorem cnt_none (k : Str) : cntL k .none = k := join_one k
theorem cnt_int (k : Str) (n : Int) : cntL k (.int n) = ((Str.empty ++ k) ++ " ") ++ dg n := join_two k (dg n)
theorem rule_none {ls : List PyData} {b : PyData} (h : wrR ls b) : rulePlace (.tuple [.tuple ls, b]) = none ∧ goodHeads (.tuple [.tuple ls, b]) = true := by
  obtain ⟨hl, hb, h1, h6⟩ := h
  have lev : ∀ d ∈ ls, levelD d = true ∧ headD d = true := fun d hd => by
    obtain ⟨k, q, rfl, hk, hq⟩ := hl d hd
    refine ⟨?_, rfl⟩
    show (kindD (.str k) && countD q) = true
    rw [(kind_mem hk).2]
    rcases hq with rfl | ⟨n, rfl, n1, _⟩
    · rfl
    · exact decide_eq_true (show (1 : Int) ≤ n by omega)
  refine ⟨?_, ?_⟩
  · show (if 1 ≤ ls.length ∧ ls.length ≤ 6 then (match ls.findIdx? (fun d => !levelD d) with
      | some i => some (i : Int)
      | none => if countD b = true then none else some (ls.length : Int)) else some 0) = none
    rw [if_pos ⟨h1, h6⟩, bad_no fun j hj e he => (lev e (List.mem_of_getElem? he)).1]
    show (if countD b = true then none else some (ls.length : Int)) = none
    rw [if_pos]
    rcases hb with rfl | ⟨n, rfl, n1, _⟩
    · rfl
    · exact decide_eq_true (show (1 : Int) ≤ n by omega)
  · show ls.all headD = true
    rw [List.all_eq_true]
    exact fun d hd => (lev d hd).2
section
variable {P : Program} {w : World} {K : PySem.W.Frag} {mg : Str → Option Value} {base : Heap}
def spShowCount (K : PySem.W.Frag) : Sp := fun vs H Q _ => ∃ (k : Str) (v : V) (q : PyData), vs = [.str k, v] ∧ Dp K H v q ∧ k ∈ heads ∧ okQ q ∧ Q (.str (cntL k q)) H
theorem scShowCount : FnScope ["word", "number"] ["word", "number"] (defScope sShowCount) := ⟨rfl, rfl, rfl, by decide +kernel, rfl, by decide +kernel, by decide +kernel⟩
theorem ok_showCount (D : Df K mg "show_count" sShowCount ["word", "number"]) : Cl P w K mg base CX0 1 "show_count" ["word", "number"] (spShowCount K) := by
  refine cl0 D scShowCount (fun vs H Q E h => ?_) (fun f cdv A outer s H vs Q E hr h => ?_)
  · obtain ⟨k, v, q, rfl, _⟩ := h
    rfl
  · obtain ⟨kk, v, q, rfl, dq, hk, hq, k⟩ := h
    refine ⟨_, pss_one (ps_ret (pe_ifExp (pt_cmpR op_isN (pv 1) pe_non (nomark _)) (pv 0) (pe_joined (.cons (pe_fmt (pv 0)) (.cons pe_str (.cons (pe_fmt (pv 1)) .nil)))))), ?_⟩
    have hl := head_len hk
    have b1 : (" " : Str).length = 1 := by decide +kernel
    have b0 : (Str.empty).length = 0 := by decide +kernel
    refine ⟨_, rfl, rfl, _, rfl, ?_⟩
    rcases hq with rfl | ⟨n, rfl, n1, n2⟩
    · have ev := dp_none dq
      subst ev
      rw [cnt_none] at k
      exact iteT ⟨_, rfl, k⟩
    · have ev := dp_int dq
      subst ev
      rw [cnt_int] at k
      have dl := (dg_len n2).2
      exact iteF ⟨_, rfl, .inl ⟨kk, rfl, small_le (by omega), kk, rfl, small_le (by rw [alen]; omega), _, rfl, small_le (by rw [alen, alen]; omega), _, rfl, .inr ⟨n, rfl, log_ok n2, dg n, rfl, small_le (by rw [alen, alen, alen]; omega), k⟩⟩⟩
def spShowRule (K : PySem.W.Frag) (C : Addr) : Sp := fun vs H Q E => ∃ (v : V) (d : PyData), vs = [v] ∧ Dp K H v d ∧ goodHeads d = true ∧ (rulePlace d = none → ∃ ls b, d = .tuple [.tuple ls, b] ∧ wrR ls b ∧ ∀ H', Same H H' → Q (.str (textR ls b)) H') ∧
  (∀ p, rulePlace d = some p → ∀ (dx : Addr) (H' : Hp), Same H H' → H' dx = some (.xd [(("place" : Str), .int p)]) → E (.ref C) (some dx) H')
theorem scShowRule : FnScope ["rule", "levels", "boost", "lines", "kind", "quantum"] ["rule"] (defScope sShowRule) := ⟨rfl, rfl, rfl, by decide +kernel, rfl, by decide +kernel, by decide +kernel⟩
theorem ok_showRule {C : Addr} (D : Df K mg "show_rule" sShowRule ["rule"]) (CH : Cl P w K mg base (L2.CX P w) 4 "check_rule" ["rule"] (spCheck K C)) (SC : Cl P w K mg base CX0 1 "show_count" ["word", "number"] (spShowCount K)) : Cl P w K mg base (L2.CX P w) 5 "show_rule" ["rule"] (spShowRule K C) := by
  refine clX D scShowRule (fun vs H Q E h => ?_) (fun f cdv A outer s H vs Q E hr h => ?_)
  · obtain ⟨v, d, rfl, _⟩ := h
    rfl
  · obtain ⟨v, d, rfl, hd, gh, kN, kE⟩ := h
    obtain ⟨fE, fdE, mE, kpE, bE, FE⟩ := CH.ex
    refine ⟨_, pss_cons (ps_expr (pe_call (E := E) FE hr rfl mE kpE bE .nil (passes_call (W := fun cls d _ H => E cls d H) (takes_of rfl rfl rfl rfl) (fun _ _ _ _ h => h)) (pa_cons (pv 0) pa_nil)))
      (pss_cons (ps_asg (pv 0) (pg_tup rfl (pgs_cons (pg_name (i := 1) scShowRule.nd rfl (.inl rfl)) (pgs_cons (pg_name (i := 2) scShowRule.nd rfl (.inl rfl)) pgs_nil))))
      (pss_cons (ps_setLc (i := 3) (own := [("kind", 4), ("quantum", 5)]) (g := gTup K 2 (gCons (gName 4) (gCons (gName 5) gNil))) (tt := tYes) (te := tCal (spShowCount K) (tCons (tVar 4) (tCons (tVar 5) tNil))) rfl scShowRule.nd rfl rfl (sw_true rfl rfl rfl (by decide +kernel)) (pi_tup (pv 1))
          (blkOk_by (own := [("kind", 4), ("quantum", 5)]) (N := ["rule", "levels", "boost", "lines", "kind", "quantum"]) (sc := defScope sShowRule) (by decide +kernel))
          (fun _ _ _ _ _ => pg_tup rfl (pgs_cons (pg_name (i := 4) scShowRule.nd rfl (Or.inl rfl)) (pgs_cons (pg_name (i := 5) scShowRule.nd rfl (Or.inl rfl)) pgs_nil)))
          (fun _ _ _ _ _ => pts_nil) (fun _ _ _ _ _ => pc SC hr (by decide) (pa_cons (pv 4) (pa_cons (pv 5) pa_nil))))
      (pss_cons (ps_if (pt_cmpR op_notN (pv 2) pe_non (nomark _)) (pss_one (ps_expr (pe_bm PySem.F.plainAttrs_list PySem.F.slot_list_append PySem.F.type_list_append mt_append (pv 3) (pa_cons (pc SC hr (by decide) (pa_cons pe_str (pa_cons (pv 2) pa_nil))) pa_nil)))) pss_nil)
      (pss_one (ps_ret (pe_join pe_str (pv 3))))))), ?_⟩
    refine ⟨_, rfl, v, d, rfl, hd, gh, fun e1 H1 s1 => ?_, fun i e1 dx H1 s1 hx => kE i e1 dx H1 s1 hx⟩
    obtain ⟨ls, b, rfl, wr, k⟩ := kN e1
    obtain ⟨p, x, y, rfl, q, ha, hb⟩ := dp_two (dp_same s1 hd)
    obtain ⟨pl, xs, rfl, ql, rl⟩ := dp_tuple ha
    have xl := dps_len rl
    refine ⟨_, rfl, p, _, rfl, q, rfl, _, _, rfl, _, _, rfl, rfl, ?_⟩
    refine ⟨_, rfl, pl, rfl, ⟨_, ql⟩, fun D1 nD1 => ?_⟩
    have l6 := wr.2.2.2
    refine lc_it (walk_tup (K := K) (a := pl) (xs := xs)) (fun m Hc => Same H1 Hc ∧ Hc D1 = some (.lst (((ls.take m).map lvL).map V.str)))
      ⟨same_new nD1, upd_same⟩ (fun m Hc _ ⟨s2, _⟩ => same_seqT s2 ql) ?_ ?_
    · rintro m y1 Hc0 Hc hm ⟨s2, hD⟩ ⟨rfl, hy1⟩
      obtain ⟨d1, hd1, dd1⟩ := dps_getV rl hy1
      obtain ⟨kk, qq, rfl, hk, hq⟩ := wr.1 d1 (List.mem_of_getElem? hd1)
      obtain ⟨p1, v1, v2, rfl, q1, dv1, dv2⟩ := dp_two (dp_same s2 dd1)
      have ek := dp_str dv1
      subst ek
      refine ⟨p1, _, rfl, q1, rfl, _, _, rfl, _, _, rfl, rfl, rfl, _, rfl, _, rfl, kk, v2, qq, rfl, dv2, (kind_mem hk).1, hq, _, hD, ?_, same_put s2 nD1, ?_⟩
      · rw [List.length_map, List.length_map, List.length_take]
        exact Nat.lt_of_le_of_lt (show min m ls.length ≤ 12 by omega) (by decide)
      · rw [upd_same, List.take_add_one, hd1]
        simp [lvL]
    rintro Hc ⟨s2, hD⟩
    rw [xl, List.take_length] at hD
    have rw1 := rlines_wt wr
    have s12 := s1.trans s2
    apply cutR (α := L2.St → Hp → Prop) (F := fun R => ∀ (G : Hp), Same H1 G → G D1 = some (.lst ((rlines ls b).map V.str)) → R [some (.ref p), some (.ref pl), some y, some (.ref D1), none, none] G)
    · intro cont
      refine ⟨_, rfl, rfl, _, rfl, ?_⟩
      have hb2 := wr.2.1
      unfold rlines at cont
      rcases hb2 with rfl | ⟨n, rfl, n1, n2⟩
      · have ey := dp_none hb
        subst ey
        refine iteF (cont Hc s2 ?_)
        show _ = some (HO.lst ((ls.map lvL ++ []).map V.str))
        rw [List.append_nil]
        exact hD
      · have ey := dp_int hb
        subst ey
        refine iteT ⟨_, rfl, .inl ⟨rfl, _, SqL.of hD⟩, _, rfl, "boost", _, .int (n : Int), rfl, .int _, by simp [heads], .inr ⟨n, rfl, n1, n2⟩, D1, _, _, rfl, rfl, hD, ?_, cont _ (same_put s2 nD1) ?_⟩
        · rw [List.length_map, List.length_map]
          exact Nat.lt_of_le_of_lt (show ls.length ≤ 12 by omega) (by decide)
        · rw [upd_same]
          show _ = some (HO.lst ((ls.map lvL ++ [cntL "boost" (.int (n : Int))]).map V.str))
          rw [List.map_append]
          rfl
    intro G sG hG
    refine ⟨⟨_, rfl⟩, _, rfl, _, D1, rlines ls b, rfl, rfl, .inl (SqL.of hG), ?_, k G (s1.trans sG)⟩
    rw [show ("\n" : Str).length = 1 from by decide +kernel, wt_sum]
    omega
end
end Vk
namespace Vk
open PySem PySem.Spec PyProof.Rows L2 GxR
theorem atI_four {x0 x1 x2 x3 : V} {r : Int} (h0 : 0 ≤ r) (h4 : r < 4) : ∃ x, atI [x0, x1, x2, x3] r = some x ∧ (x = x0 ∨ x = x1 ∨ x = x2 ∨ x = x3) := by
  have z : r = 0 ∨ r = 1 ∨ r = 2 ∨ r = 3 := by omega
  rcases z with rfl | rfl | rfl | rfl
  · exact ⟨_, rfl, .inl rfl⟩
  · exact ⟨_, rfl, .inr (.inl rfl)⟩
  · exact ⟨_, rfl, .inr (.inr (.inl rfl))⟩
  · exact ⟨_, rfl, .inr (.inr (.inr rfl))⟩
theorem atI_two {x0 x1 : V} {r : Int} (h0 : 0 ≤ r) (h4 : r < 2) : ∃ x, atI [x0, x1] r = some x ∧ (x = x0 ∨ x = x1) := by
  have z : r = 0 ∨ r = 1 := by omega
  rcases z with rfl | rfl
  · exact ⟨_, rfl, .inl rfl⟩
  · exact ⟨_, rfl, .inr rfl⟩
/-- none or an integer from 1 on -/
theorem num_ok {K : PySem.W.Frag} {r : Int} (h : 0 ≤ r) (h9 : r < 9) {x : V} (hx : x = .non ∨ x = .int 1 ∨ x = .int (1 + r) ∨ x = .int (10 ^ Int.toNat 30)) : ∃ d, okQ d ∧ ∀ H, Dp K H x d := by
  have z30 : 9 + 1 ≤ 10 ^ 30 := by decide
  rcases hx with rfl | rfl | rfl | rfl
  · exact ⟨.none, .inl rfl, fun _ => .non⟩
  · exact ⟨.int 1, .inr ⟨1, rfl, by decide, by decide⟩, fun _ => .int 1⟩
  · obtain ⟨m, rfl⟩ := Int.eq_ofNat_of_zero_le h
    exact ⟨.int (1 + (m : Int)), .inr ⟨1 + m, by rw [Int.natCast_add]; rfl, by omega, by omega⟩, fun _ => .int _⟩
  · exact ⟨.int (10 ^ Int.toNat 30), .inr ⟨10 ^ 30, congrArg PyData.int (by decide +kernel), by decide, Nat.le_refl _⟩, fun _ => .int _⟩
section
variable {P : Program} {w : World} {K : PySem.W.Frag} {mg : Str → Option Value} {base : Heap}
def spGood (K : PySem.W.Frag) : Sp := fun vs H Q _ => ∃ (a sc : Addr) (n : Int), vs = [.ref a] ∧ Sto sc a n H ∧ n ≤ 900000 ∧
  ∀ (v : V) (ls : List PyData) (b : PyData) (H' : Hp), Sto sc a (n + 20) H' → Kept a H H' → Dp K (Off a H') v (.tuple [.tuple ls, b]) → wrR ls b → Q v H'
theorem scGood : FnScope ["store", "numbers", "levels", "k"] ["store"] (defScope sGood) := ⟨rfl, rfl, rfl, by decide +kernel, rfl, by decide +kernel, by decide +kernel⟩
theorem ok_good (D : Df K mg "_law_good" sGood ["store"]) (B : Blt mg) (PK : Cl P w K mg base CX0 2 "_law_pick" ["store", "count"] spPick) : Cl P w K mg base CX0 3 "_law_good" ["store"] (spGood K) := by
  refine cl0 D scGood (fun vs H Q E h => ?_) (fun f cdv A outer s H vs Q E hr h => ?_)
  · obtain ⟨a, sc, n, rfl, _⟩ := h
    rfl
  · obtain ⟨a, sc, n, rfl, S, n1, k⟩ := h
    refine ⟨_, pss_cons (ps_set (i := 1) scGood.nd rfl (Or.inl rfl) (pe_lst (pa_cons pe_non (pa_cons pe_int (pa_cons (pe_op op_add pe_int (pc PK hr (by decide) (pa_cons (pv 0) (pa_cons pe_int pa_nil)))) (pa_cons (pe_op op_pow pe_int pe_int) pa_nil))))))
      (pss_cons (ps_set (i := 2) scGood.nd rfl (Or.inl rfl) (pe_lst pa_nil))
      (pss_cons (ps_for PassesOwn.never rfl (pi_range1 rfl B.range (pa_cons (pe_op op_add pe_int (pc PK hr (by decide) (pa_cons (pv 0) (pa_cons pe_int pa_nil)))) pa_nil)) (pg_name (i := 3) scGood.nd rfl (Or.inl rfl))
        (pss_one (ps_expr (pe_bm PySem.F.plainAttrs_list PySem.F.slot_list_append PySem.F.type_list_append mt_append (pv 2)
          (pa_cons (pe_tup (pa_cons (pe_ix ix_list (pe_lst (pa_cons pe_str (pa_cons pe_str pa_nil))) (pc PK hr (by decide) (pa_cons (pv 0) (pa_cons pe_int pa_nil))) (fun _ _ => rfl)) (pa_cons (pe_ix ix_list (pv 1) (pc PK hr (by decide) (pa_cons (pv 0) (pa_cons pe_int pa_nil))) (fun _ _ => rfl)) pa_nil))) pa_nil)))))
      (pss_one (ps_ret (pe_tup (pa_cons (pe_callTy call_tuple_of (by rfl) B.tuple (by decide +kernel) (pa_cons (pv 2) pa_nil)) (pa_cons (pe_ix ix_list (pv 1) (pc PK hr (by decide) (pa_cons (pv 0) (pa_cons pe_int pa_nil))) (fun _ _ => rfl)) pa_nil))))))), ?_⟩
    -- numbers
    refine ⟨_, rfl, a, sc, 9, n, rfl, by decide, by decide, S, by omega, fun r H1 r0 r9 S1 K1 => ?_⟩
    refine ⟨_, _, rfl, rfl, _, _, rfl, rfl, ⟨by decide, by decide, by decide⟩, (by show 4 ≤ sizeLine; decide), fun nb nnb => ?_⟩
    have b1 := S1.ne nnb
    have s1 := same_new (o := .lst [.non, .int 1, .int (1 + r), .int (10 ^ Int.toNat 30)]) nnb
    -- levels = []
    refine ⟨(by show 0 ≤ sizeLine; decide), fun l nl => ?_⟩
    have s2 := s1.trans (same_new (o := .lst []) nl)
    have nbl : nb ≠ l := ne_of_none upd_same nl
    have l1 : l ≠ a := (S1.same s1).ne nl
    have S2 := S1.same s2
    have l2 : l ≠ sc := (S1.same s1).ne2 nl
    -- range(1 + pick)
    refine ⟨_, rfl, a, sc, 6, n + 1, rfl, by decide, by decide, S2, by omega, fun m H3 m0 m6 S3 K3 => ?_⟩
    refine ⟨_, _, rfl, rfl, 1 + m, rfl, by omega, by omega, ?_⟩
    have K13 : Kept a H H3 := (K1.trans (kept_same s2)).trans K3
    have nb3 : H3 nb = some (.lst [.non, .int 1, .int (1 + r), .int (10 ^ Int.toNat 30)]) := K3.at (by rw [upd_ne nbl, upd_same]) b1
    have l3 : H3 l = some (.lst []) := K3.at upd_same l1
    refine for_range (lo := 0) (n := (1 + m).toNat) (fun i σ H' => ∃ (u : Option V) (xs : List V) (ds : List PyData), σ = [some (.ref a), some (.ref nb), some (.ref l), u] ∧ Sto sc a (n + 2 + 2 * i) H' ∧ Same (Off l (Off a H)) (Off l (Off a H')) ∧ H' nb = some (.lst [.non, .int 1, .int (1 + r), .int (10 ^ Int.toNat 30)]) ∧
        H' l = some (.lst xs) ∧ DpAll K (Off l (Off a H')) xs ds ∧ ds.length = i ∧ ∀ d ∈ ds, goodLv d)
      ⟨none, [], [], rfl, S3.more (by omega), off_mono K13, nb3, l3, .nil, rfl, fun d hd => absurd hd (by simp)⟩ ?_ ?_
    · rintro i σ G hi ⟨u, xs, ds, rfl, SG, KG, nbG, lG, dG, len, okG⟩
      refine ⟨_, rfl, .inl ⟨rfl, _, SqL.of lG⟩, ?_⟩
      refine ⟨(by show 2 ≤ sizeLine; decide), fun q nq => ?_⟩
      have sq := same_new (o := .lst [.str ("queue" : Str), .str ("stack" : Str)]) nq
      have qa := SG.ne nq
      refine ⟨_, rfl, a, sc, 2, n + 2 + 2 * i, rfl, by decide, by decide, SG.same sq, by omega, fun x G2 x0 x2 SG2 KG2 => ?_⟩
      obtain ⟨kv, hkv, kk⟩ := atI_two (x0 := .str ("queue" : Str)) (x1 := .str ("stack" : Str)) x0 x2
      obtain ⟨kd, kd1, rfl⟩ : ∃ kd : Str, (kd = "queue" ∨ kd = "stack") ∧ kv = .str kd := by
        rcases kk with rfl | rfl
        · exact ⟨_, .inl rfl, rfl⟩
        · exact ⟨_, .inr rfl, rfl⟩
      refine ⟨q, _, _, _, rfl, rfl, SqL.of (KG2.at upd_same qa), hkv, ?_⟩
      have nbG2 := KG2.at (sq.at nbG) b1
      refine ⟨_, rfl, _, rfl, a, sc, 4, n + 2 + 2 * i + 1, rfl, by decide, by decide, SG2, by omega, fun y G3 y0 y4 SG3 KG3 => ?_⟩
      have nbG3 := KG3.at nbG2 b1
      obtain ⟨nv, hnv, nn⟩ := atI_four (x0 := .non) (x1 := .int 1) (x2 := .int (1 + r)) (x3 := .int (10 ^ Int.toNat 30)) y0 y4
      refine ⟨nb, _, _, nv, rfl, rfl, SqL.of nbG3, hnv, (by show 2 ≤ sizeLine; decide), fun t nt => ?_⟩
      have ta := SG3.ne nt
      have lG3 : G3 l = some (.lst xs) := KG3.at (KG2.at (sq.at lG) l1) l1
      have tl : l ≠ t := ne_of_none lG3 nt
      have st := same_new (o := .tup [.str kd, nv]) nt
      have xl : xs.length = i := by rw [dps_len dG, len]
      refine ⟨l, _, _, rfl, rfl, st.at lG3, by rw [xl]; exact Nat.lt_of_lt_of_le (show i < 7 by omega) (by decide), ?_⟩
      obtain ⟨nd, nd1, nd2⟩ := num_ok (K := K) r0 r9 nn
      have KK : Kept a G (upd G3 t (.tup [.str kd, nv])) := ((kept_same sq).trans (KG2.trans KG3)).trans (kept_same st)
      have offs : Off l (Off a (upd (upd G3 t (.tup [.str kd, nv])) l (.lst (xs ++ [.ref t])))) = Off l (Off a (upd G3 t (.tup [.str kd, nv]))) := by
        rw [off_other l1, off_upd]
      refine ⟨_, xs ++ [.ref t], ds ++ [.tuple [.str kd, nd]], rfl, ?_, ?_, ?_, upd_same, ?_, by rw [List.length_append, len]; rfl, ?_⟩
      · exact ((SG3.same st).other l1 l2).more (by omega)
      · rw [offs]
        exact KG.trans (off_mono KK)
      · rw [upd_ne nbl]
        exact st.at nbG3
      · rw [offs]
        refine dps_app (dps_same (off_mono KK) dG) (.cons (.tup (SqT.of ?_) (.cons (.str kd) (.cons (nd2 _) .nil))) .nil)
        rw [off_ne (Ne.symm tl), off_ne ta, upd_same]
      · intro d hd
        rcases List.mem_append.mp hd with hd | hd
        · exact okG d hd
        · rw [List.mem_singleton.mp hd]
          exact ⟨kd, nd, rfl, kd1, nd1⟩
    · rintro σ G ⟨u, xs, ds, rfl, SG, KG, nbG, lG, dG, len, okG⟩
      have nlH : H l = none := by
        have z := Same.free (K1.trans (kept_same s1)) (off_free nl)
        rw [off_ne l1] at z
        exact z
      have KGf : Kept a H G := kept_of_off nlH KG
      refine ⟨_, rfl, l, xs, rfl, .inl ⟨SqL.of lG, fun tp ntp => ?_⟩⟩
      have stp := same_new (o := .tup xs) ntp
      have tpa := SG.ne ntp
      refine ⟨_, rfl, _, rfl, a, sc, 4, _, rfl, by decide, by decide, SG.same stp, by omega, fun y G3 y0 y4 SG3 KG3 => ?_⟩
      obtain ⟨nv, hnv, nn⟩ := atI_four (x0 := .non) (x1 := .int 1) (x2 := .int (1 + r)) (x3 := .int (10 ^ Int.toNat 30)) y0 y4
      have nbG3 := KG3.at (stp.at nbG) b1
      refine ⟨nb, _, _, nv, rfl, rfl, SqL.of nbG3, hnv, (by show 2 ≤ sizeLine; decide), fun p np => ?_⟩
      have sp := same_new (o := .tup [.ref tp, nv]) np
      have pa := SG3.ne np
      obtain ⟨nd, nd1, nd2⟩ := num_ok (K := K) r0 r9 nn
      have KF : Kept a G (upd G3 p (.tup [.ref tp, nv])) := (kept_same stp).trans (KG3.trans (kept_same sp))
      have dG' : DpAll K (Off a G) xs ds := dps_same (off_sub l _) dG
      refine k (.ref p) ds nd _ ((SG3.same sp).more (by omega)) (KGf.trans KF) (.tup (SqT.of ?_) (.cons (.tup (a := tp) (SqT.of ?_) (dps_same KF dG')) (.cons (nd2 _) .nil))) ⟨okG, nd1, by omega, by omega⟩
      · rw [off_ne pa, upd_same]
      · rw [off_ne tpa]
        exact sp.at (KG3.at upd_same tpa)
def spRuleLines (K : PySem.W.Frag) : Sp := fun vs H Q _ => ∃ (v : V) (ls : List PyData) (b : PyData), vs = [v] ∧ Dp K H v (.tuple [.tuple ls, b]) ∧ wrR ls b ∧ ∀ l H', Same H H' → H l = none → H' l = some (.lst ((rlines ls b).map V.str)) → Q (.ref l) H'
theorem scRuleLines : FnScope ["policy", "lines", "kind", "quantum"] ["policy"] (defScope sRuleLines) := ⟨rfl, rfl, rfl, by decide +kernel, rfl, by decide +kernel, by decide +kernel⟩
theorem ok_ruleLines (D : Df K mg "_law_rule_lines" sRuleLines ["policy"]) (B : Blt mg) : Cl P w K mg base CX0 1 "_law_rule_lines" ["policy"] (spRuleLines K) := by
  refine cl0 D scRuleLines (fun vs H Q E h => ?_) (fun f cdv A outer s H vs Q E hr h => ?_)
  · obtain ⟨v, ls, b, rfl, _⟩ := h
    rfl
  · obtain ⟨v, ls, b, rfl, hd, wr, k⟩ := h
    refine ⟨_, pss_cons (ps_set (i := 1) scRuleLines.nd rfl (Or.inl rfl) (pe_lst pa_nil))
      (pss_cons (ps_for PassesOwn.never rfl (pi_tup (pe_ix ix_tup (pv 0) pe_int (fun _ _ => rfl))) (pg_tup rfl (pgs_cons (pg_name (i := 2) scRuleLines.nd rfl (.inl rfl)) (pgs_cons (pg_name (i := 3) scRuleLines.nd rfl (.inl rfl)) pgs_nil)))
        (pss_one (ps_expr (pe_bm PySem.F.plainAttrs_list PySem.F.slot_list_append PySem.F.type_list_append mt_append (pv 1)
          (pa_cons (pe_op op_add_str (pv 2) (pe_ix ix_list (pe_lst (pa_cons (pe_joined (.cons pe_str (.cons (pe_fmtO (pv 3)) .nil))) (pa_cons pe_str pa_nil))) (pe_callTy call_int1 (by rfl) B.int (by decide +kernel) (pa_cons (pe_cmpR op_isN (pv 3) pe_non (nomark _)) pa_nil)) (fun _ _ => rfl))) pa_nil)))))
      (pss_cons (ps_if (pt_cmpR op_notN (pe_ix ix_tup (pv 0) pe_int (fun _ _ => rfl)) pe_non (nomark _)) (pss_one (ps_expr (pe_bm PySem.F.plainAttrs_list PySem.F.slot_list_append PySem.F.type_list_append mt_append (pv 1)
          (pa_cons (pe_joined (.cons pe_str (.cons (pe_fmt (pe_ix ix_tup (pv 0) pe_int (fun _ _ => rfl))) .nil))) pa_nil)))) pss_nil)
      (pss_one (ps_ret (pv 1))))), ?_⟩
    obtain ⟨p, x, y, rfl, q, ha, hb⟩ := dp_two hd
    obtain ⟨pl, xs, rfl, ql, rl⟩ := dp_tuple ha
    have xl := dps_len rl
    have l6 := wr.2.2.2
    have b1 : (" " : Str).length = 1 := by decide +kernel
    have b0 : (Str.empty).length = 0 := by decide +kernel
    have b6 : ("boost " : Str).length = 6 := by decide +kernel
    refine ⟨(by show 0 ≤ sizeLine; decide), fun l nl => ?_⟩
    have s0 := same_new (o := .lst []) nl
    refine ⟨_, rfl, p, _, 0, _, rfl, rfl, same_seqT s0 q, rfl, pl, rfl, ⟨_, same_seqT s0 ql⟩, for_it (walk_tup (K := K) (a := pl) (xs := xs)) (fun i σ G => ∃ (u2 u3 : Option V), σ = [some (.ref p), some (.ref l), u2, u3] ∧ Same H G ∧ G l = some (.lst (((ls.take i).map lvL).map V.str)))
      ⟨none, none, rfl, s0, upd_same⟩ (fun i σ G _ ⟨_, _, _, s, _⟩ => same_seqT s ql) ?_ ?_⟩
    · rintro i y1 σ G0 G hi ⟨u2, u3, rfl, sG, hG⟩ ⟨rfl, hy1⟩
      obtain ⟨d1, hd1, dd1⟩ := dps_getV rl hy1
      obtain ⟨kk, qq, rfl, hk, hq⟩ := wr.1 d1 (List.mem_of_getElem? hd1)
      obtain ⟨p1, v1, v2, rfl, q1, dv1, dv2⟩ := dp_two (dp_same sG dd1)
      have ek := dp_str dv1
      subst ek
      have hl := head_len (kind_mem hk).1
      have st : (((ls.take (i + 1)).map lvL).map V.str) = (((ls.take i).map lvL).map V.str) ++ [.str (cntL kk qq)] := by
        rw [List.take_add_one, hd1]
        simp [lvL]
      have small : (((ls.take i).map lvL).map V.str).length < sizeLine := by
        rw [List.length_map, List.length_map, List.length_take]
        exact Nat.lt_of_le_of_lt (show min i ls.length ≤ 12 by omega) (by decide)
      refine ⟨p1, _, rfl, q1, rfl, _, _, rfl, _, _, rfl, rfl, ?_⟩
      refine ⟨_, rfl, .inl ⟨rfl, _, SqL.of hG⟩, _, rfl, _, rfl, small_le (by rw [alen]; omega), _, rfl, ?_⟩
      rcases hq with rfl | ⟨n, rfl, n1, n2⟩
      · have ev := dp_none dv2
        subst ev
        refine .inr ⟨rfl, "None", rfl, by decide +kernel, (by show 2 ≤ sizeLine; decide), fun e ne => ?_⟩
        have se := same_new (o := .lst [.str ((Str.empty ++ " ") ++ "None"), .str ("" : Str)]) ne
        refine ⟨_, rfl, rfl, .inr ⟨_, rfl, e, _, 1, _, rfl, rfl, SqL.of upd_same, atI_nat (j := 1) rfl, _, _, rfl, rfl, ?_, l, _, _, rfl, rfl, se.at hG, small, _, _, rfl, same_put (sG.trans se) nl, ?_⟩⟩
        · rw [hl, show ("" : Str).length = 0 from by decide +kernel]
          decide
        · rw [upd_same, st, cnt_none]
          have e : kk ++ ("" : Str) = kk := by
            refine TL.ext_tl ?_
            show (kk ++ ("" : Str)).cps.toList = _
            rw [cps_app, show ("" : Str).cps.toList = [] from by decide +kernel, List.append_nil]
          rw [e]
      · have ev := dp_int dv2
        subst ev
        have dl := (dg_len n2).2
        refine .inl (.inr ⟨n, rfl, log_ok n2, dg n, rfl, small_le (by rw [alen, alen]; omega), (by show 2 ≤ sizeLine; decide), fun e ne => ?_⟩)
        have se := same_new (o := .lst [.str ((Str.empty ++ " ") ++ dg n), .str ("" : Str)]) ne
        refine ⟨_, rfl, rfl, .inr ⟨_, rfl, e, _, 0, _, rfl, rfl, SqL.of upd_same, atI_nat (j := 0) rfl, _, _, rfl, rfl, ?_, l, _, _, rfl, rfl, se.at hG, small, _, _, rfl, same_put (sG.trans se) nl, ?_⟩⟩
        · rw [hl, alen, alen]
          exact Nat.le_trans (show _ ≤ 100 by omega) (by decide)
        · rw [upd_same, st, cnt_int, join_two2]
    · rintro σ G ⟨u2, u3, rfl, sG, hG⟩
      rw [xl, List.take_length] at hG
      refine ⟨_, rfl, p, _, 1, _, rfl, rfl, same_seqT sG q, rfl, rfl, _, rfl, ?_⟩
      have hb2 := wr.2.1
      unfold rlines at k
      rcases hb2 with rfl | ⟨n, rfl, n1, n2⟩
      · have ey := dp_none hb
        subst ey
        refine iteF ⟨_, rfl, k l G sG nl ?_⟩
        show _ = some (HO.lst ((ls.map lvL ++ []).map V.str))
        rw [List.append_nil]
        exact hG
      · have ey := dp_int hb
        subst ey
        have dl := (dg_len n2).2
        refine iteT ⟨_, rfl, .inl ⟨rfl, _, SqL.of hG⟩, _, rfl, small_le (by rw [alen]; omega), _, rfl, p, _, 1, _, rfl, rfl, same_seqT sG q, rfl, .inr ⟨n, rfl, log_ok n2, dg n, rfl, small_le (by rw [alen, alen]; omega), l, _, _, rfl, rfl, hG, ?_, _, rfl, k l _ (same_put sG nl) nl ?_⟩⟩
        · rw [List.length_map, List.length_map]
          exact Nat.lt_of_le_of_lt (show ls.length ≤ 12 by omega) (by decide)
        · rw [upd_same]
          show _ = some (HO.lst ((ls.map lvL ++ [cntL "boost" (.int (n : Int))]).map V.str))
          rw [List.map_append, cnt_int]
          have e : (Str.empty ++ ("boost " : Str)) ++ dg n = ((Str.empty ++ ("boost" : Str)) ++ " ") ++ dg n := by
            refine TL.ext_tl ?_
            show ((Str.empty ++ ("boost " : Str)) ++ dg n).cps.toList = (((Str.empty ++ ("boost" : Str)) ++ " ") ++ dg n).cps.toList
            simp only [cps_app]
            rw [show ("boost " : Str).cps.toList = ("boost" : Str).cps.toList ++ (" " : Str).cps.toList from by decide +kernel]
            simp only [List.append_assoc]
          rw [e]
          rfl
end
end Vk
namespace Vk
open PySem PySem.Spec PyProof.Rows L2 GxR
def someL : List Str := ["queue", "stack", "boost", "0", "00", "01", "1", "-1", "+1", repS "1" 31, repS "1" 32, "", "Queue", "heap", "x"]
theorem someL_len : ∀ s ∈ someL, s.length ≤ 32 := by
  have z : (someL.all fun s => decide (s.length ≤ 32)) = true := by decide +kernel
  intro s hs
  exact of_decide_eq_true (List.all_eq_true.mp z s hs)
def charL : List Str := [" ", "a", "0", "9", "Q", "_", "-", "\n", ";"]
theorem charL_len : ∀ s ∈ charL, s.length = 1 := by
  have z : (charL.all fun s => decide (s.length = 1)) = true := by decide +kernel
  intro s hs
  exact of_decide_eq_true (List.all_eq_true.mp z s hs)
theorem wt_rev (ws : List Str) : wt ws.reverse = wt ws := by
  unfold wt
  rw [List.map_reverse, List.sum_reverse]
section
variable {P : Program} {w : World} {K : PySem.W.Frag} {mg : Str → Option Value} {base : Heap}
def spSpoiltLine : Sp := fun vs H Q _ => ∃ (a sc : Addr) (n : Int) (ln : Str), vs = [.ref a, .str ln] ∧ Sto sc a n H ∧ n ≤ 990000 ∧ ln.length ≤ 10000 ∧
  ∀ (t : Str) (H' : Hp), Sto sc a (n + 10) H' → Kept a H H' → t.length ≤ ln.length + 40 → Q (.str t) H'
theorem scSpoiltLine : FnScope ["store", "line", "some", "words", "at", "way", "text", "cut", "char", "forms"] ["store", "line"] (defScope sSpoiltLine) := ⟨rfl, rfl, rfl, by decide +kernel, rfl, by decide +kernel, by decide +kernel⟩
theorem ok_spoiltLine (D : Df K mg "_law_spoilt_line" sSpoiltLine ["store", "line"]) (B : Blt mg) (PK : Cl P w K mg base CX0 2 "_law_pick" ["store", "count"] spPick) : Cl P w K mg base CX0 3 "_law_spoilt_line" ["store", "line"] spSpoiltLine := by
  refine cl0 D scSpoiltLine (fun vs H Q E h => ?_) (fun f cdv A outer s H vs Q E hr h => ?_)
  · obtain ⟨a, sc, n, ln, rfl, _⟩ := h
    rfl
  · obtain ⟨a, sc, n, ln, rfl, S, n1, lln, k⟩ := h
    refine ⟨_, pss_cons (ps_set (i := 2) scSpoiltLine.nd rfl (Or.inl rfl) (pe_lst (pa_cons pe_str (pa_cons pe_str (pa_cons pe_str (pa_cons pe_str (pa_cons pe_str (pa_cons pe_str (pa_cons pe_str (pa_cons pe_str (pa_cons pe_str (pa_cons (pe_op op_rep_str pe_str pe_int) (pa_cons (pe_op op_rep_str pe_str pe_int) (pa_cons pe_str (pa_cons pe_str (pa_cons pe_str (pa_cons pe_str pa_nil)))))))))))))))))
      (pss_cons (ps_set (i := 3) scSpoiltLine.nd rfl (Or.inl rfl) (pe_split (pv 1) pe_str))
      (pss_cons (ps_set (i := 4) scSpoiltLine.nd rfl (Or.inl rfl) (pc PK hr (by decide) (pa_cons (pv 0) (pa_cons (pe_callB call_len_seq (by rfl) B.len PySem.boot_len (pa_cons (pv 3) pa_nil)) pa_nil))))
      (pss_cons (ps_set (i := 5) scSpoiltLine.nd rfl (Or.inl rfl) (pc PK hr (by decide) (pa_cons (pv 0) (pa_cons pe_int pa_nil))))
      (pss_cons (ps_if (pt_cmpR op_eq (pv 5) pe_int (nomark _))
          (pss_one (ps_expr (pe_bm PySem.F.plainAttrs_list PySem.F.slot_list_insert PySem.F.type_list_insert mt_insert (pv 3) (pa_cons (pv 4) (pa_cons (pe_ix ix_list (pv 2) (pc PK hr (by decide) (pa_cons (pv 0) (pa_cons pe_int pa_nil))) (fun _ _ => rfl)) pa_nil)))))
        (pss_one (ps_if (PW.pt (pw_and (pt_cmpR op_eq (pv 5) pe_int (nomark _)) (pw_and1 (pt_cmpR op_gt (pe_callB call_len_seq (by rfl) B.len PySem.boot_len (pa_cons (pv 3) pa_nil)) pe_int (nomark _)))))
          (pss_one (ps_expr (pe_bm PySem.F.plainAttrs_list PySem.F.slot_list_pop PySem.F.type_list_pop mt_popAt (pv 3) (pa_cons (pv 4) pa_nil))))
        (pss_one (ps_if (pt_cmpR op_eq (pv 5) pe_int (nomark _))
          (pss_one (ps_asg (pe_ix ix_list (pv 2) (pc PK hr (by decide) (pa_cons (pv 0) (pa_cons pe_int pa_nil))) (fun _ _ => rfl)) (pg_sub (pv 3) (pv 4) set_list)))
        (pss_one (ps_if (pt_cmpR op_eq (pv 5) pe_int (nomark _))
          (pss_one (ps_set (i := 3) scSpoiltLine.nd rfl (Or.inl rfl) (pe_revL (pv 3)))) pss_nil)))))))
      (pss_cons (ps_set (i := 6) scSpoiltLine.nd rfl (Or.inl rfl) (pe_join pe_str (pv 3)))
      (pss_cons (ps_set (i := 7) scSpoiltLine.nd rfl (Or.inl rfl) (pc PK hr (by decide) (pa_cons (pv 0) (pa_cons (pe_op op_add (pe_callB call_len (by rfl) B.len PySem.boot_len (pa_cons (pv 6) pa_nil)) pe_int) pa_nil))))
      (pss_cons (ps_set (i := 8) scSpoiltLine.nd rfl (Or.inl rfl) (pe_ix ix_list (pe_lst (pa_cons pe_str (pa_cons pe_str (pa_cons pe_str (pa_cons pe_str (pa_cons pe_str (pa_cons pe_str (pa_cons pe_str (pa_cons pe_str (pa_cons pe_str pa_nil)))))))))) (pc PK hr (by decide) (pa_cons (pv 0) (pa_cons pe_int pa_nil))) (fun _ _ => rfl)))
      (pss_cons (ps_if (pt_cmpR op_eq (pv 5) pe_int (nomark _))
          (pss_cons (ps_set (i := 9) scSpoiltLine.nd rfl (Or.inl rfl) (pe_lst (pa_cons (pe_op op_add_str (pe_op op_add_str (pe_slice sl_str (pv 6) po_none (po_some (pv 7))) (pv 8)) (pe_slice sl_str (pv 6) (po_some (pv 7)) po_none))
            (pa_cons (pe_op op_add_str (pe_slice sl_str (pv 6) po_none (po_some (pv 7))) (pe_slice sl_str (pv 6) (po_some (pe_op op_add (pv 7) pe_int)) po_none))
            (pa_cons (pe_op op_add_str (pe_op op_add_str (pe_slice sl_str (pv 6) po_none (po_some (pv 7))) (pv 8)) (pe_slice sl_str (pv 6) (po_some (pe_op op_add (pv 7) pe_int)) po_none)) pa_nil)))))
          (pss_one (ps_set (i := 6) scSpoiltLine.nd rfl (Or.inl rfl) (pe_ix ix_list (pv 9) (pc PK hr (by decide) (pa_cons (pv 0) (pa_cons pe_int pa_nil))) (fun _ _ => rfl))))) pss_nil)
      (pss_one (ps_ret (pv 6))))))))))), ?_⟩
    -- some
    refine ⟨"1", 31, rfl, rfl, by decide, by decide, by decide +kernel, by decide +kernel, by decide +kernel, "1", 32, rfl, rfl, by decide, by decide, by decide +kernel, by decide +kernel, by decide +kernel, (by show 15 ≤ sizeLine; decide), fun q3 nq3 => ?_⟩
    have t3 := same_new (o := .lst (someL.map V.str)) nq3
    have S0 := S.same t3
    have q3a := S.ne nq3
    refine ⟨_, rfl, ⟨_, rfl⟩, _, " ", rfl, rfl, by decide +kernel, Nat.le_trans (show _ + 2 ≤ 10002 by omega) (by decide), fun p np => ?_⟩
    have wtw := split_sp ln
    have wne := split_sp_ne ln
    generalize Txt.split ln " " = ws at wtw wne ⊢
    have wpos : 0 < ws.length := List.length_pos_iff.mpr wne
    have wlen := wt_len ws
    have npH : H p = none := t3.free np
    have pa := S0.ne np
    have psc := S0.ne2 np
    have s1 := same_new (o := .lst (ws.map V.str)) np
    have S1 := S0.same s1
    have K1 := kept_same (a := a) (t3.trans s1)
    have hq3 := s1.at (upd_same (H := H) (a := q3) (o := .lst (someL.map V.str)))
    have ml : (ws.map V.str).length = ws.length := List.length_map ..
    refine ⟨_, rfl, _, rfl, p, _, rfl, .inl (SqL.of upd_same), a, sc, _, n, rfl, by omega, by omega, S1, by omega, fun at_ H2 a0 a1 S2 K2 => ?_⟩
    have hp2 : H2 p = some (.lst (ws.map V.str)) := K2.at upd_same pa
    rw [ml] at a1
    refine ⟨_, rfl, a, sc, 5, _, rfl, by decide, by decide, S2, by omega, fun wy H5 w0 w7 S5 K5 => ?_⟩
    have hp5 := K5.at hp2 pa
    have hs5 : H5 q3 = some (.lst (someL.map V.str)) := K5.at (K2.at hq3 q3a) q3a
    have K15 : Kept a H H5 := (K1.trans K2).trans K5
    apply cutR (α := L2.St → Hp → Prop) (F := fun R => ∀ (q : Addr) (us : List Str) (G : Hp), G q = some (.lst (us.map V.str)) → wt us ≤ ln.length + 34 → Sto sc a (n + 5) G → Kept a H G →
        R [some (.ref a), some (.str ln), some (.ref q3), some (.ref q), some (.int at_), some (.int wy), none, none, none, none] G)
    · intro cont
      have put : ∀ {G : Hp} {vs : List V} {us : List Str} {m : Int}, Kept a H G → Sto sc a m G → m ≤ n + 5 → vs = us.map V.str → wt us ≤ ln.length + 34 →
          upd G p (.lst vs) p = some (.lst (us.map V.str)) ∧ wt us ≤ ln.length + 34 ∧ Sto sc a (n + 5) (upd G p (.lst vs)) ∧ Kept a H (upd G p (.lst vs)) := fun KG SG hm e hw =>
        ⟨by rw [e]; exact upd_same, hw, (SG.other pa psc).more hm, kept_new_put KG npH pa⟩
      have big63 : ∀ {i : Int} {m : Nat}, i < m → m ≤ 20000 → i < 2 ^ 63 := fun h1 h2 => by
        have z : (20000 : Int) < 2 ^ 63 := by decide
        omega
      refine ⟨_, rfl, rfl, _, rfl, ?_⟩
      refine ite2 (fun _ => ?_) (fun _ => ?_)
      · -- insert
        refine ⟨_, rfl, .inl ⟨rfl, _, SqL.of hp5⟩, _, rfl, _, rfl, _, rfl, a, sc, 15, _, rfl, by decide, by decide, S5, by omega, fun x G x0 x22 SG KG => ?_⟩
        obtain ⟨s, hs, ms⟩ := atI_str (l := someL) x0 x22
        have l1 := someL_len s ms
        obtain ⟨z1, z2, z3, z4⟩ := put (us := ws.take at_.toNat ++ [s] ++ ws.drop at_.toNat) (vs := (ws.map V.str).take at_.toNat ++ [V.str s] ++ (ws.map V.str).drop at_.toNat) (K15.trans KG) SG (by omega) (by simp [List.map_take, List.map_drop]) (by rw [wt_ins]; omega)
        exact ⟨q3, _, _, _, rfl, rfl, SqL.of (KG.at hs5 q3a), hs, p, _, at_, _, rfl, rfl, KG.at hp5 pa, by rw [ml]; exact Nat.lt_of_le_of_lt (show ws.length ≤ 20000 by omega) (by decide), a0, big63 a1 (by omega), cont p _ _ z1 z2 z3 z4⟩
      refine ⟨_, rfl, rfl, _, rfl, ?_⟩
      apply cutP
      · intro els
        refine ite2 (fun _ => ?_) (fun _ => iteF els)
        refine ⟨_, rfl, p, _, rfl, .inl (SqL.of hp5), _, _, rfl, rfl, _, rfl, ?_⟩
        refine ite2 (fun _ => ?_) (fun _ => els)
        have hj : at_.toNat < ws.length := by omega
        obtain ⟨z1, z2, z3, z4⟩ := put (us := ws.eraseIdx at_.toNat) (vs := (ws.map V.str).eraseIdx at_.toNat) K15 S5 (by omega) (map_erase _ _ _) (by have := wt_erase ws at_.toNat; omega)
        exact ⟨_, rfl, .inl ⟨rfl, _, SqL.of hp5⟩, _, rfl, p, _, at_, at_.toNat, .str ws[at_.toNat], rfl, rfl, hp5, by omega, big63 a1 (by omega), sq_at a0 (by rw [ml]; exact a1), by rw [List.getElem?_map, List.getElem?_eq_getElem hj]; rfl, cont p _ _ z1 z2 z3 z4⟩
      refine ⟨_, rfl, rfl, _, rfl, ?_⟩
      refine ite2 (fun _ => ?_) (fun _ => ⟨_, rfl, rfl, _, rfl, ?_⟩)
      · -- set
        refine ⟨_, rfl, _, rfl, a, sc, 15, _, rfl, by decide, by decide, S5, by omega, fun x G x0 x22 SG KG => ?_⟩
        obtain ⟨s, hs, ms⟩ := atI_str (l := someL) x0 x22
        have l1 := someL_len s ms
        obtain ⟨z1, z2, z3, z4⟩ := put (us := ws.set at_.toNat s) (vs := (ws.map V.str).set at_.toNat (.str s)) (K15.trans KG) SG (by omega) (by rw [List.map_set]) (by
          have h2 := wt_set s ws at_.toNat
          omega)
        exact ⟨q3, _, _, _, rfl, rfl, SqL.of (KG.at hs5 q3a), hs, _, rfl, _, rfl, p, _, _, _, rfl, rfl, KG.at hp5 pa, ixN_at a0 (by rw [ml]; exact a1), cont p _ _ z1 z2 z3 z4⟩
      refine ite2 (fun _ => ?_) (fun _ => cont p ws H5 hp5 (by omega) (S5.more (by omega)) K15)
      refine ⟨_, rfl, p, _, rfl, SqL.of hp5, fun q nq => ?_⟩
      have sq := same_new (o := .lst (ws.map V.str).reverse) nq
      refine cont q ws.reverse _ (by rw [List.map_reverse]; exact upd_same) ?_ ((S5.same sq).more (by omega)) (K15.trans (kept_same sq))
      rw [wt_rev]
      omega
    intro q us G hq wu SG KG
    have jl := join_wt (a := " ") us (by decide +kernel)
    refine ⟨⟨_, rfl⟩, _, rfl, _, q, us, rfl, rfl, .inl (SqL.of hq), ?_, ?_⟩
    · rw [show (" " : Str).length = 1 from by decide +kernel, wt_sum]
      omega
    generalize Txt.join " " us = tx at jl ⊢
    have szx : tx.length ≤ sizeLine := Nat.le_trans (show tx.length ≤ 40000 by omega) (by decide)
    refine ⟨_, rfl, _, rfl, .str tx, tx.length, rfl, ⟨szx, rfl⟩, _, _, rfl, rfl, a, sc, _, _, rfl, by omega, by omega, SG, by omega, fun cu G1 c0 c1 SG1 KG1 => ?_⟩
    refine ⟨(by show 9 ≤ sizeLine; decide), fun r nr => ?_⟩
    have sr := same_new (o := .lst (charL.map V.str)) nr
    have ra := SG1.ne nr
    refine ⟨_, rfl, a, sc, 9, _, rfl, by decide, by decide, SG1.same sr, by omega, fun x G2 x0 x9 SG2 KG2 => ?_⟩
    obtain ⟨ch, hch, mch⟩ := atI_str (l := charL) x0 x9
    have lch := charL_len ch mch
    refine ⟨r, _, _, _, rfl, rfl, SqL.of (KG2.at upd_same ra), hch, ?_⟩
    have KK : Kept a H G2 := ((KG.trans KG1).trans (kept_same sr)).trans KG2
    refine ⟨_, rfl, rfl, _, rfl, ?_⟩
    refine ite2 (fun _ => ?_) (fun _ => ⟨_, rfl, k tx G2 (SG2.more (by omega)) KK (by omega)⟩)
    have cl : ∀ lo hi, (cutS tx lo hi).length ≤ tx.length := fun lo hi => cutS_length _ _ _
    have big : ∀ {m : Nat}, m ≤ 100000 → m ≤ sizeLine := fun h => Nat.le_trans h (by decide)
    refine ⟨_, rfl, ?_⟩
    dsimp only [tNoPart]
    have c1' := cl none (some cu)
    have c2' := cl (some cu) none
    have c3' := cl (some (cu + 1)) none
    refine ⟨_, rfl, _, rfl, tx, rfl, szx, _, rfl, _, _, rfl, rfl, big (by omega), ?_⟩
    refine ⟨_, rfl, _, rfl, _, rfl, ?_⟩
    dsimp only [tNoPart]
    refine ⟨tx, rfl, szx, _, _, rfl, rfl, big (by rw [alen]; omega), ?_⟩
    refine ⟨_, rfl, ?_⟩
    dsimp only [tNoPart]
    refine ⟨_, rfl, _, rfl, tx, rfl, szx, ?_⟩
    refine ⟨_, rfl, _, rfl, _, _, rfl, rfl, _, rfl, ?_⟩
    dsimp only [tNoPart]
    refine ⟨tx, rfl, szx, _, _, rfl, rfl, big (by omega), ?_⟩
    refine ⟨_, rfl, ?_⟩
    dsimp only [tNoPart]
    refine ⟨_, rfl, _, rfl, tx, rfl, szx, _, rfl, _, _, rfl, rfl, big (by omega), ?_⟩
    refine ⟨_, rfl, _, rfl, _, _, rfl, rfl, _, rfl, ?_⟩
    dsimp only [tNoPart]
    refine ⟨tx, rfl, szx, _, _, rfl, rfl, big (by rw [alen]; omega), (by show 3 ≤ sizeLine; decide), fun f3 nf3 => ?_⟩
    have lL : ∃ fl : List Str, fl.length = 3 ∧ (∀ s ∈ fl, s.length ≤ ln.length + 40) ∧ [V.str ((cutS tx none (some cu) ++ ch) ++ cutS tx (some cu) none), .str (cutS tx none (some cu) ++ cutS tx (some (cu + 1)) none), .str ((cutS tx none (some cu) ++ ch) ++ cutS tx (some (cu + 1)) none)] = fl.map V.str := by
      refine ⟨[(cutS tx none (some cu) ++ ch) ++ cutS tx (some cu) none, cutS tx none (some cu) ++ cutS tx (some (cu + 1)) none, (cutS tx none (some cu) ++ ch) ++ cutS tx (some (cu + 1)) none], rfl, fun s hs => ?_, rfl⟩
      obtain ⟨j, rfl⟩ := Int.eq_ofNat_of_zero_le c0
      have d1 := cut_to_len tx j
      have d2 := cut_from_len tx j
      have d3 := cut_from_len tx (j + 1)
      have e3 : ((j + 1 : Nat) : Int) = (j : Int) + 1 := by omega
      rw [e3] at d3
      simp only [List.mem_cons, List.not_mem_nil, or_false] at hs
      rcases hs with rfl | rfl | rfl
      · rw [alen, alen]
        omega
      · rw [alen]
        omega
      · rw [alen, alen]
        omega
    obtain ⟨fl, fl3, fll, efl⟩ := lL
    rw [efl]
    have sf := same_new (o := .lst (fl.map V.str)) nf3
    have fa := SG2.ne nf3
    refine ⟨_, rfl, _, rfl, a, sc, 3, _, rfl, by decide, by decide, SG2.same sf, by omega, fun y G3 y0 y3 SG3 KG3 => ?_⟩
    obtain ⟨s, hs, ms⟩ := atI_str (l := fl) y0 (by rw [fl3]; exact y3)
    exact ⟨f3, _, _, _, rfl, rfl, SqL.of (KG3.at upd_same fa), hs, _, rfl, k s G3 (SG3.more (by omega)) ((KK.trans (kept_same sf)).trans KG3) (fll s ms)⟩
end
end Vk
namespace Vk
open PySem PySem.Spec PyProof.Rows L2 GxR
def shortL : List Str := ["boost 3", "queue", "stack 2", "", "boost"]
def shortM : List Str := ["boost 3", "queue", "stack 2", "", "boost 0"]
theorem shortL_len : ∀ s ∈ shortL, s.length ≤ 9 := by
  have z : (shortL.all fun s => decide (s.length ≤ 9)) = true := by decide +kernel
  intro s hs
  exact of_decide_eq_true (List.all_eq_true.mp z s hs)
theorem shortM_len : ∀ s ∈ shortM, s.length ≤ 9 := by
  have z : (shortM.all fun s => decide (s.length ≤ 9)) = true := by decide +kernel
  intro s hs
  exact of_decide_eq_true (List.all_eq_true.mp z s hs)
section
variable {P : Program} {w : World} {K : PySem.W.Frag} {mg : Str → Option Value} {base : Heap}
def spSpoilt (K : PySem.W.Frag) : Sp := fun vs H Q _ => ∃ (a sc lp : Addr) (n : Int) (ls : List Str), vs = [.ref a, .ref lp] ∧ Sto sc a n H ∧ n ≤ 980000 ∧ SqL K H lp (ls.map V.str) ∧ 1 ≤ ls.length ∧ ls.length ≤ 12 ∧ (∀ s ∈ ls, s.length ≤ 60) ∧
  ∀ (t : Str) (H' : Hp), Sto sc a (n + 60) H' → Kept a H H' → t.length ≤ 49999 → Q (.str t) H'
theorem scSpoilt : FnScope ["store", "lines", "k", "at", "there", "way", "text"] ["store", "lines"] (defScope sSpoilt) := ⟨rfl, rfl, rfl, by decide +kernel, rfl, by decide +kernel, by decide +kernel⟩
theorem ok_spoilt (D : Df K mg "_law_spoilt" sSpoilt ["store", "lines"]) (B : Blt mg) (PK : Cl P w K mg base CX0 2 "_law_pick" ["store", "count"] spPick)
    (SL : Cl P w K mg base CX0 3 "_law_spoilt_line" ["store", "line"] spSpoiltLine) : Cl P w K mg base CX0 4 "_law_spoilt" ["store", "lines"] (spSpoilt K) := by
  refine cl0 D scSpoilt (fun vs H Q E h => ?_) (fun f cdv A outer s H vs Q E hr h => ?_)
  · obtain ⟨a, sc, lp, n, ls, rfl, _⟩ := h
    rfl
  · obtain ⟨a, sc, lp, n, ls0, rfl, S, n1, hlp, le1, le2, len0, k⟩ := h
    refine ⟨_, pss_cons (ps_set (i := 1) scSpoilt.nd rfl (Or.inl rfl) (pe_callTy call_list_of (by rfl) B.list (by decide +kernel) (pa_cons (pv 1) pa_nil)))
      (pss_cons (ps_for PassesOwn.never rfl (pi_range1 rfl B.range (pa_cons (pe_op op_add pe_int (pc PK hr (by decide) (pa_cons (pv 0) (pa_cons pe_int pa_nil)))) pa_nil)) (pg_name (i := 2) scSpoilt.nd rfl (Or.inl rfl))
        (pss_cons (ps_set (i := 3) scSpoilt.nd rfl (Or.inl rfl) (pc PK hr (by decide) (pa_cons (pv 0) (pa_cons (pe_callB call_len_seq (by rfl) B.len PySem.boot_len (pa_cons (pv 1) pa_nil)) pa_nil))))
        (pss_cons (ps_set (i := 4) scSpoilt.nd rfl (Or.inl rfl) (pc PK hr (by decide) (pa_cons (pv 0) (pa_cons (pe_callB call_len_seq (by rfl) B.len PySem.boot_len (pa_cons (pv 1) pa_nil)) pa_nil))))
        (pss_cons (ps_set (i := 5) scSpoilt.nd rfl (Or.inl rfl) (pc PK hr (by decide) (pa_cons (pv 0) (pa_cons pe_int pa_nil))))
        (pss_one (ps_if (PW.pt (pw_and (pt_cmpR op_eq (pv 5) pe_int (nomark _)) (pw_and1 (pt_cmpR op_gt (pe_callB call_len_seq (by rfl) B.len PySem.boot_len (pa_cons (pv 1) pa_nil)) pe_int (nomark _)))))
            (pss_one (ps_expr (pe_bm PySem.F.plainAttrs_list PySem.F.slot_list_pop PySem.F.type_list_pop mt_popAt (pv 1) (pa_cons (pv 3) pa_nil))))
          (pss_one (ps_if (pt_cmpR op_eq (pv 5) pe_int (nomark _))
            (pss_one (ps_expr (pe_bm PySem.F.plainAttrs_list PySem.F.slot_list_insert PySem.F.type_list_insert mt_insert (pv 1) (pa_cons (pv 4) (pa_cons (pe_ix ix_list (pv 1) (pv 3) (fun _ _ => rfl)) pa_nil)))))
          (pss_one (ps_if (pt_cmpR op_eq (pv 5) pe_int (nomark _))
            (pss_one (ps_expr (pe_bm PySem.F.plainAttrs_list PySem.F.slot_list_insert PySem.F.type_list_insert mt_insert (pv 1) (pa_cons (pv 3) (pa_cons (pe_ix ix_list (pe_lst (pa_cons pe_str (pa_cons pe_str (pa_cons pe_str (pa_cons pe_str (pa_cons pe_str pa_nil)))))) (pc PK hr (by decide) (pa_cons (pv 0) (pa_cons pe_int pa_nil))) (fun _ _ => rfl)) pa_nil)))))
          (pss_one (ps_if (pt_cmpR op_eq (pv 5) pe_int (nomark _))
            (pss_one (ps_asg (pe_tup (pa_cons (pe_ix ix_list (pv 1) (pv 4) (fun _ _ => rfl)) (pa_cons (pe_ix ix_list (pv 1) (pv 3) (fun _ _ => rfl)) pa_nil))) (pg_tup rfl (pgs_cons (pg_sub (pv 1) (pv 3) set_list) (pgs_cons (pg_sub (pv 1) (pv 4) set_list) pgs_nil)))))
          (pss_one (ps_if (pt_cmpR op_eq (pv 5) pe_int (nomark _))
            (pss_one (ps_expr (pe_bm PySem.F.plainAttrs_list PySem.F.slot_list_append PySem.F.type_list_append mt_append (pv 1) (pa_cons (pe_ix ix_list (pe_lst (pa_cons pe_str (pa_cons pe_str (pa_cons pe_str (pa_cons pe_str (pa_cons pe_str pa_nil)))))) (pc PK hr (by decide) (pa_cons (pv 0) (pa_cons pe_int pa_nil))) (fun _ _ => rfl)) pa_nil))))
            (pss_one (ps_asg (pc SL hr (by decide) (pa_cons (pv 0) (pa_cons (pe_ix ix_list (pv 1) (pv 3) (fun _ _ => rfl)) pa_nil))) (pg_sub (pv 1) (pv 3) set_list)))))))))))))))))
      (pss_cons (ps_set (i := 6) scSpoilt.nd rfl (Or.inl rfl) (pe_join pe_str (pv 1)))
      (pss_one (ps_ret (pe_ix ix_list (pe_lst (pa_cons (pv 6) (pa_cons (pv 6) (pa_cons (pv 6) (pa_cons (pe_op op_add_str (pv 6) pe_str) (pa_cons (pe_op op_add_str pe_str (pv 6)) (pa_cons (pe_op op_add_str pe_str (pv 6)) (pa_cons (pe_op op_add_str (pv 6) pe_str) pa_nil)))))))) (pc PK hr (by decide) (pa_cons (pv 0) (pa_cons pe_int pa_nil))) (fun _ _ => rfl)))))), ?_⟩
    refine ⟨_, rfl, lp, _, rfl, .inl hlp, fun l nl => ?_⟩
    have sl := same_new (o := .lst (ls0.map V.str)) nl
    have la := S.ne nl
    have lsc := S.ne2 nl
    have S0 := S.same sl
    have K0 : Kept a H (upd H l (.lst (ls0.map V.str))) := kept_same sl
    have hl0 : upd H l (.lst (ls0.map V.str)) l = some (.lst (ls0.map V.str)) := upd_same
    have nlH := nl
    generalize upd H l (.lst (ls0.map V.str)) = G0 at S0 K0 hl0 ⊢
    have big63 : ∀ {i : Int} {m : Nat}, i < m → m ≤ 20000 → i < 2 ^ 63 := fun h1 h2 => by
      have z : (20000 : Int) < 2 ^ 63 := by decide
      omega
    refine ⟨_, rfl, a, sc, 3, _, rfl, by decide, by decide, S0, by omega, fun r G1 r0 r3 S1 K1 => ?_⟩
    refine ⟨_, _, rfl, rfl, 1 + r, rfl, by omega, by omega, ?_⟩
    refine for_range (lo := 0) (n := (1 + r).toNat) (fun i σ G => ∃ (u2 u3 u4 u5 : Option V) (ls : List Str), σ = [some (.ref a), some (.ref l), u2, u3, u4, u5, none] ∧ Sto sc a (n + 1 + 15 * i) G ∧ Kept a H G ∧ G l = some (.lst (ls.map V.str)) ∧ 1 ≤ ls.length ∧ ls.length ≤ 12 + i ∧ ∀ s ∈ ls, s.length ≤ 60 + 40 * i)
      ⟨none, none, none, none, ls0, rfl, S1.more (by omega), K0.trans K1, K1.at hl0 la, le1, by omega, fun s hs => by have := len0 s hs; omega⟩ ?_ ?_
    · rintro i σ G hi ⟨u2, u3, u4, u5, ls, rfl, SG, KG, hl, ln1, ln2, lnb⟩
      have i2 : i ≤ 2 := by omega
      have ml : (ls.map V.str).length = ls.length := List.length_map ..
      have put : ∀ {Gx : Hp} {vs : List V} {us : List Str} {m : Int} {u2 u3 u4 u5 : Option V}, Kept a H Gx → Sto sc a m Gx → m ≤ n + 1 + 15 * ((i + 1 : Nat) : Int) → vs = us.map V.str → 1 ≤ us.length → us.length ≤ 12 + (i + 1) → (∀ s ∈ us, s.length ≤ 60 + 40 * (i + 1)) →
          ∃ (v2 v3 v4 v5 : Option V) (ls : List Str), [some (.ref a), some (.ref l), u2, u3, u4, u5, none] = [some (.ref a), some (.ref l), v2, v3, v4, v5, none] ∧ Sto sc a (n + 1 + 15 * ((i + 1 : Nat) : Int)) (upd Gx l (.lst vs)) ∧ Kept a H (upd Gx l (.lst vs)) ∧ (upd Gx l (.lst vs)) l = some (.lst (ls.map V.str)) ∧ 1 ≤ ls.length ∧ ls.length ≤ 12 + (i + 1) ∧ ∀ s ∈ ls, s.length ≤ 60 + 40 * (i + 1) := fun {Gx vs us m u2 u3 u4 u5} KG SG hm e h1 h2 h3 =>
        ⟨u2, u3, u4, u5, us, rfl, (SG.other la lsc).more hm, kept_new_put KG nlH la, by rw [e]; exact upd_same, h1, h2, h3⟩
      refine ⟨_, rfl, _, rfl, l, _, rfl, .inl (SqL.of hl), a, sc, _, _, rfl, by omega, by omega, SG, by omega, fun at_ G2 a0 a1 SG2 KG2 => ?_⟩
      rw [ml] at a1
      have hl2 := KG2.at hl la
      refine ⟨_, rfl, _, rfl, l, _, rfl, .inl (SqL.of hl2), a, sc, _, _, rfl, by omega, by omega, SG2, by omega, fun th G2' b0 b1 SG2' KG2' => ?_⟩
      rw [ml] at b1
      have hl2' := KG2'.at hl2 la
      refine ⟨_, rfl, a, sc, 8, _, rfl, by decide, by decide, SG2', by omega, fun wy G3 w0 w8 SG3 KG3 => ?_⟩
      have hl3 := KG3.at hl2' la
      have K3 := ((KG.trans KG2).trans KG2').trans KG3
      have hj : at_.toNat < ls.length := by omega
      obtain ⟨s, hs, ms⟩ := atI_str (l := ls) a0 a1
      obtain ⟨u, hu, mu⟩ := atI_str (l := ls) b0 b1
      have hsl := lnb s ms
      have hul := lnb u mu
      have insOk : ∀ (x : Str) (j : Nat), x.length ≤ 60 + 40 * (i + 1) → ∀ y ∈ ls.take j ++ [x] ++ ls.drop j, y.length ≤ 60 + 40 * (i + 1) := fun x j hx y hy => by
        simp only [List.mem_append, List.mem_singleton] at hy
        rcases hy with (hy | rfl) | hy
        · have := lnb y (List.mem_of_mem_take hy)
          omega
        · exact hx
        · have := lnb y (List.mem_of_mem_drop hy)
          omega
      have insLen : ∀ (x : Str) (j : Nat), 1 ≤ (ls.take j ++ [x] ++ ls.drop j).length ∧ (ls.take j ++ [x] ++ ls.drop j).length ≤ 12 + (i + 1) := fun x j => by
        simp only [List.length_append, List.length_take, List.length_drop, List.length_singleton]
        omega
      have smL : (ls.map V.str).length < sizeLine := by rw [ml]; exact Nat.lt_of_le_of_lt (show ls.length ≤ 20000 by omega) (by decide)
      refine ⟨_, rfl, rfl, _, rfl, ?_⟩
      apply cutP
      · intro els
        refine ite2 (fun _ => ?_) (fun _ => iteF els)
        refine ⟨_, rfl, l, _, rfl, .inl (SqL.of hl3), _, _, rfl, rfl, _, rfl, ?_⟩
        refine ite2 (fun h2 => ?_) (fun _ => els)
        have h2' : (1 : Int) < ((ls.map V.str).length : Nat) := of_decide_eq_true h2
        rw [ml] at h2'
        exact ⟨_, rfl, .inl ⟨rfl, _, SqL.of hl3⟩, _, rfl, l, _, at_, at_.toNat, .str ls[at_.toNat], rfl, rfl, hl3, by omega, big63 a1 (by omega), sq_at a0 (by rw [ml]; exact a1), by rw [List.getElem?_map, List.getElem?_eq_getElem hj]; rfl,
          put K3 SG3 (by omega) (map_erase _ ls at_.toNat) (by rw [List.length_eraseIdx]; split <;> omega) (by rw [List.length_eraseIdx]; split <;> omega) (fun x hx => by have := lnb x (List.mem_of_mem_eraseIdx hx); omega)⟩
      refine ⟨_, rfl, rfl, _, rfl, ?_⟩
      refine ite2 (fun _ => ?_) (fun _ => ⟨_, rfl, rfl, _, rfl, ?_⟩)
      · exact ⟨_, rfl, .inl ⟨rfl, _, SqL.of hl3⟩, _, rfl, _, rfl, _, rfl, l, _, _, _, rfl, rfl, SqL.of hl3, hs, l, _, th, _, rfl, rfl, hl3, smL, b0, big63 b1 (by omega),
          put (us := ls.take th.toNat ++ [s] ++ ls.drop th.toNat) K3 SG3 (by omega) (by simp [List.map_take, List.map_drop]) (insLen s _).1 (insLen s _).2 (insOk s _ (by omega))⟩
      have setOk : ∀ {ms' : List Str} (x : Str) (j : Nat), (∀ y ∈ ms', y.length ≤ 60 + 40 * (i + 1)) → x.length ≤ 60 + 40 * (i + 1) → ∀ y ∈ ms'.set j x, y.length ≤ 60 + 40 * (i + 1) := fun x j hm hx y hy => by
        rcases List.mem_or_eq_of_mem_set hy with hy | rfl
        · exact hm y hy
        · exact hx
      have lnb' : ∀ y ∈ ls, y.length ≤ 60 + 40 * (i + 1) := fun y hy => by
        have := lnb y hy
        omega
      refine ite2 (fun _ => ?_) (fun _ => ⟨_, rfl, rfl, _, rfl, ?_⟩)
      · refine ⟨_, rfl, .inl ⟨rfl, _, SqL.of hl3⟩, _, rfl, (by show 5 ≤ sizeLine; decide), fun q nq => ?_⟩
        have sq := same_new (o := .lst (shortL.map V.str)) nq
        have qa := SG3.ne nq
        refine ⟨_, rfl, a, sc, 5, _, rfl, by decide, by decide, SG3.same sq, by omega, fun x G4 x0 x4 SG4 KG4 => ?_⟩
        obtain ⟨v, hv, mv⟩ := atI_str (l := shortL) x0 x4
        have vl := shortL_len v mv
        exact ⟨q, _, _, _, rfl, rfl, SqL.of (KG4.at upd_same qa), hv, l, _, at_, _, rfl, rfl, KG4.at (sq.at hl3) la, smL, a0, big63 a1 (by omega),
          put (us := ls.take at_.toNat ++ [v] ++ ls.drop at_.toNat) ((K3.trans (kept_same sq)).trans KG4) SG4 (by omega) (by simp [List.map_take, List.map_drop]) (insLen v _).1 (insLen v _).2 (insOk v _ (by omega))⟩
      refine ite2 (fun _ => ?_) (fun _ => ⟨_, rfl, rfl, _, rfl, ?_⟩)
      · refine ⟨_, rfl, _, rfl, l, _, _, _, rfl, rfl, SqL.of hl3, hu, _, rfl, _, rfl, l, _, _, _, rfl, rfl, SqL.of hl3, hs, (by show 2 ≤ sizeLine; decide), fun t nt => ?_⟩
        have st := same_new (o := .tup [V.str u, V.str s]) nt
        refine ⟨t, _, rfl, SqT.of upd_same, rfl, _, _, rfl, _, rfl, _, rfl, l, _, _, _, rfl, rfl, st.at hl3, ixN_at a0 (by rw [ml]; exact a1), _, _, rfl, _, rfl, _, rfl, l, _, _, _, rfl, rfl, upd_same, ixN_at b0 (by rw [List.length_set, ml]; exact b1), rfl, ?_⟩
        have e : ∀ {G : Hp} {x y : HO}, upd (upd G l x) l y = upd G l y := fun {G x y} => by
          funext b
          by_cases h : b = l
          · rw [h, upd_same, upd_same]
          · rw [upd_ne h, upd_ne h, upd_ne h]
        rw [e]
        exact put (us := (ls.set at_.toNat u).set th.toNat s) (K3.trans (kept_same st)) (SG3.same st) (by omega) (by rw [List.map_set, List.map_set]) (by rw [List.length_set, List.length_set]; exact ln1) (by rw [List.length_set, List.length_set]; omega) (setOk s _ (setOk u _ lnb' (by omega)) (by omega))
      refine ite2 (fun _ => ?_) (fun _ => ?_)
      · refine ⟨_, rfl, .inl ⟨rfl, _, SqL.of hl3⟩, (by show 5 ≤ sizeLine; decide), fun q nq => ?_⟩
        have sq := same_new (o := .lst (shortM.map V.str)) nq
        have qa := SG3.ne nq
        refine ⟨_, rfl, a, sc, 5, _, rfl, by decide, by decide, SG3.same sq, by omega, fun x G4 x0 x4 SG4 KG4 => ?_⟩
        obtain ⟨v, hv, mv⟩ := atI_str (l := shortM) x0 x4
        have vl := shortM_len v mv
        exact ⟨q, _, _, _, rfl, rfl, SqL.of (KG4.at upd_same qa), hv, l, _, _, rfl, rfl, KG4.at (sq.at hl3) la, smL,
          put (us := ls ++ [v]) ((K3.trans (kept_same sq)).trans KG4) SG4 (by omega) (by rw [List.map_append]; rfl) (by rw [List.length_append, List.length_singleton]; omega) (by rw [List.length_append, List.length_singleton]; omega) (fun y hy => by
            rcases List.mem_append.mp hy with hy | hy
            · exact lnb' y hy
            · rw [List.mem_singleton.mp hy]
              omega)⟩
      · refine ⟨_, rfl, _, rfl, _, rfl, l, _, _, _, rfl, rfl, SqL.of hl3, hs, a, sc, _, s, rfl, SG3, by omega, by omega, fun t G4 SG4 KG4 lt => ?_⟩
        exact ⟨_, rfl, _, rfl, l, _, _, _, rfl, rfl, KG4.at hl3 la, ixN_at a0 (by rw [ml]; exact a1),
          put (us := ls.set at_.toNat t) (K3.trans KG4) SG4 (by omega) (by rw [List.map_set]) (by rw [List.length_set]; exact ln1) (by rw [List.length_set]; omega) (setOk t _ lnb' (by omega))⟩
    · rintro σ G ⟨u2, u3, u4, u5, ls, rfl, SG, KG, hl, ln1, ln2, lnb⟩
      have wl := wt_all lnb
      have wm : ls.length * (60 + 40 * (1 + r).toNat + 1) ≤ 15 * 181 := Nat.mul_le_mul (by omega) (by omega)
      have jl := join_wt (a := "\n") ls (by decide +kernel)
      refine ⟨⟨_, rfl⟩, _, rfl, _, l, ls, rfl, rfl, .inl (SqL.of hl), ?_, ?_⟩
      · rw [show ("\n" : Str).length = 1 from by decide +kernel, wt_sum]
        omega
      generalize Txt.join "\n" ls = tx at jl ⊢
      have big : ∀ {m : Nat}, m ≤ 100000 → m ≤ sizeLine := fun h => Nat.le_trans h (by decide)
      have o1 : ("\n" : Str).length = 1 := by decide +kernel
      have o2 : (" " : Str).length = 1 := by decide +kernel
      refine ⟨_, rfl, _, rfl, _, rfl, _, rfl, _, _, rfl, rfl, big (by omega), _, rfl, _, _, rfl, rfl, big (by omega), _, rfl, _, _, rfl, rfl, big (by omega), _, rfl, _, _, rfl, rfl, big (by omega), (by show 7 ≤ sizeLine; decide), fun q nq => ?_⟩
      have sq := same_new (o := .lst ([tx, tx, tx, tx ++ "\n", "\n" ++ tx, " " ++ tx, tx ++ " "].map V.str)) nq
      have qa := SG.ne nq
      refine ⟨_, rfl, a, sc, 7, _, rfl, by decide, by decide, SG.same sq, by omega, fun x G4 x0 x6 SG4 KG4 => ?_⟩
      obtain ⟨u, hu, mu⟩ := atI_str (l := [tx, tx, tx, tx ++ "\n", "\n" ++ tx, " " ++ tx, tx ++ " "]) x0 x6
      refine ⟨q, _, _, _, rfl, rfl, SqL.of (KG4.at upd_same qa), hu, k u G4 (SG4.more (by omega)) ((KG.trans (kept_same sq)).trans KG4) ?_⟩
      simp only [List.mem_cons, List.not_mem_nil, or_false] at mu
      rcases mu with rfl | rfl | rfl | rfl | rfl | rfl | rfl
      · omega
      · omega
      · omega
      · rw [alen]
        omega
      · rw [alen]
        omega
      · rw [alen]
        omega
      · rw [alen]
        omega
end
end Vk
namespace Vk
open PySem PySem.Spec PyProof.Rows L2 GxR
def gd (d : PyData) : Prop := ∃ (k : Str) (o : Option Int), d = .tuple [.str k, optD o] ∧ kindD (.str k) = true
theorem lev_gd {ws : List Str} {d : PyData} (h : levW ws = some d) : gd d := by
  match ws, h with
  | [], h => cases h
  | _ :: _ :: _ :: _, h => cases h
  | [k], h =>
    have e : levW [k] = if kindD (.str k) = true then some (.tuple [.str k, .none]) else none := rfl
    rw [e] at h
    by_cases z : kindD (.str k) = true
    · rw [if_pos z] at h
      exact ⟨k, none, (Option.some.inj h).symm, z⟩
    · rw [if_neg z] at h
      cases h
  | [k, n], h =>
    have e : levW [k, n] = if kindD (.str k) = true then (countW [n]).map (fun q => PyData.tuple [.str k, .int q]) else none := rfl
    rw [e] at h
    by_cases z : kindD (.str k) = true
    · rw [if_pos z] at h
      cases hc : countW [n] with
      | none =>
        rw [hc] at h
        cases h
      | some q =>
        rw [hc] at h
        exact ⟨k, some q, (Option.some.inj h).symm, z⟩
    · rw [if_neg z] at h
      cases h
theorem run_or : ∀ (lines : List Str) (row : Nat) (lev : List PyData), (∀ d ∈ lev, gd d) → (∃ i, runR lines row lev = .int i) ∨ ∃ lev' bo, runR lines row lev = .tuple [.tuple lev', optD bo] ∧ ∀ d ∈ lev', gd d
  | [], row, lev, h => .inr ⟨lev, none, rfl, h⟩
  | l :: rest, row, lev, h => by
    cases hb : (if 0 < row then booW (Txt.split l " ") else none) with
    | some b =>
      rw [runR_boost hb]
      cases rest with
      | nil => exact .inr ⟨lev, some b, rfl, h⟩
      | cons x r => exact .inl ⟨_, rfl⟩
    | none =>
      rw [runR_level hb]
      cases hl : levW (Txt.split l " ") with
      | none => exact .inl ⟨_, rfl⟩
      | some d =>
        show (∃ i, (if row < 6 then runR rest (row + 1) (lev ++ [d]) else .int (row : Int)) = .int i) ∨ _
        by_cases h6 : row < 6
        · rw [if_pos h6]
          have z := run_or rest (row + 1) (lev ++ [d]) fun x hx => by
            rcases List.mem_append.mp hx with hx | hx
            · exact h x hx
            · rw [List.mem_singleton.mp hx]
              exact lev_gd hl
          rcases z with ⟨i, z⟩ | ⟨lev', bo, z, hz⟩
          · exact .inl ⟨i, z⟩
          · refine .inr ⟨lev', bo, ?_, hz⟩
            show (if row < 6 then runR rest (row + 1) (lev ++ [d]) else .int (row : Int)) = _
            rw [if_pos h6, z]
        · rw [if_neg h6]
          exact .inl ⟨_, rfl⟩
theorem shape_lv {d : PyData} (h : gd d) : PyData.canLay0 d = true ∧ PyData.depth d ≤ 4 := by
  obtain ⟨k, o, rfl, hk⟩ := h
  have ok : PyData.strOk k = true := by
    have z : (k == ("queue" : Str) || k == ("stack" : Str)) = true := hk
    rcases Bool.or_eq_true_iff.mp z with z | z
    · rw [eq_of_beq z]
      decide +kernel
    · rw [eq_of_beq z]
      decide +kernel
  cases o with
  | none =>
    refine ⟨?_, ?_⟩
    · simp [optD, PyData.canLay0, PyData.canLayAll0, ok]
    · simp [optD, PyData.depth, PyData.depthAll]
  | some n =>
    refine ⟨?_, ?_⟩
    · simp [optD, PyData.canLay0, PyData.canLayAll0, ok]
    · simp [optD, PyData.depth, PyData.depthAll]
theorem shape_lvs : ∀ {js : List PyData}, (∀ j ∈ js, gd j) → PyData.canLayAll0 js = true ∧ PyData.depthAll js ≤ 4
  | [], _ => ⟨rfl, by simp [PyData.depthAll]⟩
  | j :: js, h => by
    obtain ⟨a1, a2⟩ := shape_lv (h j (by simp))
    obtain ⟨b1, b2⟩ := shape_lvs (js := js) fun x hx => h x (List.mem_cons_of_mem _ hx)
    refine ⟨?_, ?_⟩
    · simp [PyData.canLayAll0, a1, b1]
    · simp [PyData.depthAll]
      omega
theorem shaped_rule {lev : List PyData} (bo : Option Int) (h : ∀ d ∈ lev, gd d) : SeqAt.shaped (.tuple [.tuple lev, optD bo]) = true := by
  obtain ⟨a, b⟩ := shape_lvs h
  have c1 : PyData.canLay0 (optD bo) = true := by cases bo <;> simp [optD, PyData.canLay0]
  have c2 : PyData.depth (optD bo) ≤ 2 := by cases bo <;> simp [optD, PyData.depth]
  unfold SeqAt.shaped
  rw [show PyData.canLay0 (.tuple [.tuple lev, optD bo]) = true from by simp [PyData.canLay0, PyData.canLayAll0, a, c1], Bool.true_and]
  refine decide_eq_true ?_
  simp [PyData.depth, PyData.depthAll]
  omega
theorem sh_two {s : Str} {i : Int} (h : PyData.strOk s = true) : SeqAt.shaped (.tuple [.str s, .int i]) = true := by
  have a : PyData.canLay0 (.tuple [.str s, .int i]) = true := by simp [PyData.canLay0, PyData.canLayAll0, h]
  have b : PyData.depth (.tuple [.str s, .int i]) ≤ 64 := by simp [PyData.depth, PyData.depthAll]
  unfold SeqAt.shaped
  rw [a, decide_eq_true b]
  rfl
section
variable {P : Program} {w : World} {K : PySem.W.Frag} {mg : Str → Option Value} {base : Heap}
theorem scRight : FnScope ["text", "due", "caught", "found", "e"] ["text"] (defScope sRight) := ⟨rfl, rfl, rfl, by decide +kernel, rfl, by decide +kernel, by decide +kernel⟩
def spRight (T : Addr) : Sp := fun vs H Q _ => ∃ (tx : Str), vs = [.str tx] ∧ tx.length ≤ 49999 ∧ TabG H T ∧ ∀ H', Same H H' → Q (.bl true) H'
theorem ok_right {T C Ct : Addr} {i7 : Nat} (D : Df K mg "_law_right" sRight ["text"]) (B : Blt mg) (N7 : Kn K mg Ct i7) (DU : Cl P w K mg base CX0 3 "_law_due" ["text"] (spDue K)) (RD : Cl P w K mg base (L2.CX P w) 4 "read_rule" ["text"] (spReadRule K T Ct))
    (KI : Cl P w K mg base CX0 1 "_law_kind" ["caught"] (spKind2 C Ct)) : Cl P w K mg base CX0 5 "_law_right" ["text"] (spRight T) := by
  refine cl0 D scRight (fun vs H Q E h => ?_) (fun f cdv A outer s H vs Q E hr h => ?_)
  · obtain ⟨v, rfl, _⟩ := h
    rfl
  · obtain ⟨tx, rfl, ltx, tg, k⟩ := h
    obtain ⟨S, mS, _, exm⟩ := N7.se
    obtain ⟨fC, fdC, mC, kpC, bC, FC⟩ := RD.ex
    refine ⟨_, pss_cons (ps_set (i := 1) scRight.nd rfl (Or.inl rfl) (pc DU hr (by decide) (pa_cons (pv 0) pa_nil)))
      (pss_cons (ps_set (i := 2) scRight.nd rfl (Or.inl rfl) pe_non)
      (pss_cons (ps_set (i := 3) scRight.nd rfl (Or.inl rfl) pe_non)
      (pss_cons (ps_try_keep (i := 4) (c := .ref S) (tb := fun W => tAsg (tCallS (spReadRule K T Ct) (WE W) (tCons (tVar 0) tNil)) (gName 3)) (ts := fun _ _ _ => tAsg (tVar 4) (gName 2)) rfl rfl rfl scRight.nd rfl rfl rfl mS (by decide)
          (fun W pn xe tk _ => pss_one (ps_set (i := 3) scRight.nd rfl (Or.inl rfl) (by exact (pe_callS FC hr rfl mC kpC bC (fun σ => passAt tk σ) (by exact (pa_cons (pv 0) pa_nil))))))
          (fun a oe cls d pn _ _ => pss_one (ps_set (i := 2) scRight.nd rfl (Or.inl rfl) (by exact (pv 4)))))
      (pss_cons (ps_if (pt_val (pe_callB call_isi (by rfl) B.isi (by decide +kernel) (pa_cons (pv 1) (pa_cons (pe_bltn (v := .ty "tuple") (u := .type "tuple") (by rfl) B.tuple (by decide +kernel) rfl) pa_nil)))) (pss_one (ps_ret (pe_and (pe_cmpR op_isN (pv 2) pe_non (nomark _)) (pe_and (pe_cmpR (op_eqD hr.units) (pv 3) (pv 1) (nomark _)) (pe_and (pe_callB call_isi (by rfl) B.isi (by decide +kernel) (pa_cons (pv 3) (pa_cons (pe_bltn (v := .ty "tuple") (u := .type "tuple") (by rfl) B.tuple (by decide +kernel) rfl) pa_nil))) (pe_one (pe_callB call_isi (by rfl) B.isi (by decide +kernel) (pa_cons (pe_ix ix_tup (pv 3) pe_int (fun _ _ => rfl)) (pa_cons (pe_bltn (v := .ty "tuple") (u := .type "tuple") (by rfl) B.tuple (by decide +kernel) rfl) pa_nil))))))))) pss_nil)
      (pss_one (ps_ret (pe_and (pe_cmpR op_notN (pv 2) pe_non (nomark _)) (pe_one (pe_cmpR (op_eqD hr.units) (pc KI hr (by decide) (pa_cons (pv 2) pa_nil)) (pe_tup (pa_cons pe_str (pa_cons (pv 1) pa_nil))) (nomark _)))))))))), ?_⟩
    refine ⟨_, rfl, tx, rfl, ltx, fun v H1 s1 dv => ?_⟩
    refine ⟨_, rfl, tx, rfl, ltx, s1.tab T tg, fun i hi dx H2 s2 hx => ?_, fun lev b hl v2 H2 s2 d2 => ?_⟩
    · rw [hi] at dv
      have ev := dp_int dv
      subst ev
      refine ⟨exm, fun a na => ⟨_, rfl, fun na2 => ?_⟩⟩
      have s12 := s2.trans (same_new (o := Xco a (.ref Ct) (some dx)) na2)
      have hx3 : upd H2 a (Xco a (.ref Ct) (some dx)) dx = some (.xd [(("row" : Str), .int i)]) := by
        rw [upd_ne (ne_of_none hx na2)]
        exact hx
      refine ⟨_, rfl, .int i, _, _, _, _, rfl, .ty "tuple", dp_ty (.int i), kit_tup (K := K) (H := fun _ => none) (.int i), _, rfl, iteF ?_⟩
      refine ⟨_, rfl, rfl, _, rfl, iteT ?_⟩
      refine ⟨_, rfl, .inr ⟨a, dx, _, rfl, upd_same, hx3, fun t H4 s4 ht => ?_⟩⟩
      refine ⟨_, rfl, (by show 2 ≤ sizeLine; decide), fun u nu => ?_⟩
      have d1 : Dp K (upd H4 u (.tup [.str ("text" : Str), .int i])) (.ref t) (.tuple [.str ("text" : Str), .int i]) := .tup (SqT.of ((same_new nu).at ht)) (.cons (.str _) (.cons (.int _) .nil))
      have d2 : Dp K (upd H4 u (.tup [.str ("text" : Str), .int i])) (.ref u) (.tuple [.str ("text" : Str), .int i]) := .tup (SqT.of upd_same) (.cons (.str _) (.cons (.int _) .nil))
      have sh := sh_two (s := "text") (i := i) (by decide +kernel)
      refine ⟨_, _, d1, d2, sh, sh, ?_⟩
      show Q (.bl (PyData.eqv _ _)) _
      rw [SeqAt.eqv_refl _ (SeqAt.canLay_of_shaped sh)]
      exact k _ ((s1.trans s12).trans (s4.trans (same_new nu)))
    · rw [hl] at dv
      have dv2 := dp_same s2 dv
      have sh : SeqAt.shaped (.tuple [.tuple lev, b]) = true := by
        rcases run_or (Txt.split tx "\n") 0 [] (fun d hd => absurd hd (by simp)) with ⟨i, z⟩ | ⟨lev', bo, z, hz⟩
        · have e : dueR tx = .int i := z
          rw [e] at hl
          cases hl
        · have e : dueR tx = .tuple [.tuple lev', optD bo] := z
          rw [e] at hl
          cases hl
          exact shaped_rule bo hz
      obtain ⟨p, x, y, rfl, q, da, db⟩ := dp_two d2
      refine ⟨_, rfl, v, _, _, _, _, rfl, .ty "tuple", dp_ty dv2, kit_tup dv2, _, rfl, iteT ?_⟩
      refine ⟨_, rfl, rfl, _, rfl, iteT ?_⟩
      refine ⟨_, rfl, _, rfl, _, _, d2, dv2, sh, sh, _, rfl, ?_⟩
      rw [SeqAt.eqv_refl _ (SeqAt.canLay_of_shaped sh)]
      exact iteT ⟨_, rfl, .ref p, _, _, _, _, rfl, .ty "tuple", dp_ty d2, kit_tup d2, _, rfl, iteT ⟨_, rfl, p, _, 0, _, rfl, rfl, q, atI_nat (j := 0) rfl, x, _, _, _, _, rfl, .ty "tuple", dp_ty da, kit_tup da, k _ (s1.trans s2)⟩⟩
theorem scListRight : FnScope ["policy", "caught", "e"] ["policy"] (defScope sListRight) := ⟨rfl, rfl, rfl, by decide +kernel, rfl, by decide +kernel, by decide +kernel⟩
def spListRight (K : PySem.W.Frag) : Sp := fun vs H Q _ => ∃ (v : V) (d : PyData), vs = [v] ∧ Dp K H v d ∧ goodHeads d = true ∧ rulePlace d = some 0 ∧ ∀ H', Same H H' → Q (.bl true) H'
theorem ok_listRight {C Ct : Addr} {i1 : Nat} (D : Df K mg "_law_list_right" sListRight ["policy"]) (B : Blt mg) (N : Kn K mg C i1) (SR : Cl P w K mg base (L2.CX P w) 5 "show_rule" ["rule"] (spShowRule K C))
    (KI : Cl P w K mg base CX0 1 "_law_kind" ["caught"] (spKind2 C Ct)) : Cl P w K mg base CX0 6 "_law_list_right" ["policy"] (spListRight K) := by
  refine cl0 D scListRight (fun vs H Q E h => ?_) (fun f cdv A outer s H vs Q E hr h => ?_)
  · obtain ⟨v, d, rfl, _⟩ := h
    rfl
  · obtain ⟨v, d, rfl, hd, gh, rp, k⟩ := h
    obtain ⟨S, mS, _, exm⟩ := N.se
    obtain ⟨fC, fdC, mC, kpC, bC, FC⟩ := SR.ex
    refine ⟨_, pss_cons (ps_set (i := 1) scListRight.nd rfl (Or.inl rfl) pe_non)
      (pss_cons (ps_try_keep (i := 2) (c := .ref S) (tb := fun W => tDrop (tCallS (spShowRule K C) (WE W) (tCons (tVar 0) tNil))) (ts := fun _ _ _ => tAsg (tVar 2) (gName 1)) rfl rfl rfl scListRight.nd rfl rfl rfl mS (by decide)
          (fun W pn xe tk _ => pss_one (ps_expr (by exact (pe_callS FC hr rfl mC kpC bC (fun σ => passAt tk σ) (by exact (pa_cons (pv 0) pa_nil))))))
          (fun a oe cls d pn _ _ => pss_one (ps_set (i := 1) scListRight.nd rfl (Or.inl rfl) (by exact (pv 2)))))
      (pss_one (ps_ret (pe_and (pe_cmpR op_notN (pv 1) pe_non (nomark _)) (pe_one (pe_cmpR (op_eqD hr.units) (pc KI hr (by decide) (pa_cons (pv 1) pa_nil)) (pe_tup (pa_cons pe_str (pa_cons pe_int pa_nil))) (nomark _))))))), ?_⟩
    refine ⟨_, rfl, v, d, rfl, hd, gh, fun e => absurd (rp.symm.trans e) (fun z => nomatch z), fun p e dx H2 s2 hx => ?_⟩
    rw [rp] at e
    cases e
    refine ⟨exm, fun a na => ⟨_, rfl, fun na2 => ?_⟩⟩
    have s12 := s2.trans (same_new (o := Xco a (.ref C) (some dx)) na2)
    have hx3 : upd H2 a (Xco a (.ref C) (some dx)) dx = some (.xd [(("place" : Str), .int 0)]) := by
      rw [upd_ne (ne_of_none hx na2)]
      exact hx
    refine ⟨_, rfl, rfl, _, rfl, iteT ?_⟩
    refine ⟨_, rfl, .inl ⟨a, dx, _, rfl, upd_same, hx3, fun t H4 s4 ht => ?_⟩⟩
    replace ht : H4 t = some (.tup [.str ("rule" : Str), .int 0]) := ht
    refine ⟨(by show 2 ≤ sizeLine; decide), fun u nu => ?_⟩
    have d1 : Dp K (upd H4 u (.tup [.str ("rule" : Str), .int 0])) (.ref t) (.tuple [.str ("rule" : Str), .int 0]) := .tup (SqT.of ((same_new nu).at ht)) (.cons (.str _) (.cons (.int _) .nil))
    have d2 : Dp K (upd H4 u (.tup [.str ("rule" : Str), .int 0])) (.ref u) (.tuple [.str ("rule" : Str), .int 0]) := .tup (SqT.of upd_same) (.cons (.str _) (.cons (.int _) .nil))
    have sh := sh_two (s := "rule") (i := 0) (by decide +kernel)
    refine ⟨_, _, d1, d2, sh, sh, ?_⟩
    show Q (.bl (PyData.eqv _ _)) _
    rw [SeqAt.eqv_refl _ (SeqAt.canLay_of_shaped sh)]
    exact k _ (s12.trans (s4.trans (same_new nu)))
end
end Vk
namespace Vk
open PySem PySem.Spec PyProof.Rows L2 GxR
def f1 : Str := Txt.join "\n" (List.replicate 7 ("queue" : Str))
def f2 : Str := Txt.join "\n" (List.replicate 6 ("queue" : Str) ++ [("boost 1" : Str)])
def f3 : Str := Txt.join "\n" (List.replicate 6 ("stack" : Str))
def fixedL : List Str := ["", "\n", "boost 3", "boost 3\nqueue", "queue\n", "queue\nboost 3\nboost 3", "stack 0", "queue\nboost", f1, f2, f3]
theorem fixedL_len : ∀ s ∈ fixedL, s.length ≤ 49999 := by
  have z : (fixedL.all fun s => decide (s.length ≤ 49999)) = true := by decide +kernel
  intro s hs
  exact of_decide_eq_true (List.all_eq_true.mp z s hs)
theorem gd_of {d : PyData} (h : goodLv d) : gd d := by
  obtain ⟨k, q, rfl, hk, hq⟩ := h
  rcases hq with rfl | ⟨n, rfl, _, _⟩
  · exact ⟨k, none, rfl, (kind_mem hk).2⟩
  · exact ⟨k, some (n : Int), rfl, (kind_mem hk).2⟩
theorem shaped_pol {ls : List PyData} {b : PyData} (h : wrR ls b) : SeqAt.shaped (.tuple [.tuple ls, b]) = true := by
  obtain ⟨h1, hb, _, _⟩ := h
  have z := fun bo => shaped_rule (lev := ls) bo fun d hd => gd_of (h1 d hd)
  rcases hb with rfl | ⟨n, rfl, _, _⟩
  · exact z none
  · exact z (some (n : Int))
section
variable {P : Program} {w : World} {K : PySem.W.Frag} {mg : Str → Option Value} {base : Heap}
def spLaw (K : PySem.W.Frag) (T : Addr) : Sp := fun vs H Q _ => ∃ (a : Addr) (ns : List Int), vs = [.ref a] ∧ SqL K H a (ns.map V.int) ∧ ns.length ≤ 63 ∧ TabG H T ∧ ∀ H', Q (.bl true) H'
theorem scLaw : FnScope ["script", "store", "turn", "policy", "lines", "text", "k", "fixed"] ["script"] (defScope sLaw) := ⟨rfl, rfl, rfl, by decide +kernel, rfl, by decide +kernel, by decide +kernel⟩
theorem ok_law {f T C Ct : Addr} {fd : FuncData} (F : Fun K "law" "law" sLaw f fd) (B : Blt mg) (ST : Cl P w K mg base CX0 1 "_law_store" ["script"] (spStore K)) (GD : Cl P w K mg base CX0 3 "_law_good" ["store"] (spGood K))
    (RLn : Cl P w K mg base CX0 1 "_law_rule_lines" ["policy"] (spRuleLines K)) (SX : Cl P w K mg base CX0 4 "_law_spoilt" ["store", "lines"] (spSpoilt K)) (RT : Cl P w K mg base CX0 5 "_law_right" ["text"] (spRight T)) (LR : Cl P w K mg base CX0 6 "_law_list_right" ["policy"] (spListRight K))
    (SH : Cl P w K mg base (L2.CX P w) 5 "show_rule" ["rule"] (spShowRule K C)) (RD : Cl P w K mg base (L2.CX P w) 4 "read_rule" ["text"] (spReadRule K T Ct)) :
    FnOk P w K mg base (L2.CX P w) 7 f fd ["script"] (spLaw K T) := by
  refine F.okX scLaw (fun vs H Q E h => ?_) (fun cdv A outer s H vs Q E hr h => ?_)
  · obtain ⟨a, ns, rfl, _⟩ := h
    rfl
  · obtain ⟨a, ns, rfl, hS, hlen, tg, k⟩ := h
    obtain ⟨fS, fdS, mS, kpS, bS, FS⟩ := SH.ex
    obtain ⟨fR, fdR, mR, kpR, bR, FR'⟩ := RD.ex
    refine ⟨_, pss_cons (ps_set (i := 1) scLaw.nd rfl (Or.inl rfl) (pc ST hr (by decide) (pa_cons (pv 0) pa_nil)))
      (pss_cons (ps_for (passes_of rfl) rfl (pi_range1 rfl B.range (pa_cons pe_int pa_nil)) (pg_name (i := 2) scLaw.nd rfl (Or.inl rfl))
        (pss_cons (ps_set (i := 3) scLaw.nd rfl (Or.inl rfl) (pc GD hr (by decide) (pa_cons (pv 1) pa_nil)))
        (pss_cons (ps_set (i := 4) scLaw.nd rfl (Or.inl rfl) (pc RLn hr (by decide) (pa_cons (pv 3) pa_nil)))
        (pss_cons (ps_set (i := 5) scLaw.nd rfl (Or.inl rfl) (pe_join pe_str (pv 4)))
        (pss_cons (ps_if (PW.pt (pw_or (pt_cmpR op_ne (pe_call (E := E) FS (hr.mono (by decide)) rfl mS kpS bS .nil (passes_call (W := fun cls d _ H => E cls d H) (takes_of rfl rfl rfl rfl) (fun _ _ _ _ h => h)) (pa_cons (pv 3) pa_nil)) (pv 5) (nomark _))
            (pw_or (pt_not (pt_val (pc RT hr (by decide) (pa_cons (pv 5) pa_nil))))
            (pw_or1 (pt_cmpR (op_neD hr.units) (pe_call (E := E) FR' (hr.mono (by decide)) rfl mR kpR bR .nil (passes_call (W := fun cls d _ H => E cls d H) (takes_of rfl rfl rfl rfl) (fun _ _ _ _ h => h)) (pa_cons (pv 5) pa_nil)) (pv 3) (nomark _)))))) (pss_one (ps_ret pe_bl)) pss_nil)
        (pss_cons (ps_for (passes_of rfl) rfl (pi_range1 rfl B.range (pa_cons pe_int pa_nil)) (pg_name (i := 6) scLaw.nd rfl (Or.inl rfl))
          (pss_one (ps_if (pt_not (pt_val (pc RT hr (by decide) (pa_cons (pc SX hr (by decide) (pa_cons (pv 1) (pa_cons (pv 4) pa_nil))) pa_nil)))) (pss_one (ps_ret pe_bl)) pss_nil)))
        (pss_one (ps_if (PW.pt (pw_or (pt_not (pt_val (pc LR hr (by decide) (pa_cons (pe_callTy call_list_of (by rfl) B.list (by decide +kernel) (pa_cons (pv 3) pa_nil)) pa_nil))))
            (pw_or1 (pt_not (pt_val (pc LR hr (by decide) (pa_cons (pe_tup (pa_cons (pe_callTy call_list_of (by rfl) B.list (by decide +kernel) (pa_cons (pe_ix ix_tup (pv 3) pe_int (fun _ _ => rfl)) pa_nil)) (pa_cons (pe_ix ix_tup (pv 3) pe_int (fun _ _ => rfl)) pa_nil))) pa_nil))))))) (pss_one (ps_ret pe_bl)) pss_nil))))))))
      (pss_cons (ps_set (i := 7) scLaw.nd rfl (Or.inl rfl) (pe_lst (pa_cons pe_str (pa_cons pe_str (pa_cons pe_str (pa_cons pe_str (pa_cons pe_str (pa_cons pe_str (pa_cons pe_str (pa_cons pe_str pa_nil))))))))))
      (pss_cons (ps_set (i := 7) scLaw.nd rfl (Or.inl rfl) (pe_op op_cat (pv 7) (pe_lst (pa_cons (pe_join pe_str (pe_op op_rep (pe_lst (pa_cons pe_str pa_nil)) pe_int))
          (pa_cons (pe_join pe_str (pe_op op_cat (pe_op op_rep (pe_lst (pa_cons pe_str pa_nil)) pe_int) (pe_lst (pa_cons pe_str pa_nil)))) (pa_cons (pe_join pe_str (pe_op op_rep (pe_lst (pa_cons pe_str pa_nil)) pe_int)) pa_nil))))))
      (pss_one (ps_ret (pe_cmpR (op_eqNilL (Nat.lt_of_succ_lt (hu_of hr))) (pe_lc (own := [("text", 5)]) (g := gName 5) (by rfl) scLaw.nd (pi_list (pv 7)) (blkOk_by (own := [("text", 5)]) (N := ["script", "store", "turn", "policy", "lines", "text", "k", "fixed"]) (sc := defScope sLaw) (by decide +kernel)) (fun _ _ _ _ _ => pg_name (i := 5) scLaw.nd rfl (Or.inl rfl))
          (fun _ _ _ _ _ => pts_one (pt_not (pt_val (pc RT hr (by decide) (pa_cons (pv 5) pa_nil))))) (fun _ _ _ _ _ => pv 5)) (pe_lst pa_nil) (nomark _))))))), ?_⟩
    refine ⟨_, rfl, a, ns, rfl, hS, hlen, fun st sc H1 s1 nst S1 => ?_⟩
    have tg1 := s1.tab T tg
    refine ⟨4, rfl, by decide, by decide, ?_⟩
    refine for_range (lo := 0) (n := 4) (fun i σ G => ∃ (u2 u3 u4 u5 u6 : Option V), σ = [some (.ref a), some (.ref st), u2, u3, u4, u5, u6, none] ∧ Sto sc st (1000 * i) G ∧ TabG G T)
      ⟨none, none, none, none, none, rfl, S1.more (by omega), tg1⟩ ?_ ?_
    · rintro i σ G hi ⟨u2, u3, u4, u5, u6, rfl, SG, tG⟩
      refine ⟨_, rfl, st, sc, _, rfl, SG, by omega, fun v ls b G1 SG1 KG1 dv wr => ?_⟩
      have t1 := KG1.tab SG tG
      have dv1 : Dp K G1 v (.tuple [.tuple ls, b]) := dp_same (off_sub st G1) dv
      refine ⟨_, rfl, v, ls, b, rfl, dv1, wr, fun l G2 s2 nl hl => ?_⟩
      have lst : l ≠ st := SG1.ne nl
      have S2 := SG1.same s2
      refine ⟨⟨_, rfl⟩, _, rfl, _, l, rlines ls b, rfl, rfl, .inl (SqL.of hl), ?_, ?_⟩
      · rw [show ("\n" : Str).length = 1 from by decide +kernel, wt_sum]
        have := rlines_wt wr
        omega
      obtain ⟨rp, gh⟩ := rule_none wr
      have dv2 := dp_same s2 dv1
      have t2 := s2.tab T t1
      have ltx : (textR ls b).length ≤ 49999 := Nat.le_trans (textR_len wr) (by decide)
      refine ⟨_, rfl, v, _, rfl, dv2, gh, fun _ => ⟨ls, b, rfl, wr, fun G3 s3 => ?_⟩, fun p' e' => absurd (rp.symm.trans e') (fun z => nomatch z)⟩
      refine ⟨_, rfl, rfl, _, rfl, ?_⟩
      rw [show (!decide (V.str (textR ls b) = V.str (Txt.join "\n" (rlines ls b)))) = false from by rw [decide_eq_true (show V.str (textR ls b) = V.str (Txt.join "\n" (rlines ls b)) from rfl)]; rfl]
      refine iteF ⟨_, rfl, textR ls b, rfl, ltx, s3.tab T t2, fun G4 s4 => ⟨_, rfl, iteF ?_⟩⟩
      have s34 := s3.trans s4
      refine ⟨_, rfl, textR ls b, rfl, ltx, s34.tab T t2, fun i' e' => absurd ((due_back wr).symm.trans e') (fun z => nomatch z), fun lev b' e' v' G5 s5 dv' => ?_⟩
      have e2 := (due_back wr).symm.trans e'
      cases e2
      have s35 := s34.trans s5
      have dv5 := dp_same s35 dv2
      have sh := shaped_pol wr
      refine ⟨_, rfl, _, _, dv', dv5, sh, sh, _, rfl, ?_⟩
      rw [SeqAt.eqv_refl _ (SeqAt.canLay_of_shaped sh)]
      refine iteF ?_
      -- the three spoilt texts
      have S5 := S2.same s35
      refine ⟨3, rfl, by decide, by decide, ?_⟩
      refine for_range (lo := 0) (n := 3) (fun m σ G => ∃ (u2 u6 : Option V), σ = [some (.ref a), some (.ref st), u2, some v, some (.ref l), some (.str (Txt.join "\n" (rlines ls b))), u6, none] ∧ Sto sc st (1000 * i + 20 + 60 * m) G ∧ TabG G T ∧ Dp K (Off st G) v (.tuple [.tuple ls, b]) ∧ G l = some (.lst ((rlines ls b).map V.str)))
        ⟨_, _, rfl, S5.more (by omega), s35.tab T t2, dp_up (s2.trans s35) dv, s35.at hl⟩ ?_ ?_
      · rintro m σ G6 hm ⟨u2, u6, rfl, S6, t6, dv6, hl6⟩
        refine ⟨_, rfl, _, rfl, st, sc, l, _, rlines ls b, rfl, S6, by omega, SqL.of hl6, (rlines_len wr).1, Nat.le_trans (rlines_len wr).2 (by decide), fun s hs => Nat.le_trans (rlines_ok wr s hs).2 (by decide), fun t G7 S7 K7 lt => ?_⟩
        refine ⟨t, rfl, lt, K7.tab S6 t6, fun G8 s8 => ⟨_, rfl, iteF ?_⟩⟩
        exact ⟨_, _, rfl, (S7.same s8).more (by omega), s8.tab T (K7.tab S6 t6), dp_up s8 (dp_same K7 dv6), s8.at (K7.at hl6 lst)⟩
      · rintro σ G6 ⟨u2, u6, rfl, S6, t6, dv6, hl6⟩
        have dv6' : Dp K G6 v (.tuple [.tuple ls, b]) := dp_same (off_sub st G6) dv6
        obtain ⟨p, x, y, rfl, q, da, db⟩ := dp_two dv6'
        refine ⟨_, rfl, p, _, rfl, .inr q, fun r nr => ?_⟩
        have sr := same_new (o := .lst [x, y]) nr
        have dr : Dp K (upd G6 r (.lst [x, y])) (.ref r) (.list [.tuple ls, b]) := .lst (SqL.of upd_same) (.cons (dp_same sr da) (.cons (dp_same sr db) .nil))
        refine ⟨.ref r, _, rfl, dr, rfl, rfl, fun G7 s7 => ⟨_, rfl, iteF ?_⟩⟩
        have s67 := sr.trans s7
        obtain ⟨pl, xs, rfl, ql, rl⟩ := dp_tuple da
        refine ⟨_, rfl, p, _, 0, _, rfl, rfl, same_seqT s67 q, rfl, pl, xs, rfl, .inr (same_seqT s67 ql), fun t nt => ?_⟩
        have st' := same_new (o := .lst xs) nt
        have s68 := s67.trans st'
        refine ⟨_, rfl, p, _, 1, _, rfl, rfl, same_seqT s68 q, rfl, (by show 2 ≤ sizeLine; decide), fun z nz => ?_⟩
        have sz := same_new (o := .tup [.ref t, y]) nz
        have s69 := s68.trans sz
        have dt : Dp K (upd (upd G7 t (.lst xs)) z (.tup [.ref t, y])) (.ref z) (.tuple [.list ls, b]) := .tup (SqT.of upd_same) (.cons (.lst (SqL.of (sz.at upd_same)) (dps_same s69 rl)) (.cons (dp_same s69 db) .nil))
        refine ⟨.ref z, _, rfl, dt, rfl, rfl, fun G8 s8 => ⟨_, rfl, iteF ?_⟩⟩
        exact ⟨_, _, _, _, _, rfl, (S6.same (s69.trans s8)).more (by omega), (s69.trans s8).tab T t6⟩
    · rintro σ G ⟨u2, u3, u4, u5, u6, rfl, SG, tG⟩
      refine ⟨(by show 8 ≤ sizeLine; decide), fun q1 nq1 => ?_⟩
      have g1 := same_new (o := .lst ((fixedL.take 8).map V.str)) nq1
      refine ⟨_, rfl, ⟨_, rfl⟩, (by show 1 ≤ sizeLine; decide), fun r1 nr1 => ?_⟩
      have g2 := same_new (o := .lst [.str ("queue" : Str)]) nr1
      refine ⟨r1, _, _, rfl, rfl, upd_same, by decide, by decide, by decide, fun r2 nr2 => ?_⟩
      have g3 := same_new (o := .lst ((List.replicate 7 ("queue" : Str)).map V.str)) nr2
      refine ⟨_, r2, List.replicate 7 ("queue" : Str), rfl, rfl, .inl (SqL.of upd_same), by decide +kernel, ⟨_, rfl⟩, (by show 1 ≤ sizeLine; decide), fun r3 nr3 => ?_⟩
      have g4 := same_new (o := .lst [.str ("queue" : Str)]) nr3
      refine ⟨r3, _, _, rfl, rfl, upd_same, by decide, by decide, by decide, fun r4 nr4 => ?_⟩
      have g5 := same_new (o := .lst ((List.replicate 6 ("queue" : Str)).map V.str)) nr4
      refine ⟨(by show 1 ≤ sizeLine; decide), fun r5 nr5 => ?_⟩
      have g6 := same_new (o := .lst [.str ("boost 1" : Str)]) nr5
      refine ⟨r4, r5, _, _, rfl, rfl, g6.at upd_same, upd_same, by decide, fun r6 nr6 => ?_⟩
      have g7 := same_new (o := .lst ((List.replicate 6 ("queue" : Str) ++ [("boost 1" : Str)]).map V.str)) nr6
      refine ⟨_, r6, List.replicate 6 ("queue" : Str) ++ [("boost 1" : Str)], rfl, rfl, .inl (SqL.of upd_same), by decide +kernel, ⟨_, rfl⟩, (by show 1 ≤ sizeLine; decide), fun r7 nr7 => ?_⟩
      have g8 := same_new (o := .lst [.str ("stack" : Str)]) nr7
      refine ⟨r7, _, _, rfl, rfl, upd_same, by decide, by decide, by decide, fun r8 nr8 => ?_⟩
      have g9 := same_new (o := .lst ((List.replicate 6 ("stack" : Str)).map V.str)) nr8
      refine ⟨_, r8, List.replicate 6 ("stack" : Str), rfl, rfl, .inl (SqL.of upd_same), by decide +kernel, (by show 3 ≤ sizeLine; decide), fun r9 nr9 => ?_⟩
      have g10 := same_new (o := .lst ([f1, f2, f3].map V.str)) nr9
      have g210 := ((((((((g2.trans g3).trans g4).trans g5).trans g6).trans g7).trans g8).trans g9).trans g10)
      refine ⟨q1, r9, _, _, rfl, rfl, g210.at upd_same, upd_same, by decide, fun q nq => ?_⟩
      have sq := same_new (o := .lst (fixedL.map V.str)) nq
      have gAll := (g1.trans g210).trans sq
      have tAll := gAll.tab T tG
      refine ⟨_, rfl, q, rfl, ⟨_, SqL.of (xs := fixedL.map V.str) upd_same⟩, fun D nD => ?_⟩
      refine lc_it (walk_list (K := K) (a := q) (xs := fixedL.map V.str)) (fun m Hc => TabG Hc T ∧ Hc q = some (.lst (fixedL.map V.str)) ∧ Hc D = some (.lst []))
        ⟨(same_new nD).tab T tAll, (same_new nD).at upd_same, upd_same⟩ (fun m Hc _ ⟨_, s, _⟩ => SqL.of s) ?_ ?_
      · rintro m y1 Hc0 Hc hm ⟨tc, hq, hD⟩ ⟨rfl, hy1⟩
        rw [List.getElem?_map] at hy1
        obtain ⟨t, ht, rfl⟩ := Option.map_eq_some_iff.mp hy1
        have lt := fixedL_len t (List.mem_of_getElem? ht)
        exact ⟨rfl, _, rfl, t, rfl, lt, tc, fun Hd sd => ⟨_, rfl, iteF ⟨sd.tab T tc, sd.at hq, sd.at hD⟩⟩⟩
      · rintro Hc ⟨tc, hq, hD⟩
        refine ⟨(by show 0 ≤ sizeLine; decide), fun e ne => ?_⟩
        exact ⟨D, e, [], rfl, rfl, SqL.of ((same_new ne).at hD), SqL.of upd_same, k _⟩
end
end Vk
namespace Vk
open PySem PySem.Spec PyProof.Rows L2
theorem kit_same {K : PySem.W.Frag} {t : Value} : PySem.W.kitOne K t t = some true := by
  unfold PySem.W.kitOne
  rw [if_pos (beq_self_eq_true t)]
theorem kit_sub {K : PySem.W.Frag} {C D : Addr} (h1 : PySem.W.isClsIn K D = true) (h2 : PySem.W.typeIn K (.ref D) = some (.type "type")) (h3 : PySem.W.subIn K (.ref C) (.ref D) = some true) : PySem.W.kitOne K (.ref C) (.ref D) = some true := by
  unfold PySem.W.kitOne
  have e : ((PySem.W.clsIn K D).isSome && PySem.W.typeIn K (.ref D) == some (.type "type")) = true := by
    have h1' : (PySem.W.clsIn K D).isSome = true := h1
    rw [h1', h2]
    rfl
  by_cases z : (Value.ref C == Value.ref D) = true
  · rw [if_pos z]
  · rw [if_neg z]
    show (if ((PySem.W.clsIn K D).isSome && PySem.W.typeIn K (.ref D) == some (.type "type")) = true then PySem.W.subIn K (.ref C) (.ref D) else none) = _
    rw [if_pos e, h3]
theorem kit_ref {K : PySem.W.Frag} {C D : Addr} {b : Bool} (z : (Value.ref C == Value.ref D) = false) (h1 : PySem.W.isClsIn K D = true) (h2 : PySem.W.typeIn K (.ref D) = some (.type "type")) (h3 : PySem.W.subIn K (.ref C) (.ref D) = some b) : PySem.W.kitOne K (.ref C) (.ref D) = some b := by
  unfold PySem.W.kitOne
  have e : ((PySem.W.clsIn K D).isSome && PySem.W.typeIn K (.ref D) == some (.type "type")) = true := by
    have h1' : (PySem.W.clsIn K D).isSome = true := h1
    rw [h1', h2]
    rfl
  rw [if_neg (by rw [z]; exact Bool.false_ne_true)]
  show (if ((PySem.W.clsIn K D).isSome && PySem.W.typeIn K (.ref D) == some (.type "type")) = true then PySem.W.subIn K (.ref C) (.ref D) else none) = _
  rw [if_pos e, h3]
theorem kit_ve {K : PySem.W.Frag} {C : Addr} (h3 : PySem.W.subIn K (.ref C) (.type "ValueError") = some true) : PySem.W.kitOne K (.ref C) (.type "ValueError") = some true := by
  unfold PySem.W.kitOne
  have e : PySem.W.kitMeta "ValueError" = true := by decide +kernel
  rw [if_neg (by intro z; cases z)]
  show (if PySem.W.kitMeta "ValueError" = true then PySem.W.subIn K (.ref C) (.type "ValueError") else none) = _
  rw [if_pos e, h3]
end Vk
namespace Vk
open PySem PySem.Spec PyProof.Rows L2 GxR
/-- what the law needs of a head: the promise of its def, over the empty table of one code object -/
def LawTab (l : PySem.W.OpenLaw) (w : World) (K : PySem.W.Frag) (mg : Str → Option Value) (fa : Addr) : Prop := ∃ (fd : FuncData) (c P : Addr), PySem.W.tabIn K "read_number" = some (c, P) ∧ K.lookup P = none ∧
  (∀ (s : Shared) (u : Value), BindsTo s fd ⟨[u], []⟩ [("script", u)]) ∧ ∀ base : Heap, K.In base → base.Ns mainGlobals mg → TabB base mg c P → FnOk l.prog w K mg base (L2.CX l.prog w) 7 fa fd ["script"] (spLaw K P)

theorem all_mk {l : PySem.W.OpenLaw} {w : World} {K : PySem.W.Frag} {h : Heap} {mg : Str → Option Value} {fa : Addr} (X : K.In h) (G : h.Ns mainGlobals mg) (hfa : mg "law" = some (.ref fa))
    {f0 : Addr} {oc0 kV0 dc0 pm0 cd0 ct0 : Value} {od0 an0 : Option Addr} {sl0 : Array (Option Value)}
    {f1 : Addr} {oc1 kV1 dc1 pm1 cd1 ct1 : Value} {od1 an1 : Option Addr} {sl1 : Array (Option Value)}
    {f2 : Addr} {oc2 kV2 dc2 pm2 cd2 ct2 : Value} {od2 an2 : Option Addr} {sl2 : Array (Option Value)}
    {f3 : Addr} {oc3 kV3 dc3 pm3 cd3 ct3 : Value} {od3 an3 : Option Addr} {sl3 : Array (Option Value)}
    {f4 : Addr} {oc4 kV4 dc4 pm4 cd4 ct4 : Value} {od4 an4 : Option Addr} {sl4 : Array (Option Value)}
    {f5 : Addr} {oc5 kV5 dc5 pm5 cd5 ct5 : Value} {od5 an5 : Option Addr} {sl5 : Array (Option Value)}
    {f6 : Addr} {oc6 kV6 dc6 pm6 cd6 ct6 : Value} {od6 an6 : Option Addr} {sl6 : Array (Option Value)}
    {f7 : Addr} {oc7 kV7 dc7 pm7 cd7 ct7 : Value} {od7 an7 : Option Addr} {sl7 : Array (Option Value)}
    {f8 : Addr} {oc8 kV8 dc8 pm8 cd8 ct8 : Value} {od8 an8 : Option Addr} {sl8 : Array (Option Value)}
    {f9 : Addr} {oc9 kV9 dc9 pm9 cd9 ct9 : Value} {od9 an9 : Option Addr} {sl9 : Array (Option Value)}
    {f10 : Addr} {oc10 kV10 dc10 pm10 cd10 ct10 : Value} {od10 an10 : Option Addr} {sl10 : Array (Option Value)}
    {f11 : Addr} {oc11 kV11 dc11 pm11 cd11 ct11 : Value} {od11 an11 : Option Addr} {sl11 : Array (Option Value)}
    {f12 : Addr} {oc12 kV12 dc12 pm12 cd12 ct12 : Value} {od12 an12 : Option Addr} {sl12 : Array (Option Value)}
    {f13 : Addr} {oc13 kV13 dc13 pm13 cd13 ct13 : Value} {od13 an13 : Option Addr} {sl13 : Array (Option Value)}
    {f14 : Addr} {oc14 kV14 dc14 pm14 cd14 ct14 : Value} {od14 an14 : Option Addr} {sl14 : Array (Option Value)}
    {f15 : Addr} {oc15 kV15 dc15 pm15 cd15 ct15 : Value} {od15 an15 : Option Addr} {sl15 : Array (Option Value)}
    {f16 : Addr} {oc16 kV16 dc16 pm16 cd16 ct16 : Value} {od16 an16 : Option Addr} {sl16 : Array (Option Value)}
    {f17 : Addr} {oc17 kV17 dc17 pm17 cd17 ct17 : Value} {od17 an17 : Option Addr} {sl17 : Array (Option Value)}
    {f18 : Addr} {oc18 kV18 dc18 pm18 cd18 ct18 : Value} {od18 an18 : Option Addr} {sl18 : Array (Option Value)}
    {f19 : Addr} {oc19 kV19 dc19 pm19 cd19 ct19 : Value} {od19 an19 : Option Addr} {sl19 : Array (Option Value)}
    {f20 : Addr} {oc20 kV20 dc20 pm20 cd20 ct20 : Value} {od20 an20 : Option Addr} {sl20 : Array (Option Value)}
    {f21 : Addr} {oc21 kV21 dc21 pm21 cd21 ct21 : Value} {od21 an21 : Option Addr} {sl21 : Array (Option Value)}
    {f22 : Addr} {oc22 kV22 dc22 pm22 cd22 ct22 : Value} {od22 an22 : Option Addr} {sl22 : Array (Option Value)}
    {f23 : Addr} {oc23 kV23 dc23 pm23 cd23 ct23 : Value} {od23 an23 : Option Addr} {sl23 : Array (Option Value)}
    {f24 : Addr} {oc24 kV24 dc24 pm24 cd24 ct24 : Value} {od24 an24 : Option Addr} {sl24 : Array (Option Value)}
    {S : Addr}
    {E0 : Addr}
    {E1 : Addr}
    {E2 : Addr}
    {E3 : Addr}
    {E4 : Addr}
    {E5 : Addr}
    {E6 : Addr}
    {E7 : Addr}
    {E8 : Addr}
    {E9 : Addr}
    {E10 : Addr}
    {E11 : Addr}
    {fI1 : Addr} {nm1 q1 : Str} {N1 : Addr} {bs1 sb1 : List Value} {sn1 : List Str} {ab1 : Bool} {col1 : Option Bool} {dd1 : Option Addr} {m01 m11 m21 m31 m51 : Option Value} {ocI1 kVI1 dcI1 pmI1 cdI1 ctI1 : Value} {odI1 anI1 : Option Addr} {slI1 : Array (Option Value)}
    {fI7 : Addr} {nm7 q7 : Str} {N7 : Addr} {bs7 sb7 : List Value} {sn7 : List Str} {ab7 : Bool} {col7 : Option Bool} {dd7 : Option Addr} {m07 m17 m27 m37 m57 : Option Value} {ocI7 kVI7 dcI7 pmI7 cdI7 ctI7 : Value} {odI7 anI7 : Option Addr} {slI7 : Array (Option Value)}
    {fO cO PO : Addr} {ocO kVO dcO pmO ctO eO : Value} {odO anO ddO : Option Addr} {slO scO : Array (Option Value)} {vsO : Array Value} {tMD : Tok}
    {tML : Tok}
    (a0 : PySem.W.nsIn K mainGlobals "is_integer" = some (some (.ref f0)))
    (l0 : K.lookup f0 = some ⟨oc0, od0, .func (PySem.W.fnOf "is_integer" "is_integer" (defArgs sInteger) (defBody sInteger) (defScope sInteger) .none kV0 dc0 pm0 an0 cd0 ct0), sl0⟩)
    (c0 : PySem.W.codeIn K cd0 "is_integer" = true)
    (k0 : PySem.W.keepIn K (.ref f0) = true)
    (a1 : PySem.W.nsIn K mainGlobals "is_tuple_of" = some (some (.ref f1)))
    (l1 : K.lookup f1 = some ⟨oc1, od1, .func (PySem.W.fnOf "is_tuple_of" "is_tuple_of" (defArgs sTupleOf) (defBody sTupleOf) (defScope sTupleOf) .none kV1 dc1 pm1 an1 cd1 ct1), sl1⟩)
    (c1 : PySem.W.codeIn K cd1 "is_tuple_of" = true)
    (k1 : PySem.W.keepIn K (.ref f1) = true)
    (a2 : PySem.W.nsIn K mainGlobals "check_rule" = some (some (.ref f2)))
    (l2 : K.lookup f2 = some ⟨oc2, od2, .func (PySem.W.fnOf "check_rule" "check_rule" (defArgs sCheck) (defBody sCheck) (defScope sCheck) .none kV2 dc2 pm2 an2 cd2 ct2), sl2⟩)
    (c2 : PySem.W.codeIn K cd2 "check_rule" = true)
    (k2 : PySem.W.keepIn K (.ref f2) = true)
    (a3 : PySem.W.nsIn K mainGlobals "is_level" = some (some (.ref f3)))
    (l3 : K.lookup f3 = some ⟨oc3, od3, .func (PySem.W.fnOf "is_level" "is_level" (defArgs sLevel) (defBody sLevel) (defScope sLevel) .none kV3 dc3 pm3 an3 cd3 ct3), sl3⟩)
    (c3 : PySem.W.codeIn K cd3 "is_level" = true)
    (k3 : PySem.W.keepIn K (.ref f3) = true)
    (a4 : PySem.W.nsIn K mainGlobals "is_count" = some (some (.ref f4)))
    (l4 : K.lookup f4 = some ⟨oc4, od4, .func (PySem.W.fnOf "is_count" "is_count" (defArgs sCount) (defBody sCount) (defScope sCount) .none kV4 dc4 pm4 an4 cd4 ct4), sl4⟩)
    (c4 : PySem.W.codeIn K cd4 "is_count" = true)
    (k4 : PySem.W.keepIn K (.ref f4) = true)
    (a5 : PySem.W.nsIn K mainGlobals "show_rule" = some (some (.ref f5)))
    (l5 : K.lookup f5 = some ⟨oc5, od5, .func (PySem.W.fnOf "show_rule" "show_rule" (defArgs sShowRule) (defBody sShowRule) (defScope sShowRule) .none kV5 dc5 pm5 an5 cd5 ct5), sl5⟩)
    (c5 : PySem.W.codeIn K cd5 "show_rule" = true)
    (k5 : PySem.W.keepIn K (.ref f5) = true)
    (a6 : PySem.W.nsIn K mainGlobals "show_count" = some (some (.ref f6)))
    (l6 : K.lookup f6 = some ⟨oc6, od6, .func (PySem.W.fnOf "show_count" "show_count" (defArgs sShowCount) (defBody sShowCount) (defScope sShowCount) .none kV6 dc6 pm6 an6 cd6 ct6), sl6⟩)
    (c6 : PySem.W.codeIn K cd6 "show_count" = true)
    (k6 : PySem.W.keepIn K (.ref f6) = true)
    (a7 : PySem.W.nsIn K mainGlobals "read_rule" = some (some (.ref f7)))
    (l7 : K.lookup f7 = some ⟨oc7, od7, .func (PySem.W.fnOf "read_rule" "read_rule" (defArgs sReadRule) (defBody sReadRule) (defScope sReadRule) .none kV7 dc7 pm7 an7 cd7 ct7), sl7⟩)
    (c7 : PySem.W.codeIn K cd7 "read_rule" = true)
    (k7 : PySem.W.keepIn K (.ref f7) = true)
    (a8 : PySem.W.nsIn K mainGlobals "read_boost" = some (some (.ref f8)))
    (l8 : K.lookup f8 = some ⟨oc8, od8, .func (PySem.W.fnOf "read_boost" "read_boost" (defArgs sReadBoost) (defBody sReadBoost) (defScope sReadBoost) .none kV8 dc8 pm8 an8 cd8 ct8), sl8⟩)
    (c8 : PySem.W.codeIn K cd8 "read_boost" = true)
    (k8 : PySem.W.keepIn K (.ref f8) = true)
    (a9 : PySem.W.nsIn K mainGlobals "read_level" = some (some (.ref f9)))
    (l9 : K.lookup f9 = some ⟨oc9, od9, .func (PySem.W.fnOf "read_level" "read_level" (defArgs sReadLevel) (defBody sReadLevel) (defScope sReadLevel) .none kV9 dc9 pm9 an9 cd9 ct9), sl9⟩)
    (c9 : PySem.W.codeIn K cd9 "read_level" = true)
    (k9 : PySem.W.keepIn K (.ref f9) = true)
    (a10 : PySem.W.nsIn K mainGlobals "read_count" = some (some (.ref f10)))
    (l10 : K.lookup f10 = some ⟨oc10, od10, .func (PySem.W.fnOf "read_count" "read_count" (defArgs sReadCount) (defBody sReadCount) (defScope sReadCount) .none kV10 dc10 pm10 an10 cd10 ct10), sl10⟩)
    (c10 : PySem.W.codeIn K cd10 "read_count" = true)
    (k10 : PySem.W.keepIn K (.ref f10) = true)
    (a11 : PySem.W.nsIn K mainGlobals "_law_mix" = some (some (.ref f11)))
    (l11 : K.lookup f11 = some ⟨oc11, od11, .func (PySem.W.fnOf "_law_mix" "_law_mix" (defArgs sMix) (defBody sMix) (defScope sMix) .none kV11 dc11 pm11 an11 cd11 ct11), sl11⟩)
    (c11 : PySem.W.codeIn K cd11 "_law_mix" = true)
    (k11 : PySem.W.keepIn K (.ref f11) = true)
    (a12 : PySem.W.nsIn K mainGlobals "_law_store" = some (some (.ref f12)))
    (l12 : K.lookup f12 = some ⟨oc12, od12, .func (PySem.W.fnOf "_law_store" "_law_store" (defArgs sStore) (defBody sStore) (defScope sStore) .none kV12 dc12 pm12 an12 cd12 ct12), sl12⟩)
    (c12 : PySem.W.codeIn K cd12 "_law_store" = true)
    (k12 : PySem.W.keepIn K (.ref f12) = true)
    (a13 : PySem.W.nsIn K mainGlobals "_law_pick" = some (some (.ref f13)))
    (l13 : K.lookup f13 = some ⟨oc13, od13, .func (PySem.W.fnOf "_law_pick" "_law_pick" (defArgs sPick) (defBody sPick) (defScope sPick) .none kV13 dc13 pm13 an13 cd13 ct13), sl13⟩)
    (c13 : PySem.W.codeIn K cd13 "_law_pick" = true)
    (k13 : PySem.W.keepIn K (.ref f13) = true)
    (a14 : PySem.W.nsIn K mainGlobals "_law_kind" = some (some (.ref f14)))
    (l14 : K.lookup f14 = some ⟨oc14, od14, .func (PySem.W.fnOf "_law_kind" "_law_kind" (defArgs sKind) (defBody sKind) (defScope sKind) .none kV14 dc14 pm14 an14 cd14 ct14), sl14⟩)
    (c14 : PySem.W.codeIn K cd14 "_law_kind" = true)
    (k14 : PySem.W.keepIn K (.ref f14) = true)
    (a15 : PySem.W.nsIn K mainGlobals "_law_number" = some (some (.ref f15)))
    (l15 : K.lookup f15 = some ⟨oc15, od15, .func (PySem.W.fnOf "_law_number" "_law_number" (defArgs sNumberL) (defBody sNumberL) (defScope sNumberL) .none kV15 dc15 pm15 an15 cd15 ct15), sl15⟩)
    (c15 : PySem.W.codeIn K cd15 "_law_number" = true)
    (k15 : PySem.W.keepIn K (.ref f15) = true)
    (a16 : PySem.W.nsIn K mainGlobals "_law_rule_lines" = some (some (.ref f16)))
    (l16 : K.lookup f16 = some ⟨oc16, od16, .func (PySem.W.fnOf "_law_rule_lines" "_law_rule_lines" (defArgs sRuleLines) (defBody sRuleLines) (defScope sRuleLines) .none kV16 dc16 pm16 an16 cd16 ct16), sl16⟩)
    (c16 : PySem.W.codeIn K cd16 "_law_rule_lines" = true)
    (k16 : PySem.W.keepIn K (.ref f16) = true)
    (a17 : PySem.W.nsIn K mainGlobals "_law_good" = some (some (.ref f17)))
    (l17 : K.lookup f17 = some ⟨oc17, od17, .func (PySem.W.fnOf "_law_good" "_law_good" (defArgs sGood) (defBody sGood) (defScope sGood) .none kV17 dc17 pm17 an17 cd17 ct17), sl17⟩)
    (c17 : PySem.W.codeIn K cd17 "_law_good" = true)
    (k17 : PySem.W.keepIn K (.ref f17) = true)
    (a18 : PySem.W.nsIn K mainGlobals "_law_words_read" = some (some (.ref f18)))
    (l18 : K.lookup f18 = some ⟨oc18, od18, .func (PySem.W.fnOf "_law_words_read" "_law_words_read" (defArgs sWordsRead) (defBody sWordsRead) (defScope sWordsRead) .none kV18 dc18 pm18 an18 cd18 ct18), sl18⟩)
    (c18 : PySem.W.codeIn K cd18 "_law_words_read" = true)
    (k18 : PySem.W.keepIn K (.ref f18) = true)
    (a19 : PySem.W.nsIn K mainGlobals "_law_due" = some (some (.ref f19)))
    (l19 : K.lookup f19 = some ⟨oc19, od19, .func (PySem.W.fnOf "_law_due" "_law_due" (defArgs sDue) (defBody sDue) (defScope sDue) .none kV19 dc19 pm19 an19 cd19 ct19), sl19⟩)
    (c19 : PySem.W.codeIn K cd19 "_law_due" = true)
    (k19 : PySem.W.keepIn K (.ref f19) = true)
    (a20 : PySem.W.nsIn K mainGlobals "_law_spoilt_line" = some (some (.ref f20)))
    (l20 : K.lookup f20 = some ⟨oc20, od20, .func (PySem.W.fnOf "_law_spoilt_line" "_law_spoilt_line" (defArgs sSpoiltLine) (defBody sSpoiltLine) (defScope sSpoiltLine) .none kV20 dc20 pm20 an20 cd20 ct20), sl20⟩)
    (c20 : PySem.W.codeIn K cd20 "_law_spoilt_line" = true)
    (k20 : PySem.W.keepIn K (.ref f20) = true)
    (a21 : PySem.W.nsIn K mainGlobals "_law_spoilt" = some (some (.ref f21)))
    (l21 : K.lookup f21 = some ⟨oc21, od21, .func (PySem.W.fnOf "_law_spoilt" "_law_spoilt" (defArgs sSpoilt) (defBody sSpoilt) (defScope sSpoilt) .none kV21 dc21 pm21 an21 cd21 ct21), sl21⟩)
    (c21 : PySem.W.codeIn K cd21 "_law_spoilt" = true)
    (k21 : PySem.W.keepIn K (.ref f21) = true)
    (a22 : PySem.W.nsIn K mainGlobals "_law_right" = some (some (.ref f22)))
    (l22 : K.lookup f22 = some ⟨oc22, od22, .func (PySem.W.fnOf "_law_right" "_law_right" (defArgs sRight) (defBody sRight) (defScope sRight) .none kV22 dc22 pm22 an22 cd22 ct22), sl22⟩)
    (c22 : PySem.W.codeIn K cd22 "_law_right" = true)
    (k22 : PySem.W.keepIn K (.ref f22) = true)
    (a23 : PySem.W.nsIn K mainGlobals "_law_list_right" = some (some (.ref f23)))
    (l23 : K.lookup f23 = some ⟨oc23, od23, .func (PySem.W.fnOf "_law_list_right" "_law_list_right" (defArgs sListRight) (defBody sListRight) (defScope sListRight) .none kV23 dc23 pm23 an23 cd23 ct23), sl23⟩)
    (c23 : PySem.W.codeIn K cd23 "_law_list_right" = true)
    (k23 : PySem.W.keepIn K (.ref f23) = true)
    (a24 : PySem.W.nsIn K mainGlobals "law" = some (some (.ref f24)))
    (l24 : K.lookup f24 = some ⟨oc24, od24, .func (PySem.W.fnOf "law" "law" (defArgs sLaw) (defBody sLaw) (defScope sLaw) .none kV24 dc24 pm24 an24 cd24 ct24), sl24⟩)
    (c24 : PySem.W.codeIn K cd24 "law" = true)
    (k24 : PySem.W.keepIn K (.ref f24) = true)
    (z_len : PySem.W.nsIn K mainGlobals "len" = some none)
    (z_isinstance : PySem.W.nsIn K mainGlobals "isinstance" = some none)
    (z_int : PySem.W.nsIn K mainGlobals "int" = some none)
    (z_bool : PySem.W.nsIn K mainGlobals "bool" = some none)
    (z_tuple : PySem.W.nsIn K mainGlobals "tuple" = some none)
    (z_str : PySem.W.nsIn K mainGlobals "str" = some none)
    (z_range : PySem.W.nsIn K mainGlobals "range" = some none)
    (z_enumerate : PySem.W.nsIn K mainGlobals "enumerate" = some none)
    (z_list : PySem.W.nsIn K mainGlobals "list" = some none)
    (z_all : PySem.W.nsIn K mainGlobals "all" = some none)
    (aS : PySem.W.nsIn K mainGlobals "SlotError" = some (some (.ref S)))
    (iS : PySem.W.isClsIn K S = true)
    (hS : PySem.W.hasDictIn K S = true)
    (tS : PySem.W.typeIn K (.ref S) = some (.type "type"))
    (eS : PySem.W.subIn K (.ref S) (.type "BaseException") = some true)
    (spG : PySem.W.specialIn K (.builtin "object.__class__") "__get__" = some (some (.builtin "getset_descriptor.__get__")))
    (tkG : PySem.W.takesIn K (.builtin "object.__class__") = some true)
    (zVE : PySem.W.nsIn K mainGlobals "ValueError" = some none)
    (aE0 : PySem.W.nsIn K mainGlobals "NoJobs" = some (some (.ref E0)))
    (iE0 : PySem.W.isClsIn K E0 = true)
    (tE0 : PySem.W.typeIn K (.ref E0) = some (.type "type"))
    (aE1 : PySem.W.nsIn K mainGlobals "NoRule" = some (some (.ref E1)))
    (iE1 : PySem.W.isClsIn K E1 = true)
    (tE1 : PySem.W.typeIn K (.ref E1) = some (.type "type"))
    (aE2 : PySem.W.nsIn K mainGlobals "NoLengths" = some (some (.ref E2)))
    (iE2 : PySem.W.isClsIn K E2 = true)
    (tE2 : PySem.W.typeIn K (.ref E2) = some (.type "type"))
    (aE3 : PySem.W.nsIn K mainGlobals "NoLog" = some (some (.ref E3)))
    (iE3 : PySem.W.isClsIn K E3 = true)
    (tE3 : PySem.W.typeIn K (.ref E3) = some (.type "type"))
    (aE4 : PySem.W.nsIn K mainGlobals "NoMarks" = some (some (.ref E4)))
    (iE4 : PySem.W.isClsIn K E4 = true)
    (tE4 : PySem.W.typeIn K (.ref E4) = some (.type "type"))
    (aE5 : PySem.W.nsIn K mainGlobals "NoNamed" = some (some (.ref E5)))
    (iE5 : PySem.W.isClsIn K E5 = true)
    (tE5 : PySem.W.typeIn K (.ref E5) = some (.type "type"))
    (aE6 : PySem.W.nsIn K mainGlobals "NoOrder" = some (some (.ref E6)))
    (iE6 : PySem.W.isClsIn K E6 = true)
    (tE6 : PySem.W.typeIn K (.ref E6) = some (.type "type"))
    (aE7 : PySem.W.nsIn K mainGlobals "NoText" = some (some (.ref E7)))
    (iE7 : PySem.W.isClsIn K E7 = true)
    (tE7 : PySem.W.typeIn K (.ref E7) = some (.type "type"))
    (aE8 : PySem.W.nsIn K mainGlobals "NoNumber" = some (some (.ref E8)))
    (iE8 : PySem.W.isClsIn K E8 = true)
    (tE8 : PySem.W.typeIn K (.ref E8) = some (.type "type"))
    (aE9 : PySem.W.nsIn K mainGlobals "NoName" = some (some (.ref E9)))
    (iE9 : PySem.W.isClsIn K E9 = true)
    (tE9 : PySem.W.typeIn K (.ref E9) = some (.type "type"))
    (aE10 : PySem.W.nsIn K mainGlobals "NoUndo" = some (some (.ref E10)))
    (iE10 : PySem.W.isClsIn K E10 = true)
    (tE10 : PySem.W.typeIn K (.ref E10) = some (.type "type"))
    (aE11 : PySem.W.nsIn K mainGlobals "NoLine" = some (some (.ref E11)))
    (iE11 : PySem.W.isClsIn K E11 = true)
    (tE11 : PySem.W.typeIn K (.ref E11) = some (.type "type"))
    (x1_ : K.lookup E1 = some (excClassObj nm1 q1 E1 N1 bs1 [.ref S, .type "ValueError", .type "Exception", .type "BaseException", .type "object"] true sn1 sb1 ab1 col1 dd1 m01 m11 m21 m31 m51 "ValueError.__new__"))
    (sa1 : PySem.W.findIn K (.ref E1) "__setattr__" = some (some (.builtin "object.__setattr__")))
    (ga1 : PySem.W.findIn K (.ref E1) "__getattribute__" = some (some (.builtin "BaseException.__getattribute__")))
    (gg1 : PySem.W.findIn K (.ref E1) "__getattr__" = some none)
    (np1 : PySem.W.findIn K (.ref E1) "place" = some none)
    (in1 : PySem.W.findIn K (.ref E1) "__init__" = some (some (.ref fI1)))
    (ti1 : PySem.W.typeIn K (.ref fI1) = some (.type "function"))
    (li1 : K.lookup fI1 = some ⟨ocI1, odI1, .func (PySem.W.fnOf "__init__" "NoRule.__init__" (defArgs sRuleInit) (defBody sRuleInit) (defScope sRuleInit) .none kVI1 dcI1 pmI1 anI1 cdI1 ctI1), slI1⟩)
    (ci1 : PySem.W.codeIn K cdI1 "NoRule.__init__" = true)
    (ki1 : PySem.W.keepIn K (.ref fI1) = true)
    (kc1 : PySem.W.keepIn K (.ref E1) = true)
    (ec1 : PySem.W.subIn K (.ref E1) (.type "BaseException") = some true)
    (hc1 : PySem.W.hasDictIn K E1 = true)
    (cc1 : PySem.W.findIn K (.ref E1) "__class__" = some (some (.builtin "object.__class__")))
    (mc1 : PySem.W.mroIn K E1 (.type "object") = some true)
    (vc1 : PySem.W.subIn K (.ref E1) (.type "ValueError") = some true)
    (sc1 : PySem.W.subIn K (.ref E1) (.ref S) = some true)
    (s1_0 : PySem.W.subIn K (.ref E1) (.ref E0) = some false)
    (n1_0 : (Value.ref E1 == Value.ref E0) = false)
    (s1_2 : PySem.W.subIn K (.ref E1) (.ref E2) = some false)
    (n1_2 : (Value.ref E1 == Value.ref E2) = false)
    (s1_3 : PySem.W.subIn K (.ref E1) (.ref E3) = some false)
    (n1_3 : (Value.ref E1 == Value.ref E3) = false)
    (s1_4 : PySem.W.subIn K (.ref E1) (.ref E4) = some false)
    (n1_4 : (Value.ref E1 == Value.ref E4) = false)
    (s1_5 : PySem.W.subIn K (.ref E1) (.ref E5) = some false)
    (n1_5 : (Value.ref E1 == Value.ref E5) = false)
    (s1_6 : PySem.W.subIn K (.ref E1) (.ref E6) = some false)
    (n1_6 : (Value.ref E1 == Value.ref E6) = false)
    (s1_7 : PySem.W.subIn K (.ref E1) (.ref E7) = some false)
    (n1_7 : (Value.ref E1 == Value.ref E7) = false)
    (s1_8 : PySem.W.subIn K (.ref E1) (.ref E8) = some false)
    (n1_8 : (Value.ref E1 == Value.ref E8) = false)
    (s1_9 : PySem.W.subIn K (.ref E1) (.ref E9) = some false)
    (n1_9 : (Value.ref E1 == Value.ref E9) = false)
    (s1_10 : PySem.W.subIn K (.ref E1) (.ref E10) = some false)
    (n1_10 : (Value.ref E1 == Value.ref E10) = false)
    (s1_11 : PySem.W.subIn K (.ref E1) (.ref E11) = some false)
    (n1_11 : (Value.ref E1 == Value.ref E11) = false)
    (x7_ : K.lookup E7 = some (excClassObj nm7 q7 E7 N7 bs7 [.ref S, .type "ValueError", .type "Exception", .type "BaseException", .type "object"] true sn7 sb7 ab7 col7 dd7 m07 m17 m27 m37 m57 "ValueError.__new__"))
    (sa7 : PySem.W.findIn K (.ref E7) "__setattr__" = some (some (.builtin "object.__setattr__")))
    (ga7 : PySem.W.findIn K (.ref E7) "__getattribute__" = some (some (.builtin "BaseException.__getattribute__")))
    (gg7 : PySem.W.findIn K (.ref E7) "__getattr__" = some none)
    (np7 : PySem.W.findIn K (.ref E7) "row" = some none)
    (npp7 : PySem.W.findIn K (.ref E7) "place" = some none)
    (in7 : PySem.W.findIn K (.ref E7) "__init__" = some (some (.ref fI7)))
    (ti7 : PySem.W.typeIn K (.ref fI7) = some (.type "function"))
    (li7 : K.lookup fI7 = some ⟨ocI7, odI7, .func (PySem.W.fnOf "__init__" "NoText.__init__" (defArgs sTextInit) (defBody sTextInit) (defScope sTextInit) .none kVI7 dcI7 pmI7 anI7 cdI7 ctI7), slI7⟩)
    (ci7 : PySem.W.codeIn K cdI7 "NoText.__init__" = true)
    (ki7 : PySem.W.keepIn K (.ref fI7) = true)
    (kc7 : PySem.W.keepIn K (.ref E7) = true)
    (ec7 : PySem.W.subIn K (.ref E7) (.type "BaseException") = some true)
    (hc7 : PySem.W.hasDictIn K E7 = true)
    (cc7 : PySem.W.findIn K (.ref E7) "__class__" = some (some (.builtin "object.__class__")))
    (mc7 : PySem.W.mroIn K E7 (.type "object") = some true)
    (vc7 : PySem.W.subIn K (.ref E7) (.type "ValueError") = some true)
    (sc7 : PySem.W.subIn K (.ref E7) (.ref S) = some true)
    (s7_0 : PySem.W.subIn K (.ref E7) (.ref E0) = some false)
    (n7_0 : (Value.ref E7 == Value.ref E0) = false)
    (s7_1 : PySem.W.subIn K (.ref E7) (.ref E1) = some false)
    (n7_1 : (Value.ref E7 == Value.ref E1) = false)
    (s7_2 : PySem.W.subIn K (.ref E7) (.ref E2) = some false)
    (n7_2 : (Value.ref E7 == Value.ref E2) = false)
    (s7_3 : PySem.W.subIn K (.ref E7) (.ref E3) = some false)
    (n7_3 : (Value.ref E7 == Value.ref E3) = false)
    (s7_4 : PySem.W.subIn K (.ref E7) (.ref E4) = some false)
    (n7_4 : (Value.ref E7 == Value.ref E4) = false)
    (s7_5 : PySem.W.subIn K (.ref E7) (.ref E5) = some false)
    (n7_5 : (Value.ref E7 == Value.ref E5) = false)
    (s7_6 : PySem.W.subIn K (.ref E7) (.ref E6) = some false)
    (n7_6 : (Value.ref E7 == Value.ref E6) = false)
    (s7_8 : PySem.W.subIn K (.ref E7) (.ref E8) = some false)
    (n7_8 : (Value.ref E7 == Value.ref E8) = false)
    (s7_9 : PySem.W.subIn K (.ref E7) (.ref E9) = some false)
    (n7_9 : (Value.ref E7 == Value.ref E9) = false)
    (s7_10 : PySem.W.subIn K (.ref E7) (.ref E10) = some false)
    (n7_10 : (Value.ref E7 == Value.ref E10) = false)
    (s7_11 : PySem.W.subIn K (.ref E7) (.ref E11) = some false)
    (n7_11 : (Value.ref E7 == Value.ref E11) = false)
    (aO : PySem.W.nsIn K mainGlobals "read_number" = some (some (.ref fO)))
    (lO : K.lookup fO = some ⟨ocO, odO, .func (PySem.W.fnOf "read_number" "read_number" (defArgs sReadNumber) (defBody sReadNumber) (defScope sReadNumber) .none kVO dcO pmO anO (.ref cO) ctO), slO⟩)
    (cOf : PySem.W.codeIn K (.ref cO) "read_number" = true)
    (kOf : PySem.W.keepIn K (.ref fO) = true)
    (hcO : K.lookup cO = some ⟨eO, ddO, .fields vsO, scO⟩)
    (hvO : (vsO[11]? : Option Value) = some (.ref PO))
    (nPO : K.lookup PO = none)
    (aMD : PySem.W.nsIn K mainGlobals "MOST_DIGITS" = some (some (.int 31 tMD)))
    (aML : PySem.W.nsIn K mainGlobals "MOST_LEVELS" = some (some (.int 6 tML)))
    : LawTab l w K mg fa := by
  have D0 : Df K mg "is_integer" sInteger ["value", "least"] := by
    have F := fun_mk (st := sInteger) l0 c0 k0
    exact ⟨_, _, PySem.W.mg_of X G a0, F, F.binds (ps := ["value", "least"]) fun _ _ _ _ _ _ us hl => match us, hl with | [_, _], _ => rfl⟩
  have D1 : Df K mg "is_tuple_of" sTupleOf ["value", "many"] := by
    have F := fun_mk (st := sTupleOf) l1 c1 k1
    exact ⟨_, _, PySem.W.mg_of X G a1, F, F.binds (ps := ["value", "many"]) fun _ _ _ _ _ _ us hl => match us, hl with | [_, _], _ => rfl⟩
  have D2 : Df K mg "check_rule" sCheck ["rule"] := by
    have F := fun_mk (st := sCheck) l2 c2 k2
    exact ⟨_, _, PySem.W.mg_of X G a2, F, F.binds (ps := ["rule"]) fun _ _ _ _ _ _ us hl => match us, hl with | [_], _ => rfl⟩
  have D3 : Df K mg "is_level" sLevel ["level"] := by
    have F := fun_mk (st := sLevel) l3 c3 k3
    exact ⟨_, _, PySem.W.mg_of X G a3, F, F.binds (ps := ["level"]) fun _ _ _ _ _ _ us hl => match us, hl with | [_], _ => rfl⟩
  have D4 : Df K mg "is_count" sCount ["value"] := by
    have F := fun_mk (st := sCount) l4 c4 k4
    exact ⟨_, _, PySem.W.mg_of X G a4, F, F.binds (ps := ["value"]) fun _ _ _ _ _ _ us hl => match us, hl with | [_], _ => rfl⟩
  have D5 : Df K mg "show_rule" sShowRule ["rule"] := by
    have F := fun_mk (st := sShowRule) l5 c5 k5
    exact ⟨_, _, PySem.W.mg_of X G a5, F, F.binds (ps := ["rule"]) fun _ _ _ _ _ _ us hl => match us, hl with | [_], _ => rfl⟩
  have D6 : Df K mg "show_count" sShowCount ["word", "number"] := by
    have F := fun_mk (st := sShowCount) l6 c6 k6
    exact ⟨_, _, PySem.W.mg_of X G a6, F, F.binds (ps := ["word", "number"]) fun _ _ _ _ _ _ us hl => match us, hl with | [_, _], _ => rfl⟩
  have D7 : Df K mg "read_rule" sReadRule ["text"] := by
    have F := fun_mk (st := sReadRule) l7 c7 k7
    exact ⟨_, _, PySem.W.mg_of X G a7, F, F.binds (ps := ["text"]) fun _ _ _ _ _ _ us hl => match us, hl with | [_], _ => rfl⟩
  have D8 : Df K mg "read_boost" sReadBoost ["line"] := by
    have F := fun_mk (st := sReadBoost) l8 c8 k8
    exact ⟨_, _, PySem.W.mg_of X G a8, F, F.binds (ps := ["line"]) fun _ _ _ _ _ _ us hl => match us, hl with | [_], _ => rfl⟩
  have D9 : Df K mg "read_level" sReadLevel ["line", "row"] := by
    have F := fun_mk (st := sReadLevel) l9 c9 k9
    exact ⟨_, _, PySem.W.mg_of X G a9, F, F.binds (ps := ["line", "row"]) fun _ _ _ _ _ _ us hl => match us, hl with | [_, _], _ => rfl⟩
  have D10 : Df K mg "read_count" sReadCount ["words"] := by
    have F := fun_mk (st := sReadCount) l10 c10 k10
    exact ⟨_, _, PySem.W.mg_of X G a10, F, F.binds (ps := ["words"]) fun _ _ _ _ _ _ us hl => match us, hl with | [_], _ => rfl⟩
  have D11 : Df K mg "_law_mix" sMix ["number", "turn"] := by
    have F := fun_mk (st := sMix) l11 c11 k11
    exact ⟨_, _, PySem.W.mg_of X G a11, F, F.binds (ps := ["number", "turn"]) fun _ _ _ _ _ _ us hl => match us, hl with | [_, _], _ => rfl⟩
  have D12 : Df K mg "_law_store" sStore ["script"] := by
    have F := fun_mk (st := sStore) l12 c12 k12
    exact ⟨_, _, PySem.W.mg_of X G a12, F, F.binds (ps := ["script"]) fun _ _ _ _ _ _ us hl => match us, hl with | [_], _ => rfl⟩
  have D13 : Df K mg "_law_pick" sPick ["store", "count"] := by
    have F := fun_mk (st := sPick) l13 c13 k13
    exact ⟨_, _, PySem.W.mg_of X G a13, F, F.binds (ps := ["store", "count"]) fun _ _ _ _ _ _ us hl => match us, hl with | [_, _], _ => rfl⟩
  have D14 : Df K mg "_law_kind" sKind ["caught"] := by
    have F := fun_mk (st := sKind) l14 c14 k14
    exact ⟨_, _, PySem.W.mg_of X G a14, F, F.binds (ps := ["caught"]) fun _ _ _ _ _ _ us hl => match us, hl with | [_], _ => rfl⟩
  have D15 : Df K mg "_law_number" sNumberL ["word"] := by
    have F := fun_mk (st := sNumberL) l15 c15 k15
    exact ⟨_, _, PySem.W.mg_of X G a15, F, F.binds (ps := ["word"]) fun _ _ _ _ _ _ us hl => match us, hl with | [_], _ => rfl⟩
  have D16 : Df K mg "_law_rule_lines" sRuleLines ["policy"] := by
    have F := fun_mk (st := sRuleLines) l16 c16 k16
    exact ⟨_, _, PySem.W.mg_of X G a16, F, F.binds (ps := ["policy"]) fun _ _ _ _ _ _ us hl => match us, hl with | [_], _ => rfl⟩
  have D17 : Df K mg "_law_good" sGood ["store"] := by
    have F := fun_mk (st := sGood) l17 c17 k17
    exact ⟨_, _, PySem.W.mg_of X G a17, F, F.binds (ps := ["store"]) fun _ _ _ _ _ _ us hl => match us, hl with | [_], _ => rfl⟩
  have D18 : Df K mg "_law_words_read" sWordsRead ["line", "heads"] := by
    have F := fun_mk (st := sWordsRead) l18 c18 k18
    exact ⟨_, _, PySem.W.mg_of X G a18, F, F.binds (ps := ["line", "heads"]) fun _ _ _ _ _ _ us hl => match us, hl with | [_, _], _ => rfl⟩
  have D19 : Df K mg "_law_due" sDue ["text"] := by
    have F := fun_mk (st := sDue) l19 c19 k19
    exact ⟨_, _, PySem.W.mg_of X G a19, F, F.binds (ps := ["text"]) fun _ _ _ _ _ _ us hl => match us, hl with | [_], _ => rfl⟩
  have D20 : Df K mg "_law_spoilt_line" sSpoiltLine ["store", "line"] := by
    have F := fun_mk (st := sSpoiltLine) l20 c20 k20
    exact ⟨_, _, PySem.W.mg_of X G a20, F, F.binds (ps := ["store", "line"]) fun _ _ _ _ _ _ us hl => match us, hl with | [_, _], _ => rfl⟩
  have D21 : Df K mg "_law_spoilt" sSpoilt ["store", "lines"] := by
    have F := fun_mk (st := sSpoilt) l21 c21 k21
    exact ⟨_, _, PySem.W.mg_of X G a21, F, F.binds (ps := ["store", "lines"]) fun _ _ _ _ _ _ us hl => match us, hl with | [_, _], _ => rfl⟩
  have D22 : Df K mg "_law_right" sRight ["text"] := by
    have F := fun_mk (st := sRight) l22 c22 k22
    exact ⟨_, _, PySem.W.mg_of X G a22, F, F.binds (ps := ["text"]) fun _ _ _ _ _ _ us hl => match us, hl with | [_], _ => rfl⟩
  have D23 : Df K mg "_law_list_right" sListRight ["policy"] := by
    have F := fun_mk (st := sListRight) l23 c23 k23
    exact ⟨_, _, PySem.W.mg_of X G a23, F, F.binds (ps := ["policy"]) fun _ _ _ _ _ _ us hl => match us, hl with | [_], _ => rfl⟩
  have D24 : Df K mg "law" sLaw ["script"] := by
    have F := fun_mk (st := sLaw) l24 c24 k24
    exact ⟨_, _, PySem.W.mg_of X G a24, F, F.binds (ps := ["script"]) fun _ _ _ _ _ _ us hl => match us, hl with | [_], _ => rfl⟩
  have oex1 : OexC K E1 := ⟨⟨_, _, _, _, _, _, _, _, _, _, _, _, _, _, _, x1_, rfl⟩, sa1, ec1, tE1, kc1⟩
  have exc1 : ExcC K E1 := ⟨ga1, gg1, ec1, hc1, cc1, spG, tkG, mc1⟩
  have xfc1 : XfC K E1 := ⟨ga1, gg1, ec1, hc1⟩
  have nit1 : Nit K "NoRule" "NoRule.__init__" "place" sRuleInit E1 := by
    have F : Fun K "__init__" "NoRule.__init__" sRuleInit fI1 _ := fun_mk (st := sRuleInit) li1 ci1 ki1
    exact ⟨_, _, in1, ti1, F, F.binds (ps := ["self", "place"]) fun _ _ _ _ _ _ us hl => match us, hl with | [_, _], _ => rfl⟩
  have kn1 : Kn K mg E1 1 := ⟨exc1, xfc1, np1, PySem.W.mg_none_of X G zVE, kit_ve vc1, ⟨S, PySem.W.mg_of X G aS, kit_sub iS tS sc1, PySem.W.exm_ref eS hS tS sc1⟩,
    ⟨_, PySem.W.mg_of X G aE0, by rw [kit_ref n1_0 iE0 tE0 s1_0]; rfl⟩,
    ⟨_, PySem.W.mg_of X G aE1, by rw [kit_same]; rfl⟩,
    ⟨_, PySem.W.mg_of X G aE2, by rw [kit_ref n1_2 iE2 tE2 s1_2]; rfl⟩,
    ⟨_, PySem.W.mg_of X G aE3, by rw [kit_ref n1_3 iE3 tE3 s1_3]; rfl⟩,
    ⟨_, PySem.W.mg_of X G aE4, by rw [kit_ref n1_4 iE4 tE4 s1_4]; rfl⟩,
    ⟨_, PySem.W.mg_of X G aE5, by rw [kit_ref n1_5 iE5 tE5 s1_5]; rfl⟩,
    ⟨_, PySem.W.mg_of X G aE6, by rw [kit_ref n1_6 iE6 tE6 s1_6]; rfl⟩,
    ⟨_, PySem.W.mg_of X G aE7, by rw [kit_ref n1_7 iE7 tE7 s1_7]; rfl⟩,
    ⟨_, PySem.W.mg_of X G aE8, by rw [kit_ref n1_8 iE8 tE8 s1_8]; rfl⟩,
    ⟨_, PySem.W.mg_of X G aE9, by rw [kit_ref n1_9 iE9 tE9 s1_9]; rfl⟩,
    ⟨_, PySem.W.mg_of X G aE10, by rw [kit_ref n1_10 iE10 tE10 s1_10]; rfl⟩,
    ⟨_, PySem.W.mg_of X G aE11, by rw [kit_ref n1_11 iE11 tE11 s1_11]; rfl⟩⟩
  have oex7 : OexC K E7 := ⟨⟨_, _, _, _, _, _, _, _, _, _, _, _, _, _, _, x7_, rfl⟩, sa7, ec7, tE7, kc7⟩
  have exc7 : ExcC K E7 := ⟨ga7, gg7, ec7, hc7, cc7, spG, tkG, mc7⟩
  have xfc7 : XfC K E7 := ⟨ga7, gg7, ec7, hc7⟩
  have nit7 : Nit K "NoText" "NoText.__init__" "row" sTextInit E7 := by
    have F : Fun K "__init__" "NoText.__init__" sTextInit fI7 _ := fun_mk (st := sTextInit) li7 ci7 ki7
    exact ⟨_, _, in7, ti7, F, F.binds (ps := ["self", "row"]) fun _ _ _ _ _ _ us hl => match us, hl with | [_, _], _ => rfl⟩
  have kn7 : Kn K mg E7 7 := ⟨exc7, xfc7, npp7, PySem.W.mg_none_of X G zVE, kit_ve vc7, ⟨S, PySem.W.mg_of X G aS, kit_sub iS tS sc7, PySem.W.exm_ref eS hS tS sc7⟩,
    ⟨_, PySem.W.mg_of X G aE0, by rw [kit_ref n7_0 iE0 tE0 s7_0]; rfl⟩,
    ⟨_, PySem.W.mg_of X G aE1, by rw [kit_ref n7_1 iE1 tE1 s7_1]; rfl⟩,
    ⟨_, PySem.W.mg_of X G aE2, by rw [kit_ref n7_2 iE2 tE2 s7_2]; rfl⟩,
    ⟨_, PySem.W.mg_of X G aE3, by rw [kit_ref n7_3 iE3 tE3 s7_3]; rfl⟩,
    ⟨_, PySem.W.mg_of X G aE4, by rw [kit_ref n7_4 iE4 tE4 s7_4]; rfl⟩,
    ⟨_, PySem.W.mg_of X G aE5, by rw [kit_ref n7_5 iE5 tE5 s7_5]; rfl⟩,
    ⟨_, PySem.W.mg_of X G aE6, by rw [kit_ref n7_6 iE6 tE6 s7_6]; rfl⟩,
    ⟨_, PySem.W.mg_of X G aE7, by rw [kit_same]; rfl⟩,
    ⟨_, PySem.W.mg_of X G aE8, by rw [kit_ref n7_8 iE8 tE8 s7_8]; rfl⟩,
    ⟨_, PySem.W.mg_of X G aE9, by rw [kit_ref n7_9 iE9 tE9 s7_9]; rfl⟩,
    ⟨_, PySem.W.mg_of X G aE10, by rw [kit_ref n7_10 iE10 tE10 s7_10]; rfl⟩,
    ⟨_, PySem.W.mg_of X G aE11, by rw [kit_ref n7_11 iE11 tE11 s7_11]; rfl⟩⟩
  have DO : DfC K mg "read_number" sReadNumber ["word"] cO := by
    have F : Fun K "read_number" "read_number" sReadNumber fO _ := fun_mk (st := sReadNumber) lO cOf kOf
    exact ⟨fO, ocO, odO, kVO, dcO, pmO, anO, ctO, slO, PySem.W.mg_of X G aO, lO, cOf, kOf, F.binds (ps := ["word"]) fun _ _ _ _ _ _ us hl => match us, hl with | [_], _ => rfl⟩
  have tO : PySem.W.tabIn K "read_number" = some (cO, PO) := by
    unfold PySem.W.tabIn
    rw [aO]
    dsimp only
    rw [lO]
    dsimp only [PySem.W.fnOf]
    rw [hcO]
    dsimp only
    rw [hvO]
  have B : Blt mg := ⟨PySem.W.mg_none_of X G z_len, PySem.W.mg_none_of X G z_isinstance, PySem.W.mg_none_of X G z_int, PySem.W.mg_none_of X G z_bool, PySem.W.mg_none_of X G z_tuple, PySem.W.mg_none_of X G z_str, PySem.W.mg_none_of X G z_range, PySem.W.mg_none_of X G z_enumerate, PySem.W.mg_none_of X G z_list⟩
  have F := fun_mk (st := sLaw) l24 c24 k24
  have e := hfa.symm.trans (PySem.W.mg_of X G a24)
  cases e
  refine ⟨PySem.W.fnOf "law" "law" (defArgs sLaw) (defBody sLaw) (defScope sLaw) .none kV24 dc24 pm24 an24 cd24 ct24, cO, PO, tO, nPO, fun s v => .of_eq rfl, fun base _ _ TB => ?_⟩
  have cI := ok_integer (P := l.prog) (w := w) (base := base) D0 B
  have cT := ok_tupleOf (P := l.prog) (w := w) (base := base) D1 B
  have cCn := ok_count (P := l.prog) (w := w) (base := base) D4 cI
  have cLv := ok_level (P := l.prog) (w := w) (base := base) D3 cT cCn
  have er := erc_rule (P := l.prog) (w := w) (base := base) (PySem.W.mg_of X G aE1) oex1 np1 nit1
  have erT := erc_text (P := l.prog) (w := w) (base := base) (PySem.W.mg_of X G aE7) oex7 np7 nit7
  have ml : ∃ u, mg "MOST_LEVELS" = some u ∧ RelV (.int 6) u := ⟨_, PySem.W.mg_of X G aML, ⟨tML, rfl⟩⟩
  have cK := ok_check (P := l.prog) (w := w) (base := base) D2 B ml er cT cLv cCn
  have cSC := ok_showCount (P := l.prog) (w := w) (base := base) D6
  have cSH := ok_showRule (P := l.prog) (w := w) (base := base) D5 cK cSC
  have cRN := ok_readNumber (P := l.prog) (w := w) (base := base) DO TB B (PySem.W.mg_none_of X G z_all) ⟨_, PySem.W.mg_of X G aMD, ⟨tMD, rfl⟩⟩
  have cRC := ok_readCount (P := l.prog) (w := w) (base := base) D10 B cRN
  have cRB := ok_readBoost (P := l.prog) (w := w) (base := base) D8 cRC
  have cRL := ok_readLevel (P := l.prog) (w := w) (base := base) D9 B ml erT cRC
  have cRD := ok_readRule (P := l.prog) (w := w) (base := base) D7 B erT cRB cRL
  have cM := ok_mix (P := l.prog) (w := w) (base := base) D11
  have cS := ok_store (P := l.prog) (w := w) (base := base) D12 B.len
  have cP := ok_pick (P := l.prog) (w := w) (base := base) D13 cM B.len
  have cKi := ok_kind2 (P := l.prog) (w := w) (base := base) (h7 := rfl) D14 B kn1 kn7 np7
  have cNL := ok_numberL (P := l.prog) (w := w) (base := base) D15 B
  have cLn := ok_ruleLines (P := l.prog) (w := w) (base := base) D16 B
  have cG := ok_good (P := l.prog) (w := w) (base := base) D17 B cP
  have cWR := ok_wordsRead (P := l.prog) (w := w) (base := base) D18 B cNL
  have cDu := ok_due (P := l.prog) (w := w) (base := base) D19 B cWR
  have cSL := ok_spoiltLine (P := l.prog) (w := w) (base := base) D20 B cP
  have cSp := ok_spoilt (P := l.prog) (w := w) (base := base) D21 B cP cSL
  have cR := ok_right (P := l.prog) (w := w) (base := base) D22 B kn7 cDu cRD cKi
  have cLR := ok_listRight (P := l.prog) (w := w) (base := base) D23 B kn1 cSH cKi
  exact ok_law F B cS cG cLn cSp cR cLR cSH cRD
end Vk
namespace Vk
open PySem PySem.Spec PyProof.Rows L2 GxR
theorem walkT {l : PySem.W.OpenLaw} {q : Program} {loose : List Str} {XP : (Str → Option Value) → Heap → Prop} {YP : World → Heap → Prop} {d dN : DefRec} {K : Params → PySem.W.Frag} (hn : l.most = some 63) (hdf : d.params.defaults = [])
    (hrec : (recsOf q).find? (fun e => e.name == ("read_number" : Str)) = some dN) (hY : ∀ (w : World) (h : Heap), YP w h → (K w.params).In h)
    (F : ∀ (w : World) (mg : Str → Option Value) (fa : Addr) (h : Heap), (K w.params).In h → h.Ns mainGlobals mg → mg d.name = some (.ref fa) → LawTab l w (K w.params) mg fa) :
    PySem.W.WalkO q loose XP YP l.row.toRowW d [] (fun f vs => PySem.call f vs) := by
  refine Att.attach_callB hn hdf fun w s₀ s₁ mg mb fa o pm cd doc a vs ns G Y ho hd hcd hmg hobj hints hlen hbits hg => ?_
  have KX := hY w _ Y
  obtain ⟨fd, c, P, ht, nl, hb, hF⟩ := F w mg fa _ KX G.T.g hmg
  obtain ⟨hC, hP⟩ := PySem.W.tab_of G.T KX hrec ht
  have one : ∀ {C : Addr × Addr → Prop}, C (c, P) → ∀ p ∈ [(c, P)], C p := fun h p hp => by
    rw [List.mem_singleton.mp hp]
    exact h
  exact LamX.law_callTs (k := 7) (cs := [(c, P)]) (sp := spLaw (K w.params) P) (CX := L2.CX l.prog w) KX G.T.g G.T.b G.T.builtins G.T.nolimit hg (one hP) (one nl) (one hC) G.T.bmain hobj hints (Nat.le_trans hlen (by decide)) ⟨rfl, by decide, by decide⟩
    (fun base i n t => let z := t (c, P) (List.mem_singleton.mpr rfl); hF base i n ⟨z.code, z.bm, z.gP⟩) hb (fun H hH hS => ⟨a, ns, rfl, hS, hlen, ⟨#[], hH (c, P) (List.mem_singleton.mpr rfl), by simp [TriplesOk]⟩, fun _ => rfl⟩) (fun _ _ _ ⟨_, _, _, _, _, _, _, _, _, _, _, _, h⟩ => h)
end Vk
open PySem PySem.W PyProof.Rows in
set_option maxRecDepth 100000 in
set_option maxHeartbeats 0 in
theorem PySem.Challenge.cw_blindslots_k06_rules_written_and_read_holds : PySem.Challenge.rw_blindslots_k06_rules_written_and_read.Holds := by
  w_on; o_law; k_head; (case hw => w_witness2)
  k_fill
  refine Vk.walkT (l := PySem.Challenge.rw_blindslots_k06_rules_written_and_read) rfl rfl rfl (fun w h Y => PySem.W.kIn_of Y) ?F
  case F =>
    intro w mg fa h KX G hmg
    refine' Vk.all_mk KX G hmg ?a0 ?l0 ?c0 ?k0 ?a1 ?l1 ?c1 ?k1 ?a2 ?l2 ?c2 ?k2 ?a3 ?l3 ?c3 ?k3 ?a4 ?l4 ?c4 ?k4 ?a5 ?l5 ?c5 ?k5 ?a6 ?l6 ?c6 ?k6 ?a7 ?l7 ?c7 ?k7 ?a8 ?l8 ?c8 ?k8 ?a9 ?l9 ?c9 ?k9 ?a10 ?l10 ?c10 ?k10 ?a11 ?l11 ?c11 ?k11 ?a12 ?l12 ?c12 ?k12 ?a13 ?l13 ?c13 ?k13 ?a14 ?l14 ?c14 ?k14 ?a15 ?l15 ?c15 ?k15 ?a16 ?l16 ?c16 ?k16 ?a17 ?l17 ?c17 ?k17 ?a18 ?l18 ?c18 ?k18 ?a19 ?l19 ?c19 ?k19 ?a20 ?l20 ?c20 ?k20 ?a21 ?l21 ?c21 ?k21 ?a22 ?l22 ?c22 ?k22 ?a23 ?l23 ?c23 ?k23 ?a24 ?l24 ?c24 ?k24 ?z_len ?z_isinstance ?z_int ?z_bool ?z_tuple ?z_str ?z_range ?z_enumerate ?z_list ?z_all ?aS ?iS ?hS ?tS ?eS ?spG ?tkG ?zVE ?aE0 ?iE0 ?tE0 ?aE1 ?iE1 ?tE1 ?aE2 ?iE2 ?tE2 ?aE3 ?iE3 ?tE3 ?aE4 ?iE4 ?tE4 ?aE5 ?iE5 ?tE5 ?aE6 ?iE6 ?tE6 ?aE7 ?iE7 ?tE7 ?aE8 ?iE8 ?tE8 ?aE9 ?iE9 ?tE9 ?aE10 ?iE10 ?tE10 ?aE11 ?iE11 ?tE11 ?x1_ ?sa1 ?ga1 ?gg1 ?np1 ?in1 ?ti1 ?li1 ?ci1 ?ki1 ?kc1 ?ec1 ?hc1 ?cc1 ?mc1 ?vc1 ?sc1 ?s1_0 ?n1_0 ?s1_2 ?n1_2 ?s1_3 ?n1_3 ?s1_4 ?n1_4 ?s1_5 ?n1_5 ?s1_6 ?n1_6 ?s1_7 ?n1_7 ?s1_8 ?n1_8 ?s1_9 ?n1_9 ?s1_10 ?n1_10 ?s1_11 ?n1_11 ?x7_ ?sa7 ?ga7 ?gg7 ?np7 ?npp7 ?in7 ?ti7 ?li7 ?ci7 ?ki7 ?kc7 ?ec7 ?hc7 ?cc7 ?mc7 ?vc7 ?sc7 ?s7_0 ?n7_0 ?s7_1 ?n7_1 ?s7_2 ?n7_2 ?s7_3 ?n7_3 ?s7_4 ?n7_4 ?s7_5 ?n7_5 ?s7_6 ?n7_6 ?s7_8 ?n7_8 ?s7_9 ?n7_9 ?s7_10 ?n7_10 ?s7_11 ?n7_11 ?aO ?lO ?cOf ?kOf ?hcO ?hvO ?nPO ?aMD ?aML
    (case a0 => k_is)
    (case l0 => k_is)
    (case c0 => k_is)
    (case k0 => k_is)
    (case a1 => k_is)
    (case l1 => k_is)
    (case c1 => k_is)
    (case k1 => k_is)
    (case a2 => k_is)
    (case l2 => k_is)
    (case c2 => k_is)
    (case k2 => k_is)
    (case a3 => k_is)
    (case l3 => k_is)
    (case c3 => k_is)
    (case k3 => k_is)
    (case a4 => k_is)
    (case l4 => k_is)
    (case c4 => k_is)
    (case k4 => k_is)
    (case a5 => k_is)
    (case l5 => k_is)
    (case c5 => k_is)
    (case k5 => k_is)
    (case a6 => k_is)
    (case l6 => k_is)
    (case c6 => k_is)
    (case k6 => k_is)
    (case a7 => k_is)
    (case l7 => k_is)
    (case c7 => k_is)
    (case k7 => k_is)
    (case a8 => k_is)
    (case l8 => k_is)
    (case c8 => k_is)
    (case k8 => k_is)
    (case a9 => k_is)
    (case l9 => k_is)
    (case c9 => k_is)
    (case k9 => k_is)
    (case a10 => k_is)
    (case l10 => k_is)
    (case c10 => k_is)
    (case k10 => k_is)
    (case a11 => k_is)
    (case l11 => k_is)
    (case c11 => k_is)
    (case k11 => k_is)
    (case a12 => k_is)
    (case l12 => k_is)
    (case c12 => k_is)
    (case k12 => k_is)
    (case a13 => k_is)
    (case l13 => k_is)
    (case c13 => k_is)
    (case k13 => k_is)
    (case a14 => k_is)
    (case l14 => k_is)
    (case c14 => k_is)
    (case k14 => k_is)
    (case a15 => k_is)
    (case l15 => k_is)
    (case c15 => k_is)
    (case k15 => k_is)
    (case a16 => k_is)
    (case l16 => k_is)
    (case c16 => k_is)
    (case k16 => k_is)
    (case a17 => k_is)
    (case l17 => k_is)
    (case c17 => k_is)
    (case k17 => k_is)
    (case a18 => k_is)
    (case l18 => k_is)
    (case c18 => k_is)
    (case k18 => k_is)
    (case a19 => k_is)
    (case l19 => k_is)
    (case c19 => k_is)
    (case k19 => k_is)
    (case a20 => k_is)
    (case l20 => k_is)
    (case c20 => k_is)
    (case k20 => k_is)
    (case a21 => k_is)
    (case l21 => k_is)
    (case c21 => k_is)
    (case k21 => k_is)
    (case a22 => k_is)
    (case l22 => k_is)
    (case c22 => k_is)
    (case k22 => k_is)
    (case a23 => k_is)
    (case l23 => k_is)
    (case c23 => k_is)
    (case k23 => k_is)
    (case a24 => k_is)
    (case l24 => k_is)
    (case c24 => k_is)
    (case k24 => k_is)
    (case z_len => k_is)
    (case z_isinstance => k_is)
    (case z_int => k_is)
    (case z_bool => k_is)
    (case z_tuple => k_is)
    (case z_str => k_is)
    (case z_range => k_is)
    (case z_enumerate => k_is)
    (case z_list => k_is)
    (case z_all => k_is)
    (case aS => k_is)
    (case iS => k_is)
    (case hS => k_is)
    (case tS => k_is)
    (case eS => k_is)
    (case spG => k_is)
    (case tkG => k_is)
    (case zVE => k_is)
    (case aE0 => k_is)
    (case iE0 => k_is)
    (case tE0 => k_is)
    (case aE1 => k_is)
    (case iE1 => k_is)
    (case tE1 => k_is)
    (case aE2 => k_is)
    (case iE2 => k_is)
    (case tE2 => k_is)
    (case aE3 => k_is)
    (case iE3 => k_is)
    (case tE3 => k_is)
    (case aE4 => k_is)
    (case iE4 => k_is)
    (case tE4 => k_is)
    (case aE5 => k_is)
    (case iE5 => k_is)
    (case tE5 => k_is)
    (case aE6 => k_is)
    (case iE6 => k_is)
    (case tE6 => k_is)
    (case aE7 => k_is)
    (case iE7 => k_is)
    (case tE7 => k_is)
    (case aE8 => k_is)
    (case iE8 => k_is)
    (case tE8 => k_is)
    (case aE9 => k_is)
    (case iE9 => k_is)
    (case tE9 => k_is)
    (case aE10 => k_is)
    (case iE10 => k_is)
    (case tE10 => k_is)
    (case aE11 => k_is)
    (case iE11 => k_is)
    (case tE11 => k_is)
    (case x1_ => k_is)
    (case sa1 => k_is)
    (case ga1 => k_is)
    (case gg1 => k_is)
    (case np1 => k_is)
    (case in1 => k_is)
    (case ti1 => k_is)
    (case li1 => k_is)
    (case ci1 => k_is)
    (case ki1 => k_is)
    (case kc1 => k_is)
    (case ec1 => k_is)
    (case hc1 => k_is)
    (case cc1 => k_is)
    (case mc1 => k_is)
    (case vc1 => k_is)
    (case sc1 => k_is)
    (case s1_0 => k_is)
    (case n1_0 => rfl)
    (case s1_2 => k_is)
    (case n1_2 => rfl)
    (case s1_3 => k_is)
    (case n1_3 => rfl)
    (case s1_4 => k_is)
    (case n1_4 => rfl)
    (case s1_5 => k_is)
    (case n1_5 => rfl)
    (case s1_6 => k_is)
    (case n1_6 => rfl)
    (case s1_7 => k_is)
    (case n1_7 => rfl)
    (case s1_8 => k_is)
    (case n1_8 => rfl)
    (case s1_9 => k_is)
    (case n1_9 => rfl)
    (case s1_10 => k_is)
    (case n1_10 => rfl)
    (case s1_11 => k_is)
    (case n1_11 => rfl)
    (case x7_ => k_is)
    (case sa7 => k_is)
    (case ga7 => k_is)
    (case gg7 => k_is)
    (case np7 => k_is)
    (case npp7 => k_is)
    (case in7 => k_is)
    (case ti7 => k_is)
    (case li7 => k_is)
    (case ci7 => k_is)
    (case ki7 => k_is)
    (case kc7 => k_is)
    (case ec7 => k_is)
    (case hc7 => k_is)
    (case cc7 => k_is)
    (case mc7 => k_is)
    (case vc7 => k_is)
    (case sc7 => k_is)
    (case s7_0 => k_is)
    (case n7_0 => rfl)
    (case s7_1 => k_is)
    (case n7_1 => rfl)
    (case s7_2 => k_is)
    (case n7_2 => rfl)
    (case s7_3 => k_is)
    (case n7_3 => rfl)
    (case s7_4 => k_is)
    (case n7_4 => rfl)
    (case s7_5 => k_is)
    (case n7_5 => rfl)
    (case s7_6 => k_is)
    (case n7_6 => rfl)
    (case s7_8 => k_is)
    (case n7_8 => rfl)
    (case s7_9 => k_is)
    (case n7_9 => rfl)
    (case s7_10 => k_is)
    (case n7_10 => rfl)
    (case s7_11 => k_is)
    (case n7_11 => rfl)
    (case aO => k_is)
    (case lO => k_is)
    (case cOf => k_is)
    (case kOf => k_is)
    (case hcO => k_is)
    (case hvO => rfl)
    (case nPO => first | k_is | kernel_rfl)
    (case aMD => k_is)
    (case aML => k_is)
