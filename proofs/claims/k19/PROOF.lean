import PyProof.Rows.All
import Wide.All
import OpenK.AllK
import Wide.FinOn
import HandS.ForMost
import HandS.Exc
import HandS.TryOnly
import HandS.ExcOwn
import HandS.WordsExc
import HandS.Codes
import HandS.IsInst
import HandS.Walk
import HandS.AnyAll
import HandS.Head3
import HandS.HeadHook4
import HandS.DictComp
import HandS.SetFor
import PyProof.SeqRoads2
import PyProof.EqAt
import PyProof.NeKinds
import KE.GoesEnum
import KE.KExcIs
import HandS.ExcInit
import HandS.ExcField
import HandS.ExcIs
import HandS.TupAny
import HandS.TupMul
import HandS.FStr
import HandS.More
import HandS.Deep
import HandS.Small
import HandS.Iter
import HandS.MakeKwOnly
import HandS.Defaults
import HandS.WordsDict
import HandS.NoneIn
import HandS.ListItems
import HandS.Sort
import KE.KDictList
import HandS.Zip0
import KE.KDictZip
import KE.KDictPairs
import HandS.Zip
import HandS.SortInts
import KE.KStateDown
import HandS.EndTab
import HandS.EndBits
import PySem.Challenge.RW_blindslots_k19_whole_runs_split_behind_a
set_option Elab.async false
set_option linter.all false
set_option maxRecDepth 100000
set_option maxHeartbeats 8000000
set_option maxHeartbeats 4000000
/-! what every text of ours needs: a def as it stands, its call, the drawing store -/
namespace Vk
open PySem PySem.Spec PyProof.Rows L2
/-- a def of the module's top -/
structure Df (K : PySem.W.Frag) (mg : Str → Option Value) (x : Str) (st : Stmt) (ps : List Str) : Prop where
  ex : ∃ f fd, mg x = some (.ref f) ∧ Fun K x x st f fd ∧ Binds K fd ps []
/-- its promise -/
structure Cl (P : Program) (w : World) (K : PySem.W.Frag) (mg : Str → Option Value) (base : Heap) (CX : CXT) (k : Nat) (x : Str) (ps : List Str) (sp : Sp) : Prop where
  ex : ∃ f fd, mg x = some (.ref f) ∧ PySem.W.keepIn K (.ref f) = true ∧ Binds K fd ps [] ∧ FnOk P w K mg base CX k f fd ps sp
section
variable {P : Program} {w : World} {K : PySem.W.Frag} {mg : Str → Option Value} {base : Heap}
theorem cl0 {x : Str} {st : Stmt} {N ps : List Str} {k : Nat} {sp : Sp} (D : Df K mg x st ps) (S : FnScope N ps (defScope st)) (len : ∀ vs H Q E, sp vs H Q E → vs.length = ps.length)
    (body : ∀ (f : Addr) (cdv : Value) (A : Around) (outer : List Env) (s : Shared) (H : Hp) (vs : List V) (Q : VK) (E : XK), Room k (A.deeper (envOfC x (defScope st) s.heap.objs.size f cdv)) → sp vs H Q E →
      ∃ t, PSs (cxOf CX0 P w K mg base N x (defScope st) f cdv A outer s H E).nox (defBody st) t ∧ t { nx := fun _ H' => Q .non H', rt := Q } (start N vs) H) : Cl P w K mg base CX0 (k + 1) x ps sp := by
  obtain ⟨f, fd, hm, F, b⟩ := D.ex
  exact ⟨f, fd, hm, F.kp, b, F.ok S len (body f)⟩
theorem clX {x : Str} {st : Stmt} {N ps : List Str} {k : Nat} {sp : Sp} (D : Df K mg x st ps) (S : FnScope N ps (defScope st)) (len : ∀ vs H Q E, sp vs H Q E → vs.length = ps.length)
    (body : ∀ (f : Addr) (cdv : Value) (A : Around) (outer : List Env) (s : Shared) (H : Hp) (vs : List V) (Q : VK) (E : XK), Room k (A.deeper (envOfC x (defScope st) s.heap.objs.size f cdv)) → sp vs H Q E →
      ∃ t, PSs (cxOf (L2.CX P w) P w K mg base N x (defScope st) f cdv A outer s H E) (defBody st) t ∧ t { nx := fun _ H' => Q .non H', rt := Q } (start N vs) H) : Cl P w K mg base (L2.CX P w) (k + 1) x ps sp := by
  obtain ⟨f, fd, hm, F, b⟩ := D.ex
  exact ⟨f, fd, hm, F.kp, b, F.okX S len (body f)⟩
end
def tCal (sp : Sp) (t : TA) : TE := fun σ H Q => t σ H fun vs H1 => sp (vs ++ []) H1 Q E0
section
variable {X : Cx}
theorem pc {x : Str} {ps : List Str} {sp : Sp} {j k : Nat} {e : Expr} {es : List Expr} {t : TA} {p pos : Pos} (c : Cl X.prog X.w X.K X.mg X.base CX0 k x ps sp) (hr : Room j X.A) (hk : k ≤ j) (ha : PA X (e :: es) t) (hg : Gl X x := by rfl)
    (hdb : (x == ("__debug__" : Str)) = false := by decide) (he : starEach (e :: es) X.env = (false, eval e X.env) :: starEach es X.env := by rfl) (hpl : (backTo pos (starEach es X.env)).any (·.1) = false := by rfl) :
    PE X (.Call (.Name x p) (e :: es) [] pos) (tCal sp t) := by
  obtain ⟨f, fd, hm, kp, b, F⟩ := c.ex
  exact pe_call F (hr.mono hk) hg hm kp b .nil pass0 ha hdb he hpl
end
/-! ### heaps -/
def NoTbl : HO → Prop
  | .tbl _ => False
  | _ => True
/-- all that was tracked is as it was, but that tables of code objects may have grown -/
structure Same (H H' : Hp) : Prop where
  at_ : ∀ b o, H b = some o → NoTbl o → H' b = some o
  has : ∀ b, H b ≠ none → H' b ≠ none
  tab : ∀ P, GxR.TabG H P → GxR.TabG H' P
theorem Same.at {H H' : Hp} {b : Addr} {o : HO} (s : Same H H') (h : H b = some o) (n : NoTbl o := by exact True.intro) : H' b = some o := s.at_ b o h n
theorem Same.refl (H : Hp) : Same H H := ⟨fun _ _ h _ => h, fun _ h => h, fun _ h => h⟩
theorem Same.trans {H H1 H2 : Hp} (a : Same H H1) (b : Same H1 H2) : Same H H2 := ⟨fun c o h n => b.at_ c o (a.at_ c o h n) n, fun c h => b.has c (a.has c h), fun P h => b.tab P (a.tab P h)⟩
theorem Same.of {H H' : Hp} (h : ∀ b o, H b = some o → H' b = some o) : Same H H' := by
  refine ⟨fun b o e _ => h b o e, fun b e => ?_, fun P ⟨ps, e, t⟩ => ⟨ps, h _ _ e, t⟩⟩
  cases q : H b with
  | none => exact absurd q e
  | some o =>
    rw [h b o q]
    exact fun z => nomatch z
theorem Same.free {H H' : Hp} (e : Same H H') {l : Addr} (h : H' l = none) : H l = none := by
  cases q : H l with
  | none => rfl
  | some o => exact absurd h (e.has l (by rw [q]; exact fun z => nomatch z))
theorem Same.seq {K : PySem.W.Frag} {H H' : Hp} {a : Addr} {xs : List V} (e : Same H H') (h : SqL K H a xs) : SqL K H' a xs := by
  rcases h with (h | ⟨o, h⟩) | h
  · exact .inl (.inl (e.at h))
  · exact .inl (.inr ⟨o, e.at h⟩)
  · exact .inr h
theorem ne_has {H : Hp} {a p : Addr} (h : H a ≠ none) (n : H p = none) : p ≠ a := fun z => h (z ▸ n)
theorem has_of {H : Hp} {a : Addr} {o : HO} (h : H a = some o) : H a ≠ none := by
  rw [h]
  exact fun z => nomatch z
/-- a table grows -/
theorem same_tabbed {P : Addr} {H H' : Hp} (h : GxR.Tabbed P H H') (h0 : GxR.TabG H P) : Same H H' := by
  obtain ⟨⟨ps', e', t'⟩, k⟩ := h
  obtain ⟨ps, e, t⟩ := h0
  refine ⟨fun b o q n => ?_, fun b q => ?_, fun Q hq => ?_⟩
  · by_cases z : b = P
    · rw [z, e] at q
      cases q
      exact False.elim n
    · rw [k b z]
      exact q
  · by_cases z : b = P
    · rw [z, e']
      exact fun z => nomatch z
    · rw [k b z]
      exact q
  · by_cases z : Q = P
    · rw [z]
      exact ⟨ps', e', t'⟩
    · obtain ⟨qs, f, u⟩ := hq
      exact ⟨qs, by rw [k Q z]; exact f, u⟩
/-- the heap without what stands at a -/
def Off (a : Addr) (H : Hp) : Hp := fun b => if b = a then none else H b
theorem off_ne {a b : Addr} {H : Hp} (h : b ≠ a) : Off a H b = H b := if_neg h
theorem off_same {a : Addr} {H : Hp} : Off a H a = none := if_pos rfl
theorem off_some {a b : Addr} {H : Hp} {o : HO} (e : Off a H b = some o) : b ≠ a ∧ H b = some o := by
  by_cases h : b = a
  · rw [h, off_same] at e; cases e
  · exact ⟨h, by rw [off_ne h] at e; exact e⟩
theorem off_sub (a : Addr) (H : Hp) : Same (Off a H) H := .of fun b o e => (off_some e).2
theorem off_mono {a : Addr} {H H' : Hp} (s : Same H H') : Same (Off a H) (Off a H') := by
  refine ⟨fun b o e n => ?_, fun b e => ?_, fun P ⟨ps, e, t⟩ => ?_⟩
  · obtain ⟨h1, h2⟩ := off_some e
    rw [off_ne h1]
    exact s.at_ b o h2 n
  · by_cases h : b = a
    · rw [h, off_same] at e
      exact absurd rfl e
    · rw [off_ne h] at e ⊢
      exact s.has b e
  · obtain ⟨h1, h2⟩ := off_some e
    obtain ⟨qs, f, u⟩ := s.tab P ⟨ps, h2, t⟩
    exact ⟨qs, by rw [off_ne h1]; exact f, u⟩
theorem off_upd {a : Addr} {H : Hp} {o : HO} : Off a (upd H a o) = Off a H := by
  funext b
  by_cases h : b = a
  · rw [h, off_same, off_same]
  · rw [off_ne h, off_ne h, upd_ne h]
theorem same_new {H : Hp} {p : Addr} {o : HO} (h : H p = none) : Same H (upd H p o) := .of fun b u e => by
  rw [upd_ne (ne_of_none e h)]; exact e
theorem same_seqT {K : PySem.W.Frag} {H H' : Hp} {a : Addr} {xs : List V} (e : Same H H') (h : SqT K H a xs) : SqT K H' a xs := by
  rcases h with (h | ⟨o, h⟩) | h
  · exact .inl (.inl (e.at h))
  · exact .inl (.inr ⟨o, e.at h⟩)
  · exact .inr h
mutual
theorem dp_same {K : PySem.W.Frag} {H H' : Hp} (e : Same H H') : ∀ {v : V} {d : PyData}, Dp K H v d → Dp K H' v d
  | _, _, .non => .non
  | _, _, .bl b => .bl b
  | _, _, .int i => .int i
  | _, _, .str x => .str x
  | _, _, .lst h r => .lst (e.seq h) (dps_same e r)
  | _, _, .tup h r => .tup (same_seqT e h) (dps_same e r)
theorem dps_same {K : PySem.W.Frag} {H H' : Hp} (e : Same H H') : ∀ {vs : List V} {ds : List PyData}, DpAll K H vs ds → DpAll K H' vs ds
  | _, _, .nil => .nil
  | _, _, .cons h r => .cons (dp_same e h) (dps_same e r)
end
/-! ### the law's store: cells, next index, digits, all mixed, draws so far (at most n) -/
structure Sto (sc a : Addr) (n : Int) (H : Hp) : Prop where
  ex : ∃ (cs : List Int) (i dg mx c : Int), H a = some (.lst [.ref sc, .int i, .int dg, .int mx, .int c]) ∧ sc ≠ a ∧ H sc = some (.lst (cs.map V.int)) ∧ cs.length ≤ 63 ∧ 0 ≤ i ∧ 0 ≤ dg ∧ 0 ≤ c ∧ c ≤ n
theorem Sto.more {sc a : Addr} {n m : Int} {H : Hp} (s : Sto sc a n H) (h : n ≤ m) : Sto sc a m H := by
  obtain ⟨x2, x3, x4, x5, x6, h1, h2, h3, h4, h5, h6, h7, h8⟩ := s.ex
  exact ⟨x2, x3, x4, x5, x6, h1, h2, h3, h4, h5, h6, h7, by omega⟩
/-- all else stands -/
def Kept (a : Addr) (H H' : Hp) : Prop := Same (Off a H) (Off a H')
theorem Kept.refl (a : Addr) (H : Hp) : Kept a H H := Same.refl _
theorem Kept.trans {a : Addr} {H H1 H2 : Hp} (x : Kept a H H1) (y : Kept a H1 H2) : Kept a H H2 := Same.trans x y
theorem kept_same {a : Addr} {H H' : Hp} (s : Same H H') : Kept a H H' := off_mono s
theorem Sto.same {sc a : Addr} {n : Int} {H H' : Hp} (s : Sto sc a n H) (e : Same H H') : Sto sc a n H' := by
  obtain ⟨x2, x3, x4, x5, x6, h1, h2, h3, h4⟩ := s.ex
  exact ⟨x2, x3, x4, x5, x6, e.at h1, h2, e.at h3, h4⟩
theorem Sto.put {sc a : Addr} {n : Int} {H : Hp} {cs : List Int} {i dg mx c : Int} (hs : sc ≠ a) (hq : H sc = some (.lst (cs.map V.int))) (hl : cs.length ≤ 63) (hi : 0 ≤ i) (hd : 0 ≤ dg) (hc : 0 ≤ c) (hn : c ≤ n) :
    Sto sc a n (upd H a (.lst [.ref sc, .int i, .int dg, .int mx, .int c])) :=
  ⟨cs, i, dg, mx, c, upd_same, hs, by rw [upd_ne hs]; exact hq, hl, hi, hd, hc, hn⟩
/-- another list changes -/
theorem Sto.other {sc a l : Addr} {n : Int} {H : Hp} {o : HO} (s : Sto sc a n H) (h1 : l ≠ a) (h2 : l ≠ sc) : Sto sc a n (upd H l o) := by
  obtain ⟨x2, x3, x4, x5, x6, g1, g2, g3, g4⟩ := s.ex
  exact ⟨x2, x3, x4, x5, x6, by rw [upd_ne h1.symm]; exact g1, g2, by rw [upd_ne h2.symm]; exact g3, g4⟩
theorem Sto.ne {sc a p : Addr} {n : Int} {H : Hp} (s : Sto sc a n H) (h : H p = none) : p ≠ a := by
  obtain ⟨_, _, _, _, _, h1, _⟩ := s.ex
  exact (ne_of_none h1 h).symm
theorem Sto.ne2 {sc a p : Addr} {n : Int} {H : Hp} (s : Sto sc a n H) (h : H p = none) : p ≠ sc := by
  obtain ⟨_, _, _, _, _, _, _, h1, _⟩ := s.ex
  exact (ne_of_none h1 h).symm
theorem kept_put {a : Addr} {H : Hp} {o : HO} : Kept a H (upd H a o) := by unfold Kept; rw [off_upd]; exact Same.refl _
theorem Sto.hasA {sc a : Addr} {n : Int} {H : Hp} (s : Sto sc a n H) : H a ≠ none := by
  obtain ⟨_, _, _, _, _, h1, _⟩ := s.ex
  exact has_of h1
theorem Sto.tab {sc a P : Addr} {n : Int} {H : Hp} (s : Sto sc a n H) (t : GxR.TabG H P) : GxR.TabG (Off a H) P := by
  obtain ⟨_, _, _, _, _, h1, _⟩ := s.ex
  obtain ⟨ps, e, u⟩ := t
  exact ⟨ps, by rw [off_ne (ne_of h1 e (fun z => nomatch z)).symm]; exact e, u⟩
theorem Kept.tab {sc a P : Addr} {n : Int} {H H' : Hp} (k : Kept a H H') (s : Sto sc a n H) (t : GxR.TabG H P) : GxR.TabG H' P := (off_sub a H').tab P (Same.tab k P (s.tab t))
end Vk
set_option maxHeartbeats 4000000
/-! the end of a law whose top is run by the kernel at once: what is looked at behind the top -/
namespace Vk
open PySem PySem.Spec PyProof.Rows L2
abbrev SeeV : Type := Bool × List He.FnV
def seeV (fs : List (PySem.W.Frag → Bool)) (fn : List He.FnD) (K : PySem.W.Frag) : SeeV := (fs.all fun f => f K, fn.map fun d => He.fnObs K d.at_)
def dueV (fn : List He.FnD) : SeeV := (true, fn.map He.FnD.val)
/-- what stands below the module's names: their objects; code, defaults, a class's names; what stands in these; its code -/
def valsV (g : Addr → Option Obj) (a : Addr) : List Addr := match g a with
  | some ⟨_, _, .dict es _, _⟩ => es.toList.flatMap fun e => He.refV e.val
  | some ⟨_, _, .seq its _, _⟩ => its.toList.flatMap He.refV
  | _ => []
def backV (g : Addr → Option Obj) (a : Addr) : List Addr := match g a with
  | some ⟨_, _, .func fd, _⟩ => He.refV fd.code ++ (He.refV fd.kwdefaults ++ He.refV fd.defaults)
  | some ⟨_, _, .cls cd, _⟩ => [cd.ns]
  | some ⟨_, _, .seq its _, _⟩ => its.toList.flatMap He.refV
  | _ => []
def asV (g : Addr → Option Obj) : List Addr :=
  let l1 := valsV g mainGlobals
  let l2 := l1.flatMap (backV g)
  let l3 := l2.flatMap (valsV g)
  mainGlobals :: (l1 ++ (l2 ++ (l3 ++ l3.flatMap (backV g))))
def partV (_ : Nat) (g : Addr → Option Obj) : PySem.W.Frag := He.frT g (asV g)
def hookV (n : Nat) (fs : List (PySem.W.Frag → Bool)) (fn : List He.FnD) : PySem.W.Hook where
  α := SeeV
  obs := fun s => seeV fs fn (partV n s.heap.get?)
  val := fun _ => dueV fn
  says := fun _ h => ∃ K : PySem.W.Frag, K.In h ∧ seeV fs fn K = dueV fn
  of := fun _ _ e => ⟨_, He.frT_in, e⟩
  keeps := fun _ _ _ ⟨K, hK, c⟩ k => ⟨K, PySem.W.Frag.In.keeps hK k, c⟩
theorem seeV_eq {n : Nat} {fs : List (PySem.W.Frag → Bool)} {fn : List He.FnD} {g : Addr → Option Obj} {s : Shared} (h : ∀ a, g a = s.heap.get? a) : seeV fs fn (partV n g) = (hookV n fs fn).obs s := by
  have e : g = s.heap.get? := funext h
  rw [e]
  rfl
section
variable {fs : List (PySem.W.Frag → Bool)} {fn : List He.FnD} {K : PySem.W.Frag}
theorem facV (c : seeV fs fn K = dueV fn) (i : Nat) {f : PySem.W.Frag → Bool} (h : fs[i]? = some f) : f K = true :=
  List.all_eq_true.mp (show (fs.all fun f => f K) = true from congrArg (fun z : SeeV => z.1) c) f (List.mem_of_getElem? h)
theorem defV (c : seeV fs fn K = dueV fn) (i : Nat) {d : He.FnD} (h : fn[i]? = some d) : He.fnObs K d.at_ = d.val := by
  have e : fn.map (fun d => He.fnObs K d.at_) = fn.map He.FnD.val := congrArg (fun z : SeeV => z.2) c
  have e2 : (fn.map fun d => He.fnObs K d.at_)[i]? = (fn.map He.FnD.val)[i]? := by rw [e]
  rw [List.getElem?_map, List.getElem?_map, h] at e2
  exact Option.some.inj e2
end
theorem join3 {α β γ δ : Type} {o : Option α} {f : α → β} {g : α → γ} {k : α → δ} {a : β} {b : γ} {c : δ} (h1 : o.map f = some a) (h2 : o.map g = some b) (h3 : o.map k = some c) : o.map (fun x => (f x, g x, k x)) = some (a, b, c) := by
  cases o with
  | none => cases h1
  | some x =>
    cases (Option.some.inj h1)
    cases (Option.some.inj h2)
    cases (Option.some.inj h3)
    rfl
/-! ### a def of the top -/
def dD (x : Str) (st : Stmt) : He.FnD := ⟨(x, none), x, x, defArgs st, defBody st, defScope st⟩
def bD (x : Str) (K : PySem.W.Frag) : Bool := He.eqO (PySem.W.nsIn K mainGlobals x) (some (some (.ref (He.ga K x)))) && ((He.Fa.code (x, none) x).ok K && PySem.W.keepIn K (.ref (He.ga K x)))
theorem okD {K : PySem.W.Frag} {x : Str} {st : Stmt} (e : He.fnObs K (dD x st).at_ = (dD x st).val) (c : bD x K = true) :
    ∃ oc od sl kV dc pm an cd ct, PySem.W.nsIn K mainGlobals x = some (some (.ref (He.ga K x))) ∧ K.lookup (He.ga K x) = some ⟨oc, od, .func (PySem.W.fnOf x x (defArgs st) (defBody st) (defScope st) .none kV dc pm an cd ct), sl⟩ ∧ PySem.W.codeIn K cd x = true ∧
      PySem.W.keepIn K (.ref (He.ga K x)) = true := by
  obtain ⟨c1, c2⟩ := He.ba c
  obtain ⟨c2, c3⟩ := He.ba c2
  obtain ⟨oc, od, sl, kV, dc, pm, an, cd, ct, l, k⟩ := He.fn_ok (d := dD x st) e c2
  exact ⟨oc, od, sl, kV, dc, pm, an, cd, ct, He.eqO_ok c1, l, k, c3⟩
/-! ### .. with one keyword's default, 1 -/
def kwRef (K : PySem.W.Frag) (f : Addr) : Value := match K.lookup f with
  | some ⟨_, _, .func fd, _⟩ => fd.kwdefaults
  | _ => .none
def oneAt (K : PySem.W.Frag) (y : Str) (i : Int) : Value → Bool
  | .ref D => (match PySem.W.nsIn K D y with
    | some (some (.int j _)) => decide (j = i)
    | _ => false)
  | _ => false
def bK (x y : Str) (K : PySem.W.Frag) : Bool := bD x K && oneAt K y 1 (kwRef K (He.ga K x))
theorem okK {K : PySem.W.Frag} {x y : Str} {st : Stmt} (e : He.fnObs K (dD x st).at_ = (dD x st).val) (c : bK x y K = true) :
    ∃ (oc : Value) (od : Option Addr) (sl : Array (Option Value)) (D : Addr) (dc pm : Value) (an : Option Addr) (cd ct : Value) (t : Tok), PySem.W.nsIn K mainGlobals x = some (some (.ref (He.ga K x))) ∧ K.lookup (He.ga K x) = some ⟨oc, od, .func (PySem.W.fnOf x x (defArgs st) (defBody st) (defScope st) .none (.ref D) dc pm an cd ct), sl⟩ ∧ PySem.W.codeIn K cd x = true ∧
      PySem.W.keepIn K (.ref (He.ga K x)) = true ∧ PySem.W.nsIn K D y = some (some (.int 1 t)) := by
  obtain ⟨c1, c2⟩ := He.ba c
  obtain ⟨oc, od, sl, kV, dc, pm, an, cd, ct, a, l, k, k2⟩ := okD e c1
  unfold kwRef at c2
  rw [l] at c2
  have c3 : oneAt K y 1 kV = true := c2
  cases kV with
  | ref D =>
    have c4 : (match PySem.W.nsIn K D y with
      | some (some (.int j _)) => decide (j = 1)
      | _ => false) = true := c3
    cases q : PySem.W.nsIn K D y with
    | none =>
      rw [q] at c4
      cases c4
    | some o =>
      rw [q] at c4
      cases o with
      | none => cases c4
      | some v =>
        cases v with
        | int j t =>
          have ej : j = 1 := of_decide_eq_true c4
          rw [ej] at q
          exact ⟨oc, od, sl, D, dc, pm, an, cd, ct, t, a, l, k, k2, q⟩
        | _ => cases c4
  | _ => cases c3
/-! ### a number of the top -/
def bI (x : Str) (i : Int) (K : PySem.W.Frag) : Bool := match PySem.W.nsIn K mainGlobals x with
  | some (some (.int j _)) => decide (j = i)
  | _ => false
theorem okI {K : PySem.W.Frag} {x : Str} {i : Int} (c : bI x i K = true) : ∃ t, PySem.W.nsIn K mainGlobals x = some (some (.int i t)) := by
  unfold bI at c
  cases q : PySem.W.nsIn K mainGlobals x with
  | none =>
    rw [q] at c
    cases c
  | some o =>
    rw [q] at c
    cases o with
    | none => cases c
    | some v =>
      cases v with
      | int j t =>
        have ej : j = i := of_decide_eq_true c
        rw [ej]
        exact ⟨t, rfl⟩
      | _ => cases c
/-! ### a def whose code object's table grows -/
def bN (x : Str) (K : PySem.W.Frag) : Bool := bD x K && (match PySem.W.tabIn K x with
  | some (_, P) => (K.lookup P).isNone
  | none => false)
theorem okN {K : PySem.W.Frag} {x : Str} {st : Stmt} (e : He.fnObs K (dD x st).at_ = (dD x st).val) (c : bN x K = true) :
    ∃ (oc : Value) (od : Option Addr) (sl : Array (Option Value)) (kV dc pm : Value) (an : Option Addr) (ct : Value) (cN PN : Addr) (eN : Value) (dd : Option Addr) (vs : Array Value) (sc : Array (Option Value)),
      PySem.W.nsIn K mainGlobals x = some (some (.ref (He.ga K x))) ∧ K.lookup (He.ga K x) = some ⟨oc, od, .func (PySem.W.fnOf x x (defArgs st) (defBody st) (defScope st) .none kV dc pm an (.ref cN) ct), sl⟩ ∧ PySem.W.codeIn K (.ref cN) x = true ∧
      PySem.W.keepIn K (.ref (He.ga K x)) = true ∧ K.lookup cN = some ⟨eN, dd, .fields vs, sc⟩ ∧ (vs[11]? : Option Value) = some (.ref PN) ∧ K.lookup PN = none := by
  obtain ⟨c1, c2⟩ := He.ba c
  obtain ⟨oc, od, sl, kV, dc, pm, an, cd, ct, a, l, k, k2⟩ := okD e c1
  cases q : PySem.W.tabIn K x with
  | none =>
    rw [q] at c2
    cases c2
  | some r =>
    obtain ⟨cN, PN⟩ := r
    rw [q] at c2
    have c3 : (K.lookup PN).isNone = true := c2
    unfold PySem.W.tabIn at q
    rw [a] at q
    dsimp only at q
    rw [l] at q
    dsimp only [PySem.W.fnOf] at q
    cases cd with
    | ref c =>
      dsimp only at q
      cases hc : K.lookup c with
      | none =>
        rw [hc] at q
        cases q
      | some o =>
        obtain ⟨eN, dd, dt, sc⟩ := o
        rw [hc] at q
        cases dt with
        | fields vs =>
          dsimp only at q
          cases hv : (vs[11]? : Option Value) with
          | none =>
            rw [hv] at q
            cases q
          | some v =>
            rw [hv] at q
            cases v with
            | ref P =>
              cases q
              exact ⟨oc, od, sl, kV, dc, pm, an, ct, cN, PN, eN, dd, vs, sc, a, l, k, k2, hc, hv, Option.isNone_iff_eq_none.mp c3⟩
            | _ => cases q
        | _ => cases q
    | _ => cases q
/-! ### an own error's class -/
def bX (S : Addr) (C : Addr) (K : PySem.W.Frag) : Bool := match K.lookup C with
  | some ⟨.type t, _, .cls cd, sl⟩ => decide (t = "type") && (decide (cd.mro = [.ref C, .ref S, .type "ValueError", .type "Exception", .type "BaseException", .type "object"]) && (cd.hasDict && (!cd.hasDel && (match sl.toList with
    | [_, _, _, _, some (.builtin n), _] => decide (n = "ValueError.__new__")
    | _ => false))))
  | _ => false
theorem okX {K : PySem.W.Frag} {S C : Addr} (c : bX S C K = true) : ∃ (nm q : Str) (N : Addr) (bs : List Value) (sn : List Str) (sb : List Value) (ab : Bool) (col : Option Bool) (dd : Option Addr) (m0 m1 m2 m3 m5 : Option Value),
    K.lookup C = some (excClassObj nm q C N bs [.ref S, .type "ValueError", .type "Exception", .type "BaseException", .type "object"] true sn sb ab col dd m0 m1 m2 m3 m5 "ValueError.__new__") := by
  unfold bX at c
  cases q : K.lookup C with
  | none =>
    rw [q] at c
    cases c
  | some o =>
    obtain ⟨oc, dd, dt, sl⟩ := o
    rw [q] at c
    cases oc with
    | type t =>
      cases dt with
      | cls cd =>
        obtain ⟨nm, bs, mro, N, qn, hd, sn, sb, ab, col, del⟩ := cd
        obtain ⟨sl⟩ := sl
        obtain ⟨h1, c⟩ := He.ba c
        obtain ⟨h2, c⟩ := He.ba c
        obtain ⟨h3, c⟩ := He.ba c
        obtain ⟨h4, h5⟩ := He.ba c
        have e1 : t = "type" := of_decide_eq_true h1
        have e2 : mro = _ := of_decide_eq_true h2
        have e3 : hd = true := h3
        have e4 : del = false := by
          cases del
          · rfl
          · cases h4
        dsimp only at h5
        split at h5
        · rename_i k0 k1 k2 k3 n k5 z1 z2 z3
          have e5 : n = "ValueError.__new__" := of_decide_eq_true h5
          subst e1 e2 e3 e4 e5
          exact ⟨nm, qn, N, bs, sn, sb, ab, col, dd, k0, k1, k2, k3, k5, rfl⟩
        · cases h5
      | _ => cases c
    | _ => cases dt <;> cases c
/-! ### a method of a class of the top -/
def dM (x m q : Str) (st : Stmt) : He.FnD := ⟨(x, some m), m, q, defArgs st, defBody st, defScope st⟩
theorem okM {K : PySem.W.Frag} {x m qn : Str} {st : Stmt} (e : He.fnObs K (dM x m qn st).at_ = (dM x m qn st).val) (c : (He.Fa.code (x, some m) qn).ok K = true) :
    ∃ oc od sl kV dc pm an cd ct, K.lookup (He.ma K (He.ga K x) m) = some ⟨oc, od, .func (PySem.W.fnOf m qn (defArgs st) (defBody st) (defScope st) .none kV dc pm an cd ct), sl⟩ ∧ PySem.W.codeIn K cd qn = true := He.fn_ok (d := dM x m qn st) e c
end Vk
set_option maxHeartbeats 4000000
namespace Vk
open PySem L2
def top (i : Nat) : Stmt := PySem.Challenge.pw_blindslots_k19_whole_runs_split_behind_a.main.body.getD i (.Pass ⟨0, 0, 0, 0⟩)
abbrev sBdInit : Stmt := inClass (top 2) 0
abbrev sBdEnter : Stmt := inClass (top 2) 2
abbrev sBdOrder : Stmt := inClass (top 2) 3
abbrev sBdRunning : Stmt := inClass (top 2) 4
abbrev sBdLevelOf : Stmt := inClass (top 2) 5
abbrev sBdMany : Stmt := inClass (top 2) 6
abbrev sBdEnds : Stmt := inClass (top 2) 7
abbrev sBdEndUnits : Stmt := inClass (top 2) 8
abbrev sBdEndQuanta : Stmt := inClass (top 2) 9
abbrev sBdLift : Stmt := inClass (top 2) 10
abbrev sBdLog : Stmt := inClass (top 2) 11
abbrev sBdLengths : Stmt := inClass (top 2) 12
abbrev sJobsInit : Stmt := inClass (top 5) 0
abbrev sRuleInit : Stmt := inClass (top 6) 0
abbrev sLensInit : Stmt := inClass (top 7) 0
abbrev sInteger : Stmt := top 18
abbrev sTupleOf : Stmt := top 19
abbrev sName : Stmt := top 20
abbrev sCheck : Stmt := top 22
abbrev sHas : Stmt := top 23
abbrev sEach : Stmt := top 24
abbrev sIsJob : Stmt := top 25
abbrev sArrival : Stmt := top 26
abbrev sWaits : Stmt := top 27
abbrev sCheckLens : Stmt := top 29
abbrev sCheckR : Stmt := top 33
abbrev sLevel : Stmt := top 34
abbrev sIsCnt : Stmt := top 35
abbrev sJoined : Stmt := top 37
abbrev sCoInit : Stmt := inClass (top 40) 0
abbrev sCoLetIn : Stmt := inClass (top 40) 1
abbrev sCoEnds : Stmt := inClass (top 40) 2
abbrev sCoGoOn : Stmt := inClass (top 40) 3
abbrev sCoGoTo : Stmt := inClass (top 40) 4
abbrev sCoStretches : Stmt := inClass (top 40) 5
abbrev sChecked : Stmt := top 41
abbrev sByLens : Stmt := top 42
abbrev sMix : Stmt := top 48
abbrev sStore : Stmt := top 49
abbrev sPick : Stmt := top 50
abbrev sNames : Stmt := top 51
abbrev sBefore : Stmt := top 52
abbrev sJobs : Stmt := top 53
abbrev sRule : Stmt := top 54
abbrev sLengths : Stmt := top 55
abbrev sLaw : Stmt := top 61
abbrev sMarksInit : Stmt := inClass (top 9) 0
abbrev sRun : Stmt := top 44
abbrev sFinish : Stmt := top 45
abbrev sFirstD : Stmt := top 38
abbrev sSplit : Stmt := top 46
abbrev sNamesIn : Stmt := top 57
abbrev sFirstL : Stmt := top 58
abbrev sOthers : Stmt := top 59
abbrev sShort : Stmt := top 60
abbrev sKind : Stmt := top 56
end Vk
set_option maxHeartbeats 4000000
/-! values as data: kinds, integers, tuples -/
namespace Vk
open PySem PySem.Spec PyProof.Rows L2
def tyN : PyData → String
  | .none => "NoneType"
  | .bool _ => "bool"
  | .int _ => "int"
  | .str _ => "str"
  | .list _ => "list"
  | .tuple _ => "tuple"
  | .dict _ => "dict"
theorem dp_ty {K : PySem.W.Frag} {H : Hp} {v : V} {d : PyData} (h : Dp K H v d) : TyX K H v (.type (tyN d)) := by
  cases h with
  | non => exact .base .non
  | bl b => exact .base (.bl b)
  | int i => exact .base (.int i)
  | str x => exact .base (.str x)
  | lst q _ =>
    rcases q with (q | ⟨o, q⟩) | ⟨o, its, n, hk, hc, _⟩
    · exact .base (.lst q)
    · exact .base (.frz q)
    · exact .kList hk hc
  | tup q _ =>
    rcases q with (q | ⟨o, q⟩) | ⟨o, its, n, hk, hc, _⟩
    · exact .base (.tup q)
    · exact .fTuple q
    · exact .kTuple hk hc
def isIntD : PyData → Bool
  | .bool _ => true
  | .int _ => true
  | _ => false
def isBoolD : PyData → Bool
  | .bool _ => true
  | _ => false
def isTupD : PyData → Bool
  | .tuple _ => true
  | _ => false
def isStrD : PyData → Bool
  | .str _ => true
  | _ => false
section
variable {K : PySem.W.Frag} {H : Hp} {v : V} {d : PyData}
theorem kit_int (h : Dp K H v d) : PySem.W.kitOne K (.type (tyN d)) (.type "int") = some (isIntD d) := by
  cases h with
  | non => exact kit_ty (show kitB "NoneType" "int" = some false by decide +kernel)
  | bl _ => exact kit_ty (show kitB "bool" "int" = some true by decide +kernel)
  | int _ => exact kit_ty (show kitB "int" "int" = some true by decide +kernel)
  | str _ => exact kit_ty (show kitB "str" "int" = some false by decide +kernel)
  | lst _ _ => exact kit_ty (show kitB "list" "int" = some false by decide +kernel)
  | tup _ _ => exact kit_ty (show kitB "tuple" "int" = some false by decide +kernel)
theorem kit_bool (h : Dp K H v d) : PySem.W.kitOne K (.type (tyN d)) (.type "bool") = some (isBoolD d) := by
  cases h with
  | non => exact kit_ty (show kitB "NoneType" "bool" = some false by decide +kernel)
  | bl _ => exact kit_ty (show kitB "bool" "bool" = some true by decide +kernel)
  | int _ => exact kit_ty (show kitB "int" "bool" = some false by decide +kernel)
  | str _ => exact kit_ty (show kitB "str" "bool" = some false by decide +kernel)
  | lst _ _ => exact kit_ty (show kitB "list" "bool" = some false by decide +kernel)
  | tup _ _ => exact kit_ty (show kitB "tuple" "bool" = some false by decide +kernel)
theorem kit_tup (h : Dp K H v d) : PySem.W.kitOne K (.type (tyN d)) (.type "tuple") = some (isTupD d) := by
  cases h with
  | non => exact kit_ty (show kitB "NoneType" "tuple" = some false by decide +kernel)
  | bl _ => exact kit_ty (show kitB "bool" "tuple" = some false by decide +kernel)
  | int _ => exact kit_ty (show kitB "int" "tuple" = some false by decide +kernel)
  | str _ => exact kit_ty (show kitB "str" "tuple" = some false by decide +kernel)
  | lst _ _ => exact kit_ty (show kitB "list" "tuple" = some false by decide +kernel)
  | tup _ _ => exact kit_ty (show kitB "tuple" "tuple" = some true by decide +kernel)
theorem kit_strT (h : Dp K H v d) : PySem.W.kitOne K (.type (tyN d)) (.type "str") = some (isStrD d) := by
  cases h with
  | non => exact kit_ty (show kitB "NoneType" "str" = some false by decide +kernel)
  | bl _ => exact kit_ty (show kitB "bool" "str" = some false by decide +kernel)
  | int _ => exact kit_ty (show kitB "int" "str" = some false by decide +kernel)
  | str _ => exact kit_ty (show kitB "str" "str" = some true by decide +kernel)
  | lst _ _ => exact kit_ty (show kitB "list" "str" = some false by decide +kernel)
  | tup _ _ => exact kit_ty (show kitB "tuple" "str" = some false by decide +kernel)
theorem dp_tuple {ds : List PyData} (h : Dp K H v (.tuple ds)) : ∃ a xs, v = .ref a ∧ SqT K H a xs ∧ DpAll K H xs ds := by
  cases h with
  | tup q r => exact ⟨_, _, rfl, q, r⟩
theorem dp_int {i : Int} (h : Dp K H v (.int i)) : v = .int i := by
  cases h
  rfl
theorem dp_bool {i : Bool} (h : Dp K H v (.bool i)) : v = .bl i := by
  cases h
  rfl
theorem dp_str {i : Str} (h : Dp K H v (.str i)) : v = .str i := by
  cases h
  rfl
theorem dp_none (h : Dp K H v .none) : v = .non := by
  cases h
  rfl
theorem dps_len : ∀ {vs : List V} {ds : List PyData}, DpAll K H vs ds → vs.length = ds.length
  | _, _, .nil => rfl
  | _, _, .cons _ r => congrArg (· + 1) (dps_len r)
theorem dps_get : ∀ {vs : List V} {ds : List PyData} {i : Nat} {d : PyData}, DpAll K H vs ds → ds[i]? = some d → ∃ v, vs[i]? = some v ∧ Dp K H v d
  | _, _, 0, _, .cons h _, e => by cases e; exact ⟨_, rfl, h⟩
  | _, _, i + 1, _, .cons _ r, e => by
    obtain ⟨v, h1, h2⟩ := dps_get r (i := i) (by simpa using e)
    exact ⟨v, by simpa using h1, h2⟩
theorem dps_getV : ∀ {vs : List V} {ds : List PyData} {i : Nat} {v : V}, DpAll K H vs ds → vs[i]? = some v → ∃ d, ds[i]? = some d ∧ Dp K H v d
  | _, _, 0, _, .cons h _, e => by cases e; exact ⟨_, rfl, h⟩
  | _, _, i + 1, _, .cons _ r, e => by
    obtain ⟨v, h1, h2⟩ := dps_getV r (i := i) (by simpa using e)
    exact ⟨v, by simpa using h1, h2⟩
theorem dps_app : ∀ {vs us : List V} {ds es : List PyData}, DpAll K H vs ds → DpAll K H us es → DpAll K H (vs ++ us) (ds ++ es)
  | _, _, _, _, .nil, h => h
  | _, _, _, _, .cons h r, q => .cons h (dps_app r q)
theorem dps_take : ∀ {vs : List V} {ds : List PyData} (n : Nat), DpAll K H vs ds → DpAll K H (vs.take n) (ds.take n)
  | _, _, 0, _ => .nil
  | _, _, n + 1, .nil => .nil
  | _, _, n + 1, .cons h r => .cons h (dps_take n r)
theorem dps_drop : ∀ {vs : List V} {ds : List PyData} (n : Nat), DpAll K H vs ds → DpAll K H (vs.drop n) (ds.drop n)
  | _, _, 0, h => h
  | _, _, n + 1, .nil => .nil
  | _, _, n + 1, .cons h r => dps_drop n r
/-- flat data -/
def flatD : PyData → Bool
  | .none => true
  | .bool _ => true
  | .int _ => true
  | .str _ => true
  | _ => false
theorem dp_flat (h : Dp K H v d) : flatV v = flatD d := by
  cases h <;> rfl
end
/-- an integer from a least one on -/
def integerD (least : Int) : PyData → Bool
  | .int i => decide (least ≤ i)
  | _ => false
def tupleND (n : Int) : PyData → Bool
  | .tuple ds => decide ((ds.length : Int) = n)
  | _ => false
/-! ### their defs' promises -/
def spInteger (K : PySem.W.Frag) : Sp := fun vs H Q _ => ∃ (v : V) (d : PyData) (least : Int), vs = [v, .int least] ∧ Dp K H v d ∧ Q (.bl (integerD least d)) H
def spTupleOf (K : PySem.W.Frag) : Sp := fun vs H Q _ => ∃ (v : V) (d : PyData) (n : Int), vs = [v, .int n] ∧ Dp K H v d ∧ Q (.bl (tupleND n d)) H
structure Blt (mg : Str → Option Value) : Prop where
  len : mg "len" = none
  isi : mg "isinstance" = none
  int : mg "int" = none
  bool : mg "bool" = none
  tuple : mg "tuple" = none
  str : mg "str" = none
  range : mg "range" = none
  enum : mg "enumerate" = none
  list : mg "list" = none
/-- isinstance(e, T), T a built-in type -/
def tIsi (K : PySem.W.Frag) (T : String) (te : TE) : TE := tCB (rIsi K) (tCons te (tCons (tC (.ty T)) tNil))
theorem isi_go {K : PySem.W.Frag} {T : String} {te : TE} {σ : L2.St} {H H1 : Hp} {v : V} {d : PyData} {b : Bool} {Q : VK} (h : ∀ R : VK, R v H1 → te σ H R) (hd : Dp K H1 v d) (k : PySem.W.kitOne K (.type (tyN d)) (.type T) = some b) (q : Q (.bl b) H1) : tIsi K T te σ H Q :=
  h _ ⟨v, .ty T, _, _, b, rfl, .ty T, dp_ty hd, k, q⟩
end Vk
set_option maxHeartbeats 4000000
/-! the board: what it is, and where it stands -/
namespace Vk
open PySem PySem.Spec PyProof.Rows L2
/-- a rule: for each level whether it is a stack, its quantum; the boost -/
structure Rl where
  levels : List (Bool × Option Int)
  boost : Option Int
def bOptD : Option Int → PyData
  | none => .none
  | some i => .int i
def bOptW : Option Int → V
  | none => .non
  | some i => .int i
def bKindS (b : Bool) : Str := if b then "stack" else "queue"
def bLevD (l : Bool × Option Int) : PyData := .tuple [.str (bKindS l.1), bOptD l.2]
def bRulD (r : Rl) : PyData := .tuple [.tuple (r.levels.map bLevD), bOptD r.boost]
structure Rl.Ok (r : Rl) : Prop where
  len1 : 1 ≤ r.levels.length
  len6 : r.levels.length ≤ 6
  quanta : ∀ l ∈ r.levels, ∀ q, l.2 = some q → 1 ≤ q
  boost : ∀ q, r.boost = some q → 1 ≤ q
/-- a board: the moment, the lines, the units since the level was entered and all of them, the finishes -/
structure Bd where
  now : Int
  lines : List (List Str)
  used : List (Str × Int)
  ran : List (Str × Int)
  fins : List (Int × List Str × List Str)
def kvS (l : List (Str × Int)) : List (Key × V) := l.map fun p => (Sum.inr p.1, V.int p.2)
def Bd.order (s : Bd) : List Str := s.lines.flatten
def Bd.run (s : Bd) (c : Int) : List Str := s.order.take c.toNat
def finD (f : Int × List Str × List Str) : PyData := .tuple [.int f.1, .tuple (f.2.1.map PyData.str), .tuple (f.2.2.map PyData.str)]
/-! ### dictionaries of texts and ints -/
def addS (l : List (Str × Int)) (x : Str) (d : Int) : List (Str × Int) := l.map fun p => if p.1 = x then (p.1, p.2 + d) else p
def putS (l : List (Str × Int)) (x : Str) (v : Int) : List (Str × Int) := l.map fun p => if p.1 = x then (p.1, v) else p
def dropS (l : List (Str × Int)) (x : Str) : List (Str × Int) := l.filter fun p => decide (p.1 ≠ x)
def getS (l : List (Str × Int)) (x : Str) : Int := (l.lookup x).getD 0
theorem valS : ∀ (l : List (Str × Int)) (x : Str), valV (kvS l) (Sum.inr x) = (l.lookup x).map V.int
  | [], _ => rfl
  | (y, v) :: r, x => by
    show valV ((Sum.inr y, V.int v) :: kvS r) (Sum.inr x) = _
    rw [List.lookup_cons]
    by_cases e : x = y
    · subst e
      rw [beq_self_eq_true, valV_pos rfl]
      rfl
    · rw [valV_neg (fun z => e (Sum.inr.inj z).symm), valS r x]
      rw [show (x == y) = false from beq_eq_false_iff_ne.mpr e]
theorem lookS {l : List (Str × Int)} {x : Str} (h : x ∈ l.map (·.1)) : l.lookup x = some (getS l x) := by
  unfold getS
  cases e : l.lookup x with
  | some v => rfl
  | none =>
    obtain ⟨p, hp, rfl⟩ := List.mem_map.mp h
    have z := List.lookup_eq_none_iff.mp e p hp
    simp at z
theorem lookS_none {l : List (Str × Int)} {x : Str} (h : x ∉ l.map (·.1)) : l.lookup x = none :=
  List.lookup_eq_none_iff.mpr fun p hp => bne_iff_ne.mpr fun z => h (List.mem_map.mpr ⟨p, hp, z.symm⟩)
theorem putK_S {l : List (Str × Int)} {x : Str} {v : Int} (h : x ∈ l.map (·.1)) : putK (kvS l) (Sum.inr x) (.int v) = kvS (putS l x v) := by
  have e : (valV (kvS l) (Sum.inr x)).isSome = true := by rw [valS, lookS h]; rfl
  unfold putK
  rw [if_pos (by rw [valV_any]; exact e)]
  unfold kvS putS
  rw [List.map_map, List.map_map]
  refine List.map_congr_left fun p _ => ?_
  show (if Sum.inr p.1 = (Sum.inr x : Key) then _ else _) = _
  by_cases z : p.1 = x
  · rw [if_pos (by rw [z])]
    simp [z]
  · rw [if_neg (fun q => z (Sum.inr.inj q))]
    simp [z]
theorem putK_new_S {l : List (Str × Int)} {x : Str} {v : Int} (h : x ∉ l.map (·.1)) : putK (kvS l) (Sum.inr x) (.int v) = kvS (l ++ [(x, v)]) := by
  rw [putK_new _ (by rw [valS, lookS_none h]; rfl)]
  unfold kvS
  rw [List.map_append]
  rfl
theorem putS_keys (l : List (Str × Int)) (x : Str) (v : Int) : (putS l x v).map (·.1) = l.map (·.1) := by
  unfold putS
  rw [List.map_map]
  refine List.map_congr_left fun p _ => ?_
  show (if p.1 = x then (p.1, v) else p).1 = p.1
  split <;> rfl
theorem addS_keys (l : List (Str × Int)) (x : Str) (v : Int) : (addS l x v).map (·.1) = l.map (·.1) := by
  unfold addS
  rw [List.map_map]
  refine List.map_congr_left fun p _ => ?_
  show (if p.1 = x then (p.1, p.2 + v) else p).1 = p.1
  split <;> rfl
theorem put_add {l : List (Str × Int)} {x : Str} {d : Int} (nd : (l.map (·.1)).Nodup) : putS l x (getS l x + d) = addS l x d := by
  induction l with
  | nil => rfl
  | cons p r ih =>
    obtain ⟨h1, h2⟩ := List.nodup_cons.mp nd
    obtain ⟨y, v⟩ := p
    by_cases e : y = x
    · subst e
      have out : ∀ q ∈ r, q.1 ≠ y := fun q hq z => h1 (List.mem_map.mpr ⟨q, hq, z⟩)
      have g : getS ((y, v) :: r) y = v := by
        unfold getS
        rw [List.lookup_cons, beq_self_eq_true]
        rfl
      rw [g]
      unfold putS addS
      rw [List.map_cons, List.map_cons, if_pos rfl]
      congr 1
      exact List.map_congr_left fun q hq => by rw [if_neg (out q hq), if_neg (out q hq)]
    · have g : getS ((y, v) :: r) x = getS r x := by
        unfold getS
        rw [List.lookup_cons, show (x == y) = false from beq_eq_false_iff_ne.mpr (Ne.symm e)]
      rw [g]
      unfold putS addS
      rw [List.map_cons, List.map_cons, if_neg (show (y, v).1 ≠ x from e), if_neg (show (y, v).1 ≠ x from e)]
      congr 1
      exact ih h2
theorem dropK_S (l : List (Str × Int)) (x : Str) : dropK (kvS l) (Sum.inr x) = kvS (dropS l x) := by
  unfold dropK kvS dropS
  rw [List.filter_map]
  congr 1
  refine List.filter_congr fun p _ => ?_
  show decide (Sum.inr p.1 ≠ (Sum.inr x : Key)) = decide (p.1 ≠ x)
  by_cases z : p.1 = x
  · simp [z]
  · simp [z]
/-! ### a part of the heap hidden -/
def OffL (ft : List Addr) (H : Hp) : Hp := fun x => if x ∈ ft then none else H x
theorem offL_in {ft : List Addr} {H : Hp} {x : Addr} (h : x ∈ ft) : OffL ft H x = none := if_pos h
theorem offL_out {ft : List Addr} {H : Hp} {x : Addr} (h : x ∉ ft) : OffL ft H x = H x := if_neg h
theorem offL_some {ft : List Addr} {H : Hp} {x : Addr} {o : HO} (h : OffL ft H x = some o) : x ∉ ft ∧ H x = some o := by
  by_cases m : x ∈ ft
  · rw [offL_in m] at h
    cases h
  · rw [offL_out m] at h
    exact ⟨m, h⟩
theorem offL_sub (ft : List Addr) (H : Hp) : Same (OffL ft H) H := .of fun b o e => (offL_some e).2
theorem offL_upd {ft : List Addr} {H : Hp} {a : Addr} {o : HO} (h : a ∈ ft) : OffL ft (upd H a o) = OffL ft H := by
  funext x
  by_cases m : x ∈ ft
  · rw [offL_in m, offL_in m]
  · rw [offL_out m, offL_out m, upd_ne (fun z => m (by rw [z]; exact h))]
theorem offL_put {ft : List Addr} {H : Hp} {a : Addr} {o : HO} (h : a ∉ ft) : OffL ft (upd H a o) = upd (OffL ft H) a o := by
  funext x
  by_cases e : x = a
  · rw [e, upd_same, offL_out h, upd_same]
  · rw [upd_ne e]
    by_cases m : x ∈ ft
    · rw [offL_in m, offL_in m]
    · rw [offL_out m, offL_out m, upd_ne e]
/-- all that stood keeps standing; what is hidden is hidden again -/
theorem offL_mono {ft : List Addr} {H H' : Hp} (s : Same H H') : Same (OffL ft H) (OffL ft H') := by
  refine ⟨fun b o e n => ?_, fun b e => ?_, fun P ⟨ps, e, t⟩ => ?_⟩
  · obtain ⟨h1, h2⟩ := offL_some e
    rw [offL_out h1]
    exact s.at_ b o h2 n
  · by_cases m : b ∈ ft
    · rw [offL_in m] at e
      exact absurd rfl e
    · rw [offL_out m] at e ⊢
      exact s.has b e
  · obtain ⟨h1, h2⟩ := offL_some e
    obtain ⟨qs, f, u⟩ := s.tab P ⟨ps, h2, t⟩
    exact ⟨qs, by rw [offL_out h1]; exact f, u⟩
/-- another hidden part, of new addresses -/
theorem offL_swap {ft ft' : List Addr} {H : Hp} (h : ∀ x ∈ ft', x ∈ ft ∨ H x = none) : Same (OffL ft H) (OffL ft' H) := by
  have key : ∀ b o, OffL ft H b = some o → OffL ft' H b = some o := fun b o e => by
    obtain ⟨h1, h2⟩ := offL_some e
    rw [offL_out (fun m => by
      rcases h b m with z | z
      · exact h1 z
      · rw [z] at h2
        cases h2)]
    exact h2
  exact .of key
end Vk
set_option maxHeartbeats 4000000
/-! methods as they stand; the board's place -/
namespace Vk
open PySem PySem.Spec PyProof.Rows L2
structure MDf (K : PySem.W.Frag) (C : Addr) (m qual : Str) (st : Stmt) (ps : List Str) : Prop where
  ex : ∃ f fd, Meth K C m f ∧ Fun K m qual st f fd ∧ Binds K fd ps []
structure MCl (P : Program) (w : World) (K : PySem.W.Frag) (mg : Str → Option Value) (base : Heap) (CX : CXT) (k : Nat) (C : Addr) (m : Str) (ps : List Str) (sp : Sp) : Prop where
  ex : ∃ f fd, Meth K C m f ∧ Binds K fd ps [] ∧ FnOk P w K mg base CX k f fd ps sp
section
variable {P : Program} {w : World} {K : PySem.W.Frag} {mg : Str → Option Value} {base : Heap}
theorem mcl0 {C : Addr} {m qual : Str} {st : Stmt} {N ps : List Str} {k : Nat} {sp : Sp} (D : MDf K C m qual st ps) (S : FnScope N ps (defScope st)) (len : ∀ vs H Q E, sp vs H Q E → vs.length = ps.length)
    (body : ∀ (f : Addr) (cdv : Value) (A : Around) (outer : List Env) (s : Shared) (H : Hp) (vs : List V) (Q : VK) (E : XK), Room k (A.deeper (envOfC qual (defScope st) s.heap.objs.size f cdv)) → sp vs H Q E →
      ∃ t, PSs (cxOf CX0 P w K mg base N qual (defScope st) f cdv A outer s H E).nox (defBody st) t ∧ t { nx := fun _ H' => Q .non H', rt := Q } (start N vs) H) : MCl P w K mg base CX0 (k + 1) C m ps sp := by
  obtain ⟨f, fd, M, F, b⟩ := D.ex
  exact ⟨f, fd, M, b, F.ok S len (body f)⟩
end
/-- what is asked of a class: its fields stand in no class -/
structure ClsF (K : PySem.W.Frag) (C : Addr) (fs : List Str) : Prop where
  cl : Cls K C
  no : ∀ f ∈ fs, NoAttr K C f
def bdF : List Str := ["rule", "processors", "now", "lines", "used", "ran", "finishes"]
/-- the addresses of a board's objects -/
structure BdA where
  dx : Addr
  L : Addr
  u : Addr
  n : Addr
  F : Addr
  ls : List Addr
def bf (rv : V) (c t : Int) (A : BdA) : List (Str × V) := [("rule", rv), ("processors", .int c), ("now", .int t), ("lines", .ref A.L), ("used", .ref A.u), ("ran", .ref A.n), ("finishes", .ref A.F)]
section
variable {rv : V} {c t : Int} {A : BdA}
theorem bf_rule : (bf rv c t A).lookup ("rule" : Str) = some rv := by kernel_rfl
theorem bf_proc : (bf rv c t A).lookup ("processors" : Str) = some (.int c) := by kernel_rfl
theorem bf_now : (bf rv c t A).lookup ("now" : Str) = some (.int t) := by kernel_rfl
theorem bf_lines : (bf rv c t A).lookup ("lines" : Str) = some (.ref A.L) := by kernel_rfl
theorem bf_used : (bf rv c t A).lookup ("used" : Str) = some (.ref A.u) := by kernel_rfl
theorem bf_ran : (bf rv c t A).lookup ("ran" : Str) = some (.ref A.n) := by kernel_rfl
theorem bf_fins : (bf rv c t A).lookup ("finishes" : Str) = some (.ref A.F) := by kernel_rfl
theorem bf_setNow (i : Int) : putF "now" (.int i) (bf rv c t A) = bf rv c i A := by kernel_rfl
theorem bf_setLines (a : Addr) : putF "lines" (.ref a) (bf rv c t A) = bf rv c t { A with L := a } := by kernel_rfl
theorem bf_setUsed (a : Addr) : putF "used" (.ref a) (bf rv c t A) = bf rv c t { A with u := a } := by kernel_rfl
theorem bf_setRan (a : Addr) : putF "ran" (.ref a) (bf rv c t A) = bf rv c t { A with n := a } := by kernel_rfl
theorem bf_setFins (a : Addr) : putF "finishes" (.ref a) (bf rv c t A) = bf rv c t { A with F := a } := by kernel_rfl
theorem bf_make (L u n F : Addr) (dx : Addr) : putF "finishes" (.ref F) (putF "ran" (.ref n) (putF "used" (.ref u) (putF "lines" (.ref L) (putF "now" (.int t) (putF "processors" (.int c) (putF "rule" rv [])))))) = bf rv c t ⟨dx, L, u, n, F, []⟩ := by kernel_rfl
end
def ftB (b : Addr) (A : BdA) : List Addr := b :: A.L :: A.u :: A.n :: A.F :: A.ls
/-- a board stands at b -/
structure BdAt (CB : Addr) (K : PySem.W.Frag) (H : Hp) (b : Addr) (rv : V) (c : Int) (A : BdA) (s : Bd) : Prop where
  ob : H b = some (.ins CB A.dx (bf rv c s.now A))
  lines : H A.L = some (.lst (A.ls.map V.ref))
  len : A.ls.length = s.lines.length
  line : ∀ (i : Nat) l ns, A.ls[i]? = some l → s.lines[i]? = some ns → H l = some (.lst (ns.map V.str))
  used : H A.u = some (.dK (kvS s.used))
  ran : H A.n = some (.dK (kvS s.ran))
  fins : ∃ xs, H A.F = some (.lst xs) ∧ DpAll K (OffL (ftB b A) H) xs (s.fins.map finD)
  nd : (A.L :: A.F :: A.ls).Nodup
  un : A.u ≠ A.n
section
variable {CB : Addr} {K : PySem.W.Frag} {H H' : Hp} {b : Addr} {rv : V} {c : Int} {A : BdA} {s : Bd}
theorem BdAt.bL (B : BdAt CB K H b rv c A s) : b ≠ A.L := ne_of B.ob B.lines (by intro z; cases z)
theorem BdAt.bu (B : BdAt CB K H b rv c A s) : b ≠ A.u := ne_of B.ob B.used (by intro z; cases z)
theorem BdAt.bn (B : BdAt CB K H b rv c A s) : b ≠ A.n := ne_of B.ob B.ran (by intro z; cases z)
theorem BdAt.bF (B : BdAt CB K H b rv c A s) : b ≠ A.F := by
  obtain ⟨xs, h, _⟩ := B.fins
  exact ne_of B.ob h (by intro z; cases z)
theorem BdAt.uL (B : BdAt CB K H b rv c A s) : A.u ≠ A.L := ne_of B.used B.lines (by intro z; cases z)
theorem BdAt.nL (B : BdAt CB K H b rv c A s) : A.n ≠ A.L := ne_of B.ran B.lines (by intro z; cases z)
theorem BdAt.uF (B : BdAt CB K H b rv c A s) : A.u ≠ A.F := by
  obtain ⟨xs, h, _⟩ := B.fins
  exact ne_of B.used h (by intro z; cases z)
theorem BdAt.nF (B : BdAt CB K H b rv c A s) : A.n ≠ A.F := by
  obtain ⟨xs, h, _⟩ := B.fins
  exact ne_of B.ran h (by intro z; cases z)
theorem BdAt.LF (B : BdAt CB K H b rv c A s) : A.L ≠ A.F := by
  have z := B.nd
  simp only [List.nodup_cons, List.mem_cons, not_or] at z
  exact z.1.1
theorem BdAt.Ll (B : BdAt CB K H b rv c A s) {l : Addr} (h : l ∈ A.ls) : l ≠ A.L := by
  have z := B.nd
  simp only [List.nodup_cons, List.mem_cons, not_or] at z
  exact fun e => z.1.2 (e ▸ h)
theorem BdAt.Fl (B : BdAt CB K H b rv c A s) {l : Addr} (h : l ∈ A.ls) : l ≠ A.F := by
  have z := B.nd
  simp only [List.nodup_cons, List.mem_cons, not_or] at z
  exact fun e => z.2.1 (e ▸ h)
theorem BdAt.at_line (B : BdAt CB K H b rv c A s) {l : Addr} (h : l ∈ A.ls) : ∃ (i : Nat) (ns : List Str), A.ls[i]? = some l ∧ s.lines[i]? = some ns ∧ H l = some (.lst (ns.map V.str)) := by
  obtain ⟨i, hi, e⟩ := List.mem_iff_getElem.mp h
  have h1 : A.ls[i]? = some l := by rw [List.getElem?_eq_getElem hi, e]
  have hl : i < s.lines.length := by rw [← B.len]; exact hi
  have h2 : s.lines[i]? = some s.lines[i] := List.getElem?_eq_getElem hl
  exact ⟨i, _, h1, h2, B.line i _ _ h1 h2⟩
theorem BdAt.bl (B : BdAt CB K H b rv c A s) {l : Addr} (h : l ∈ A.ls) : l ≠ b := by
  obtain ⟨_, _, _, _, e⟩ := B.at_line h
  exact (ne_of B.ob e (by intro z; cases z)).symm
theorem BdAt.ul (B : BdAt CB K H b rv c A s) {l : Addr} (h : l ∈ A.ls) : l ≠ A.u := by
  obtain ⟨_, _, _, _, e⟩ := B.at_line h
  exact (ne_of B.used e (by intro z; cases z)).symm
theorem BdAt.nl (B : BdAt CB K H b rv c A s) {l : Addr} (h : l ∈ A.ls) : l ≠ A.n := by
  obtain ⟨_, _, _, _, e⟩ := B.at_line h
  exact (ne_of B.ran e (by intro z; cases z)).symm
/-- nothing of it has changed -/
theorem BdAt.keep (B : BdAt CB K H b rv c A s) (e : ∀ x ∈ ftB b A, H' x = H x) (r : Same (OffL (ftB b A) H) (OffL (ftB b A) H')) : BdAt CB K H' b rv c A s := by
  have m1 : b ∈ ftB b A := by simp [ftB]
  have m2 : A.L ∈ ftB b A := by simp [ftB]
  have m3 : A.u ∈ ftB b A := by simp [ftB]
  have m4 : A.n ∈ ftB b A := by simp [ftB]
  have m5 : A.F ∈ ftB b A := by simp [ftB]
  obtain ⟨xs, f1, f2⟩ := B.fins
  exact ⟨(e _ m1).trans B.ob, (e _ m2).trans B.lines, B.len, fun i l ns h1 h2 => (e l (by simp [ftB, List.mem_of_getElem? h1])).trans (B.line i l ns h1 h2), (e _ m3).trans B.used, (e _ m4).trans B.ran, ⟨xs, (e _ m5).trans f1, dps_same r f2⟩, B.nd, B.un⟩
/-- all stands, some is new -/
theorem BdAt.same (B : BdAt CB K H b rv c A s) (k : Same H H') : BdAt CB K H' b rv c A s := by
  obtain ⟨xs, f1, f2⟩ := B.fins
  exact ⟨k.at B.ob, k.at B.lines, B.len, fun i l ns h1 h2 => k.at (B.line i l ns h1 h2), k.at B.used, k.at B.ran, ⟨xs, k.at f1, dps_same (offL_mono k) f2⟩, B.nd, B.un⟩
/-- the moment -/
theorem BdAt.setNow (B : BdAt CB K H b rv c A s) (t : Int) : BdAt CB K (upd H b (.ins CB A.dx (bf rv c t A))) b rv c A { s with now := t } := by
  obtain ⟨xs, f1, f2⟩ := B.fins
  refine ⟨upd_same, by rw [upd_ne B.bL.symm]; exact B.lines, B.len, fun i l ns h1 h2 => by rw [upd_ne (B.bl (List.mem_of_getElem? h1))]; exact B.line i l ns h1 h2, by rw [upd_ne B.bu.symm]; exact B.used, by rw [upd_ne B.bn.symm]; exact B.ran, ⟨xs, by rw [upd_ne B.bF.symm]; exact f1, by rw [offL_upd (by simp [ftB])]; exact f2⟩, B.nd, B.un⟩
/-- the units since -/
theorem BdAt.setUsed (B : BdAt CB K H b rv c A s) (u : List (Str × Int)) : BdAt CB K (upd H A.u (.dK (kvS u))) b rv c A { s with used := u } := by
  obtain ⟨xs, f1, f2⟩ := B.fins
  exact ⟨by rw [upd_ne B.bu]; exact B.ob, by rw [upd_ne B.uL.symm]; exact B.lines, B.len, fun i l ns h1 h2 => by rw [upd_ne (B.ul (List.mem_of_getElem? h1))]; exact B.line i l ns h1 h2, upd_same, by rw [upd_ne B.un.symm]; exact B.ran, ⟨xs, by rw [upd_ne B.uF.symm]; exact f1, by rw [offL_upd (by simp [ftB])]; exact f2⟩, B.nd, B.un⟩
theorem BdAt.setRan (B : BdAt CB K H b rv c A s) (u : List (Str × Int)) : BdAt CB K (upd H A.n (.dK (kvS u))) b rv c A { s with ran := u } := by
  obtain ⟨xs, f1, f2⟩ := B.fins
  exact ⟨by rw [upd_ne B.bn]; exact B.ob, by rw [upd_ne B.nL.symm]; exact B.lines, B.len, fun i l ns h1 h2 => by rw [upd_ne (B.nl (List.mem_of_getElem? h1))]; exact B.line i l ns h1 h2, by rw [upd_ne B.un]; exact B.used, upd_same, ⟨xs, by rw [upd_ne B.nF.symm]; exact f1, by rw [offL_upd (by simp [ftB])]; exact f2⟩, B.nd, B.un⟩
/-- a line -/
theorem BdAt.setLine (B : BdAt CB K H b rv c A s) {j : Nat} {l : Addr} {ns : List Str} (hj : A.ls[j]? = some l) : BdAt CB K (upd H l (.lst (ns.map V.str))) b rv c A { s with lines := s.lines.set j ns } := by
  have hl := List.mem_of_getElem? hj
  obtain ⟨xs, f1, f2⟩ := B.fins
  have ndl : A.ls.Nodup := (List.nodup_cons.mp (List.nodup_cons.mp B.nd).2).2
  refine ⟨by rw [upd_ne (B.bl hl).symm]; exact B.ob, by rw [upd_ne (B.Ll hl).symm]; exact B.lines, by rw [List.length_set]; exact B.len, fun i l' ns' h1 h2 => ?_, by rw [upd_ne (B.ul hl).symm]; exact B.used, by rw [upd_ne (B.nl hl).symm]; exact B.ran, ⟨xs, by rw [upd_ne (B.Fl hl).symm]; exact f1, by rw [offL_upd (by simp [ftB, hl])]; exact f2⟩, B.nd, B.un⟩
  by_cases e : i = j
  · subst e
    rw [hj] at h1
    cases h1
    have hlen : i < s.lines.length := by rw [← B.len]; exact (List.getElem?_eq_some_iff.mp hj).1
    replace h2 : (s.lines.set i ns)[i]? = some ns' := h2
    rw [List.getElem?_set_self hlen] at h2
    cases h2
    exact upd_same
  · replace h2 : (s.lines.set j ns)[i]? = some ns' := h2
    rw [List.getElem?_set_ne (Ne.symm e)] at h2
    rw [upd_ne (fun z => e (nd_ix ndl (by rw [← z]; exact h1) hj))]
    exact B.line i l' ns' h1 h2
/-- a finish -/
theorem BdAt.setFins (B : BdAt CB K H b rv c A s) {fs : List (Int × List Str × List Str)} {xs : List V} (d : DpAll K (OffL (ftB b A) H) xs (fs.map finD)) : BdAt CB K (upd H A.F (.lst xs)) b rv c A { s with fins := fs } := by
  obtain ⟨ys, f1, f2⟩ := B.fins
  exact ⟨by rw [upd_ne B.bF]; exact B.ob, by rw [upd_ne B.LF]; exact B.lines, B.len, fun i l ns h1 h2 => by rw [upd_ne (B.Fl (List.mem_of_getElem? h1))]; exact B.line i l ns h1 h2, by rw [upd_ne B.uF]; exact B.used, by rw [upd_ne B.nF]; exact B.ran, ⟨xs, upd_same, by rw [offL_upd (by simp [ftB])]; exact d⟩, B.nd, B.un⟩
end
end Vk
set_option maxHeartbeats 4000000
/-! {k: v for .. in .. if .. for .. in .. if ..}: a dict comprehension of two clauses -/
namespace Vk
open PySem PySem.Spec PyProof.Rows L2
abbrev E2 (kx vx t0 i0 : Expr) (f0 : List Expr) (t1 i1 : Expr) (f1 : List Expr) (sc : Scope) (ps : Pos) : Expr := .DictComp kx vx [⟨t0, i0, f0, 0⟩, ⟨t1, i1, f1, 0⟩] sc ps
theorem turnD_out (kx vx t0 i0 : Expr) (f0 : List Expr) (t1 i1 : Expr) (f1 : List Expr) (sc : Scope) (ps : Pos) (it ac : Value) (ev : Env) : compTurn (E2 kx vx t0 i0 f0 t1 i1 f1 sc ps) 0 it ac ev = (do
    standAt i0.pos
    match ← pyNext it with
    | none => pure (.done .next)
    | some got =>
      letOwnedTupleGo t0 it got
      assign t0 ev got
      let mut fits := true
      for cc in f0 do
        if fits then fits ← isTrue cc ev (eval cc ev)
      if fits then
        let src ← eval i1 ev
        standAt i1.pos
        let src ← foldedSetIterable i1 ev src
        let _ ← runOwn (.compStart (E2 kx vx t0 i0 f0 t1 i1 f1 sc ps) 1 (← holding [src] (pyIter src)) ac ev) ev
      again (.compLoop (E2 kx vx t0 i0 f0 t1 i1 f1 sc ps) 0 it ac ev)) := by rfl
theorem turnD_in (kx vx t0 i0 : Expr) (f0 : List Expr) (t1 i1 : Expr) (f1 : List Expr) (sc : Scope) (ps : Pos) (it : Value) (D : Addr) (ev : Env) : compTurn (E2 kx vx t0 i0 f0 t1 i1 f1 sc ps) 1 it (.ref D) ev = (do
    standAt i1.pos
    match ← pyNext it with
    | none => pure (.done .next)
    | some got =>
      letOwnedTupleGo t1 it got
      assign t1 ev got
      let mut fits := true
      for cc in f1 do
        if fits then fits ← isTrue cc ev (eval cc ev)
      if fits then
        (do
          let key ← eval kx ev
          let val ← holding [key] (eval vx ev)
          standAt { kx.pos with endLine := vx.pos.endLine, endCol := vx.pos.endCol }
          holding [key, val] (dictSet D key val))
      again (.compLoop (E2 kx vx t0 i0 f0 t1 i1 f1 sc ps) 1 it (.ref D) ev)) := by rfl
section
variable {prog : Program} {w : World} {A : Around} {R : Result → Shared → Prop} {s : Shared} {kx vx t0 i0 t1 i1 : Expr} {f0 f1 : List Expr} {sc : Scope} {ps : Pos} {it ac : Value} {D : Addr} {ev : Env}
/-- what is raised within a turn -/
abbrev nEv (prog : Program) (w : World) (A : Around) (R : Result → Shared → Prop) (ev : Env) : Value → Shared → Prop := notedBy (model prog w) A ev fun er z => R (.error er) z
abbrev fitsOf (ev : Env) (fs : List Expr) : Sem Bool := forIn fs true fun c q => if q = true then do let ok ← isTrue c ev (eval c ev); pure (ForInStep.yield ok) else pure (ForInStep.yield q)
theorem loopD_out (hs : ∀ x, foldedSetIterable i1 ev x = pure x) (J : Nat → Shared → Prop)
    (go : ∀ n z, J n z → wpAny (model prog w) A (pyNext it) (fun r z1 => match r with
      | none => R (.ok .next) z1
      | some got => wpAny (model prog w) A (letOwnedTupleGo t0 it got) (fun _ z2 => wpAny (model prog w) A (assign t0 ev got) (fun _ z3 => wpAny (model prog w) A (fitsOf ev f0) (fun ok z4 =>
            if ok = true then wpAny (model prog w) A (eval i1 ev) (fun x z5 => wpAny (model prog w) A (pyIter x) (fun it1 z6 =>
                codeAny (model prog w) A (.compStart (E2 kx vx t0 i0 f0 t1 i1 f1 sc ps) 1 it1 ac ev) (fun r z7 => match r with
                  | .ok _ => ∃ m, m < n ∧ J m z7
                  | .error _ => False) z6) (nEv prog w A R ev) z5) (nEv prog w A R ev) z4
            else ∃ m, m < n ∧ J m z4) (nEv prog w A R ev) z3) (nEv prog w A R ev) z2) (nEv prog w A R ev) z1) (nEv prog w A R ev) z)
    (n : Nat) (h : J n s) : codeAny (model prog w) A (.compLoop (E2 kx vx t0 i0 f0 t1 i1 f1 sc ps) 0 it ac ev) R s := by
  refine codeAny_loop rfl J (fun n z hJ => ?_) n h
  show wpAny _ A ((compTurn (E2 kx vx t0 i0 f0 t1 i1 f1 sc ps) 0 it ac ev).onRaise (fun er => do noteFrame er ev; theTreesLotGoes er)) _ _ z
  refine wpAny_noted ?_
  rw [turnD_out]
  refine wpAny_bind (wpAny_standAt (wpAny_bind (wpAny_mono (go n z hJ) (fun r z1 k1 => ?_) fun _ _ k => k)))
  cases r with
  | none => exact wpAny_pure k1
  | some got =>
    refine wpAny_bind (wpAny_mono k1 (fun _ z2 k2 => ?_) fun _ _ k => k)
    refine wpAny_bind (wpAny_mono k2 (fun _ z3 k3 => wpAny_bind (wpAny_mono k3 (fun ok z4 k4 => ?_) fun _ _ k => k)) fun _ _ k => k)
    cases ok with
    | false => exact wpAny_pure ⟨rfl, k4⟩
    | true =>
      refine wpAny_bind (wpAny_mono k4 (fun x z5 k5 => ?_) fun _ _ k => k)
      refine wpAny_bind (wpAny_standAt (wpAny_bind (wpAny_of_eq (hs x) (wpAny_bind (wpAny_holding (wpAny_mono k5 (fun it1 z6 k6 => ?_) fun _ _ k => k))))))
      refine wpAny_bind (wpAny_runOwn ?_)
      rw [Around.mark_none]
      refine codeAny_mono k6 fun r z7 k7 => ?_
      cases r with
      | ok f => first | exact wpAny_pure ⟨rfl, k7⟩ | exact wpAny_bind (wpAny_pure (wpAny_pure ⟨rfl, k7⟩))
      | error er => exact k7.elim
theorem loopD_in (J : Nat → Shared → Prop)
    (go : ∀ n z, J n z → wpAny (model prog w) A (pyNext it) (fun r z1 => match r with
      | none => R (.ok .next) z1
      | some got => wpAny (model prog w) A (letOwnedTupleGo t1 it got) (fun _ z2 => wpAny (model prog w) A (assign t1 ev got) (fun _ z3 => wpAny (model prog w) A (fitsOf ev f1) (fun ok z4 =>
            if ok = true then wpAny (model prog w) A (eval kx ev) (fun key z5 => wpAny (model prog w) A (eval vx ev) (fun val z6 => wpAny (model prog w) A (dictSet D key val) (fun _ z7 => ∃ m, m < n ∧ J m z7) (nEv prog w A R ev) z6) (nEv prog w A R ev) z5) (nEv prog w A R ev) z4
            else ∃ m, m < n ∧ J m z4) (nEv prog w A R ev) z3) (nEv prog w A R ev) z2) (nEv prog w A R ev) z1) (nEv prog w A R ev) z)
    (n : Nat) (h : J n s) : codeAny (model prog w) A (.compLoop (E2 kx vx t0 i0 f0 t1 i1 f1 sc ps) 1 it (.ref D) ev) R s := by
  refine codeAny_loop rfl J (fun n z hJ => ?_) n h
  show wpAny _ A ((compTurn (E2 kx vx t0 i0 f0 t1 i1 f1 sc ps) 1 it (.ref D) ev).onRaise (fun er => do noteFrame er ev; theTreesLotGoes er)) _ _ z
  refine wpAny_noted ?_
  rw [turnD_in]
  refine wpAny_bind (wpAny_standAt (wpAny_bind (wpAny_mono (go n z hJ) (fun r z1 k1 => ?_) fun _ _ k => k)))
  cases r with
  | none => exact wpAny_pure k1
  | some got =>
    refine wpAny_bind (wpAny_mono k1 (fun _ z2 k2 => ?_) fun _ _ k => k)
    refine wpAny_bind (wpAny_mono k2 (fun _ z3 k3 => wpAny_bind (wpAny_mono k3 (fun ok z4 k4 => ?_) fun _ _ k => k)) fun _ _ k => k)
    cases ok with
    | false => exact wpAny_pure ⟨rfl, k4⟩
    | true =>
      exact wpAny_bind (wpAny_bind (wpAny_mono k4 (fun key z5 k5 => wpAny_bind (wpAny_holding (wpAny_mono k5 (fun val z6 k6 => wpAny_bind (wpAny_standAt (wpAny_holding (wpAny_mono k6 (fun _ z7 k7 => wpAny_pure ⟨rfl, k7⟩) fun _ _ k => k)))) fun _ _ k => k))) fun _ _ k => k))
theorem startD (h0 : codeAny (model prog w) A (.compLoop (E2 kx vx t0 i0 f0 t1 i1 f1 sc ps) 1 it ac ev) R s)
    (h : wpAny (model prog w) A (pyIter it) (fun it1 z => codeAny (model prog w) A (.compLoop (E2 kx vx t0 i0 f0 t1 i1 f1 sc ps) 1 it1 ac ev) R z) (nEv prog w A R ev) s) :
    codeAny (model prog w) A (.compStart (E2 kx vx t0 i0 f0 t1 i1 f1 sc ps) 1 it ac ev) R s := by
  refine codeAny_of_tree ?_
  show wpAny _ _ ((compStart (E2 kx vx t0 i0 f0 t1 i1 f1 sc ps) 1 it ac ev).onRaise (fun er => do noteFrame er ev; standAt theWindowsPlace)) _ _ s
  refine wpAny_notedAt ?_
  unfold compStart
  show wpAny _ _ (ask >>= _) _ _ s
  refine wpAny_bind (wpAny_askSetting (wpAny_ite ?_))
  split
  · first | exact wpAny_bind (wpAny_pure (wpAny_pure (And.intro rfl h0))) | exact wpAny_pure (And.intro rfl h0)
  · first
      | exact wpAny_bind (wpAny_rule (wpAny_bind (wpAny_standAt (wpAny_bind (wpAny_mono h (fun it1 z k => wpAny_pure (And.intro rfl k)) fun _ _ k => k)))))
      | (refine wpAny_bind (wpAny_rule ?_); show wpAny _ _ (standAt i1.pos >>= _) _ _ s; exact wpAny_bind (wpAny_standAt (wpAny_bind (wpAny_mono h (fun it1 z k => wpAny_pure (And.intro rfl k)) fun _ _ k => k))))
end
/-- what holds in every block of the comprehension -/
abbrev InBlk (X : Cx) (sc : Scope) (F : Cx → Prop) : Prop := ∀ (z : Shared) (G : Hp) (C : Addr) (cl : List (Str × Addr)) (fp : List Addr), F (X.blk z G sc (compEnvC sc cl C X.env) fp)
def tDc2 (wi : TI) (g : TG) (tt : TT) (wj : TI) (gj : TG) (tj : TT) (tk tv : TE) (vs vj : List Nat) : TE := fun σ H Q => wi σ H fun J H1 => ∀ D, H1 D = none → ∃ W : Nat → Nat → Hp → Prop, (∃ m, W 0 m (upd H1 D (.dK []))) ∧ ∀ i m H, W i m H →
  (J.stop i H ∧ Q (.ref D) H) ∨ (J.go i H ∧ ∃ Nx : Hp → Prop, (∀ G, Nx G → ∃ m', m' < m ∧ W (i + 1) m' G) ∧ ∀ x G, J.yld i H x G → g x (wipe σ vs) G fun σ2 H2 => wipe σ2 vs = wipe σ vs ∧ tt σ2 H2 fun b H3 =>
    if b = true then wj σ2 H3 fun J1 H4 => ∃ V : Nat → Nat → Hp → Prop, (∃ m, V 0 m H4) ∧ ∀ j k H, V j k H →
      (J1.stop j H ∧ Nx H) ∨ (J1.go j H ∧ ∃ Ny : Hp → Prop, (∀ G, Ny G → ∃ k', k' < k ∧ V (j + 1) k' G) ∧ ∀ x G, J1.yld j H x G → gj x (wipe σ2 vj) G fun σ3 H5 => wipe σ3 vj = wipe σ2 vj ∧ tj σ3 H5 fun b H6 =>
        if b = true then tk σ3 H6 fun y H7 => tv σ3 H7 fun z H8 => ∃ kvs k, y = kV k ∧ H8 D = some (.dK kvs) ∧ kvs.length < sizeLine ∧ Ny (upd H8 D (.dK (putK kvs k z))) else Ny H6)
    else Nx H3)
section
variable {X : Cx}
theorem coreD {pins : List (Addr × Obj)} {s : Shared} {σ : L2.St} {H : Hp} {Q : VK} {kx vx t0 i0 t1 i1 : Expr} {f0 f1 : List Expr} {sc : Scope} {own : List (Str × Nat)} {vj : List Nat} {ps ps2 : Pos} {wi wj : TI} {g gj : TG} {tt tj : TT} {tk tv : TE} {use : Option (Value → Sem Unit)} {Qf : Value → Shared → Prop}
    (hc : X.calm = true) (hN : X.N.Nodup) (I : Inv X pins σ H s) (hi : PI X t0 i0 wi) (ok : BlkOk X.N X.env.scope sc own) (hv : ∀ i ∈ vj, i ∈ own.map (·.2))
    (hg : InBlk X sc fun Y => PG Y t0 g) (ht : InBlk X sc fun Y => PTs Y f0 tt) (hj : InBlk X sc fun Y => PI Y t1 i1 wj) (hgj : InBlk X sc fun Y => PG Y t1 gj) (htj : InBlk X sc fun Y => PTs Y f1 tj) (hk : InBlk X sc fun Y => PE Y kx tk) (hx : InBlk X sc fun Y => PE Y vx tv)
    (hs : ∀ x, foldedSetIterable i0 X.env x = pure x) (hs1 : ∀ env x, foldedSetIterable i1 env x = pure x) (h : tDc2 wi g tt wj gj tj tk tv (own.map (·.2)) vj σ H Q)
    (hRR : ∀ D C z m G, Inv X pins σ G z → Q (.ref D) G → z.heap.Ns C m → FpOk X pins G C → compPost (model X.prog X.w) X.A X.xe use Qf (.ref D) C (.ok .next) z) :
    wpAny (model X.prog X.w) X.A (comprehension (E2 kx vx t0 i0 f0 t1 i1 f1 sc ps) sc X.env ps2 newDict false (eval i0 X.env) use) Qf X.xe s := by
  have hfree : ∀ y ∈ sc.names, y.2 = .free → ∃ c, X.env.cells.lookup y.1 = some c := fun y hy e => (ok.free y hy e).elim (fun k => I.ok.has _ (.inl k)) fun k => I.ok.has _ (.inr k)
  refine wpAny_comprehension_free (use := use) rfl hs (closure_ok hfree) ok.kind (fun y hy e => by rw [ok.uniq y hy, e]) (thn (hi.run pins s σ H _ I h) fun xv z1 hxv => thn hxv fun itv z2 k2 => ?_)
  obtain ⟨it, fp, tn, J, H2, e, I2, T, st2, f2, q⟩ := k2
  subst e
  refine wpAny_newObj_type (newEnv_comp ?_)
  generalize hD : z2.heap.objs.size = D
  have hDn : H2 D = none := I2.hok.fresh (Nat.le_of_eq hD)
  obtain ⟨W, ⟨m0, w0⟩, turn⟩ := q D hDn
  generalize hz3 : ({ z2 with heap := z2.heap.push { cls := .type "dict", data := .dict #[] } } : Shared) = z3
  have I3 : Inv X pins σ (upd H2 D (.dK [])) z3 := by
    rw [← hz3]
    refine I2.laid (t' := z2.toks) (fun b o e => Heap.get?_push_of_some _ e) (Nat.le_of_eq hD) ?_
    rw [← hD]
    exact dk_empty z2.heap I2.big
  have h3 : z3.heap = z2.heap.push { cls := .type "dict", data := .dict #[] } := by rw [← hz3]
  have small : ∀ b ∈ fp, b < z2.heap.objs.size := fun b hb => by
    obtain ⟨o, e, _⟩ := T.obj _ _ st2 b hb
    exact Heap.lt_size e
  have f3 : ∀ b ∈ fp, FpOk X pins (upd H2 D (.dK [])) b ∧ b < z3.heap.objs.size := fun b hb => by
    have lt := small b hb
    refine ⟨⟨?_, (f2 b hb).2⟩, by rw [h3, Heap.size_push]; exact Nat.lt_succ_of_lt lt⟩
    rw [upd_ne (by rw [← hD]; exact Nat.ne_of_lt lt)]
    exact (f2 b hb).1
  have st3 : tn 0 z3.heap := T.keep _ _ _ st2 fun b _ o e => by rw [h3]; exact Heap.get?_push_of_some _ e
  have I4 := block_start I3 ok hN f3
  have pg := hg z3 (upd H2 D (.dK [])) z3.heap.objs.size (cellsFrom (z3.heap.objs.size + 1) sc.names (cloFrom X.env.cells sc.names [])) fp
  have pt := ht z3 (upd H2 D (.dK [])) z3.heap.objs.size (cellsFrom (z3.heap.objs.size + 1) sc.names (cloFrom X.env.cells sc.names [])) fp
  have pj := hj z3 (upd H2 D (.dK [])) z3.heap.objs.size (cellsFrom (z3.heap.objs.size + 1) sc.names (cloFrom X.env.cells sc.names [])) fp
  have pgj := hgj z3 (upd H2 D (.dK [])) z3.heap.objs.size (cellsFrom (z3.heap.objs.size + 1) sc.names (cloFrom X.env.cells sc.names [])) fp
  have ptj := htj z3 (upd H2 D (.dK [])) z3.heap.objs.size (cellsFrom (z3.heap.objs.size + 1) sc.names (cloFrom X.env.cells sc.names [])) fp
  have pk := hk z3 (upd H2 D (.dK [])) z3.heap.objs.size (cellsFrom (z3.heap.objs.size + 1) sc.names (cloFrom X.env.cells sc.names [])) fp
  have px := hx z3 (upd H2 D (.dK [])) z3.heap.objs.size (cellsFrom (z3.heap.objs.size + 1) sc.names (cloFrom X.env.cells sc.names [])) fp
  show codeAny _ _ (.compStart (E2 kx vx t0 i0 f0 t1 i1 f1 sc ps) 0 (.ref it) (.ref D) (compEnvC sc (cellsFrom (z3.heap.objs.size + 1) sc.names (cloFrom X.env.cells sc.names [])) z3.heap.objs.size X.env)) (compPost (model X.prog X.w) X.A X.xe use Qf (.ref D) z3.heap.objs.size) { z3 with heap := pushCells (z3.heap.push { cls := .type "dict", data := .dict #[] }) sc.names }
  have nfp : ∀ b ∈ fp, (upd H2 D (.dK [])) b = none := fun b hb => (f3 b hb).1.1
  generalize hce : compEnvC sc (cellsFrom (z3.heap.objs.size + 1) sc.names (cloFrom X.env.cells sc.names [])) z3.heap.objs.size X.env = ce at I4 pg pt pj pgj ptj pk px ⊢
  have cL : ce.locals = z3.heap.objs.size := by subst hce; rfl
  generalize hH3 : upd H2 D (.dK []) = H3 at I3 I4 pg pt pj pgj ptj pk px w0 nfp f3
  generalize hz4 : ({ z3 with heap := pushCells (z3.heap.push { cls := .type "dict", data := .dict #[] }) sc.names } : Shared) = z4 at I4 ⊢
  have st4 : tn 0 z4.heap := T.keep _ _ _ st3 fun b _ o e => by rw [← hz4]; exact pushCells_keeps _ _ _ _ (Heap.get?_push_of_some _ e)
  have stat : ∀ {τ : L2.St} {G : Hp} {z : Shared}, Inv (X.blk z3 H3 sc ce fp) [] τ G z → (∀ b ∈ fp, G b = none) → ∀ b ∈ fp, FpOk (X.blk z3 H3 sc ce fp) [] G b := fun {τ G z} K hn b hb =>
    ⟨hn b hb, (K.ok.exf b hb).1, K.ok.exfs b hb, .inl hb, fun x c e => (K.ok.exf b hb).2 x c e, fun p hp => absurd (show p ∈ ([] : List (Addr × Obj)) ++ [] from hp) (by simp)⟩
  have loop : codeAny (model X.prog X.w) X.A (.compLoop (E2 kx vx t0 i0 f0 t1 i1 f1 sc ps) 0 (.ref it) (.ref D) ce) (compPost (model X.prog X.w) X.A X.xe use Qf (.ref D) z3.heap.objs.size) z4 := by
    refine loopD_out (hs1 ce) (fun n z => ∃ i G, Inv (X.blk z3 H3 sc ce fp) [] (wipe σ (own.map (·.2))) G z ∧ tn i z.heap ∧ (∀ b ∈ fp, G b = none) ∧ W i n G) ?_ m0 ⟨0, H3, I4, st4, nfp, w0⟩
    rintro n z5 ⟨i, H5, I5, st5, n5, w5⟩
    rcases turn i n H5 w5 with ⟨stop, qq⟩ | ⟨go, Nx, hNx, step⟩
    · refine thnF (T.done (X.blk z3 H3 sc ce fp) rfl rfl rfl hc i [] z5 _ H5 (fun _ _ => False) I5 (stat I5 n5) st5 stop) fun r z6 ⟨hr, I6⟩ => ?_
      subst hr
      have I7 : Inv X pins σ H5 z6 := I3.call' (ch := fp) I6.os I6.base I6.hok I6.bare fun b hb => ⟨(f3 b hb).1.2.2.2.1, (f3 b hb).1.2.1, (f3 b hb).1.2.2.2.2.1, (f3 b hb).1.2.2.2.2.2⟩
      have nC : H5 z3.heap.objs.size = none := by
        have k : H5 ce.locals = none := I6.free
        rw [cL] at k
        exact k
      obtain ⟨m, hn, _⟩ := I6.loc
      have hn : z6.heap.Ns ce.locals m := hn
      rw [cL] at hn
      exact hRR D z3.heap.objs.size z6 m H5 I7 qq hn (I3.fpOk (Nat.le_refl _) nC)
    · refine thnF (T.item (X.blk z3 H3 sc ce fp) rfl rfl rfl hc i [] z5 _ H5 (fun _ _ => False) I5 (stat I5 n5) st5 go) fun r z6 ⟨u, hr, h6⟩ => ?_
      subst hr
      refine thnF h6 fun _ z7 ⟨x, H7, I7, r7, y7, st7, n7⟩ => ?_
      have I7' := I7.pinned (stat I7 n7) (T.obj _ _ st7)
      refine thnF (pg.run _ z7 _ H7 x u _ I7' r7 (step x H7 y7)) fun _ z8 ⟨σ8, H8, I8, hw8, q8⟩ => ?_
      refine thnF (pt.run _ z8 σ8 H8 _ I8 q8) fun b z9 ⟨H9, I9, q9⟩ => ?_
      have fin : ∀ {τ : L2.St} {z : Shared} {G : Hp}, Inv (X.blk z3 H3 sc ce fp) ([] ++ pinsAt fp z7.heap) τ G z → (wipe σ (own.map (·.2))).length = τ.length → (∀ (j : Nat) v, (wipe σ (own.map (·.2)))[j]? = some (some v) → τ[j]? = some (some v)) → Nx G →
          ∃ m, m < n ∧ ∃ i G, Inv (X.blk z3 H3 sc ce fp) [] (wipe σ (own.map (·.2))) G z ∧ tn i z.heap ∧ (∀ b ∈ fp, G b = none) ∧ W i m G := fun {τ z G} K hl hkk nx => by
        obtain ⟨m', hm, w'⟩ := hNx G nx
        have pin : ∀ b ∈ fp, ∀ o, z7.heap.get? b = some o → z.heap.get? b = some o ∧ G b = none := fun b hb o e =>
          let k := K.pin (b, o) (List.mem_append_right _ (List.mem_append_right _ (mem_pinsAt hb e)))
          ⟨k.1, k.2.1⟩
        refine ⟨m', hm, i + 1, G, (K.unpinned (pins := [])).weak hl hkk, T.keep _ _ _ st7 fun b hb o e => (pin b hb o e).1, fun b hb => ?_, w'⟩
        obtain ⟨o, e, _⟩ := T.obj _ _ st7 b hb
        exact (pin b hb o e).2
      have hl8 : (wipe σ (own.map (·.2))).length = σ8.length := by rw [← hw8, wipe_length]
      have hk8 : ∀ (j : Nat) v, (wipe σ (own.map (·.2)))[j]? = some (some v) → σ8[j]? = some (some v) := fun j v e => by
        rw [← hw8] at e
        exact (wipe_some e).1
      have hk9 : ∀ (j : Nat) v, (wipe σ (own.map (·.2)))[j]? = some (some v) → (wipe σ8 vj)[j]? = some (some v) := fun j v e => by
        rw [← hw8] at e
        obtain ⟨e1, e2⟩ := wipe_some e
        rw [wipe_out fun k => e2 (hv j k)]
        exact e1
      cases b with
      | false =>
        simp only [Bool.false_eq_true, if_false] at q9 ⊢
        exact fin I9 hl8 hk8 q9
      | true =>
        simp only [if_true] at q9 ⊢
        refine thnF (pj.run _ z9 σ8 H9 _ I9 q9) fun xv z10 hxv => thnF hxv fun itv z11 k11 => ?_
        obtain ⟨it1, fp1, tn1, J1, H11, e1, I11, T1, st11, f11, V, ⟨m1, w1⟩, turn1⟩ := k11
        subst e1
        have stat1 : ∀ {G : Hp}, (∀ b ∈ fp1, G b = none) → ∀ b ∈ fp1, FpOk (X.blk z3 H3 sc ce fp) ([] ++ pinsAt fp z7.heap) G b := fun hn b hb => ⟨hn b hb, (f11 b hb).2⟩
        have loop1 : codeAny (model X.prog X.w) X.A (.compLoop (E2 kx vx t0 i0 f0 t1 i1 f1 sc ps) 1 (.ref it1) (.ref D) ce)
            (fun r z => match r with
              | .ok _ => ∃ m, m < n ∧ ∃ i G, Inv (X.blk z3 H3 sc ce fp) [] (wipe σ (own.map (·.2))) G z ∧ tn i z.heap ∧ (∀ b ∈ fp, G b = none) ∧ W i m G
              | .error _ => False) z11 := by
          refine loopD_in (fun k z => ∃ j G, Inv (X.blk z3 H3 sc ce fp) ([] ++ pinsAt fp z7.heap) (wipe σ8 vj) G z ∧ tn1 j z.heap ∧ (∀ b ∈ fp1, G b = none) ∧ V j k G) ?_ m1 ⟨0, H11, I11.weak (wipe_length _ _) (fun j v e => (wipe_some e).1), st11, fun b hb => (f11 b hb).1, w1⟩
          rintro k z12 ⟨j, H12, I12, st12, n12, w12⟩
          rcases turn1 j k H12 w12 with ⟨stop1, nx1⟩ | ⟨go1, Ny, hNy, step1⟩
          · refine thnF (T1.done (X.blk z3 H3 sc ce fp) rfl rfl rfl hc j _ z12 (wipe σ8 vj) H12 (fun _ _ => False) I12 (stat1 n12) st12 stop1) fun r z13 ⟨hr, I13⟩ => ?_
            subst hr
            exact fin I13 (hl8.trans (wipe_length σ8 vj).symm) hk9 nx1
          · refine thnF (T1.item (X.blk z3 H3 sc ce fp) rfl rfl rfl hc j _ z12 (wipe σ8 vj) H12 (fun _ _ => False) I12 (stat1 n12) st12 go1) fun r z13 ⟨u1, hr, k13⟩ => ?_
            subst hr
            refine thnF k13 fun _ z14 ⟨x1, H14, I14, r14, y14, st14, n14⟩ => ?_
            have I14' := I14.pinned (stat1 n14) (T1.obj _ _ st14)
            refine thnF (pgj.run _ z14 (wipe σ8 vj) H14 x1 u1 _ I14' r14 (step1 x1 H14 y14)) fun _ z15 ⟨σ15, H15, I15, hw15, q15⟩ => ?_
            refine thnF (ptj.run _ z15 σ15 H15 _ I15 q15) fun b1 z16 ⟨H16, I16, q16⟩ => ?_
            have fin1 : ∀ {z : Shared} {G : Hp}, Inv (X.blk z3 H3 sc ce fp) (([] ++ pinsAt fp z7.heap) ++ pinsAt fp1 z14.heap) σ15 G z → Ny G → ∃ m, m < k ∧ ∃ j G, Inv (X.blk z3 H3 sc ce fp) ([] ++ pinsAt fp z7.heap) (wipe σ8 vj) G z ∧ tn1 j z.heap ∧ (∀ b ∈ fp1, G b = none) ∧ V j m G := fun {z G} K nx => by
              obtain ⟨m', hm, w'⟩ := hNy G nx
              have pin : ∀ b ∈ fp1, ∀ o, z14.heap.get? b = some o → z.heap.get? b = some o ∧ G b = none := fun b hb o e =>
                let k := K.pin (b, o) (List.mem_append_right _ (List.mem_append_right _ (mem_pinsAt hb e)))
                ⟨k.1, k.2.1⟩
              refine ⟨m', hm, j + 1, G, K.unpinned.weak (by rw [← hw15, wipe_length]) (fun j v e => by rw [← hw15] at e; exact (wipe_some e).1), T1.keep _ _ _ st14 fun b hb o e => (pin b hb o e).1, fun b hb => ?_, w'⟩
              obtain ⟨o, e, _⟩ := T1.obj _ _ st14 b hb
              exact (pin b hb o e).2
            cases b1 with
            | false =>
              simp only [Bool.false_eq_true, if_false] at q16 ⊢
              exact fin1 I16 q16
            | true =>
              simp only [if_true] at q16 ⊢
              refine thnF (pk.run _ z16 σ15 H16 _ I16 q16) fun zk z17 ⟨yk, H17, I17, r17, q17⟩ => ?_
              refine thnF (px.run _ z17 σ15 H17 _ I17 q17) fun zv z18 ⟨yv, H18, I18, r18, kvs, kk, ek, hD18, len18, nx⟩ => ?_
              subst ek
              exact d_dictSet (X := X.blk z3 H3 sc ce fp) I18 hD18 len18 r17 r18 fun z19 I19 => fin1 I19 nx
        exact startD loop1 (T1.self X.A 0 _ _ _ st11 loop1)
  exact codeAny_compStart_dict loop (T.self X.A 0 _ _ _ st4 loop)
theorem pe_dc2 {kx vx t0 i0 t1 i1 : Expr} {f0 f1 : List Expr} {sc : Scope} {own : List (Str × Nat)} {vj : List Nat} {ps : Pos} {wi wj : TI} {g gj : TG} {tt tj : TT} {tk tv : TE} (hc : X.calm = true) (hN : X.N.Nodup) (hi : PI X t0 i0 wi) (ok : BlkOk X.N X.env.scope sc own) (hv : ∀ i ∈ vj, i ∈ own.map (·.2))
    (hg : InBlk X sc fun Y => PG Y t0 g) (ht : InBlk X sc fun Y => PTs Y f0 tt) (hj : InBlk X sc fun Y => PI Y t1 i1 wj) (hgj : InBlk X sc fun Y => PG Y t1 gj) (htj : InBlk X sc fun Y => PTs Y f1 tj) (hk : InBlk X sc fun Y => PE Y kx tk) (hx : InBlk X sc fun Y => PE Y vx tv)
    (hs : ∀ x, foldedSetIterable i0 X.env x = pure x := by intro _; rfl) (hs1 : ∀ env x, foldedSetIterable i1 env x = pure x := by intro _ _; rfl) :
    PE X (E2 kx vx t0 i0 f0 t1 i1 f1 sc ps) (tDc2 wi g tt wj gj tj tk tv (own.map (·.2)) vj) := by
  refine ⟨fun pins s σ H Q I h => ?_⟩
  rw [arm_eval_DictComp]
  refine coreD hc hN I hi ok hv hg ht hj hgj htj hk hx hs hs1 h fun D C z m G K q hn f => ⟨m, hn, fun h2 sb => ?_⟩
  obtain ⟨a0, a1, a2, a3, a4, a5⟩ := f
  exact ⟨.ref D, G, K.turned (t' := z.toks) (fun b o hb e => (sb.2 b hb).trans e) a0 a1 a3 a4 a5, rfl, q⟩
end
end Vk
set_option maxHeartbeats 4000000
/-! xs.remove(text) -/
namespace Vk
open PySem PySem.Spec PyProof.Rows L2
def eqT (x : Str) (v : Value) : Bool := match v with
  | .str y _ => y.cps.toList == x.cps.toList
  | _ => false
theorem cps_inj {x y : Str} (h : x.cps.toList = y.cps.toList) : x = y := by
  obtain ⟨a⟩ := x
  obtain ⟨b⟩ := y
  have z : a = b := Array.toList_inj.mp h
  rw [z]
theorem relS {x : Str} {u : Value} (h : RelV (.str x) u) : ∃ t, u = .str x t := h
theorem valsS : ∀ {us : List Value} {xs : List Str}, Vals (xs.map V.str) us → (∀ y ∈ us, ∃ z t, y = .str z t) ∧ ∀ (i : Nat) (h : i < us.length), ∃ t z, xs[i]? = some z ∧ us[i] = .str z t
  | us, [], h => by
    cases h
    exact ⟨fun y hy => absurd hy (by simp), fun i hi => absurd hi (by simp)⟩
  | us, x :: xs, h => by
    obtain _ | ⟨r, t⟩ := h
    obtain ⟨tk, rfl⟩ := relS r
    obtain ⟨h1, h2⟩ := valsS t
    refine ⟨fun y hy => ?_, fun i hi => ?_⟩
    · rcases List.mem_cons.mp hy with rfl | hy
      · exact ⟨x, tk, rfl⟩
      · exact h1 y hy
    · cases i with
      | zero => exact ⟨tk, x, rfl, rfl⟩
      | succ i => exact h2 i (Nat.lt_of_succ_lt_succ hi)
theorem erase_at : ∀ {xs : List Str} {x : Str}, x ∈ xs → ∃ j, j < xs.length ∧ xs[j]? = some x ∧ (∀ m, m < j → xs[m]? ≠ some x) ∧ xs.eraseIdx j = xs.erase x
  | [], x, h => absurd h (by simp)
  | y :: r, x, h => by
    by_cases e : y = x
    · subst e
      exact ⟨0, Nat.succ_pos _, rfl, fun m hm => absurd hm (Nat.not_lt_zero m), by rw [List.erase_cons_head]; rfl⟩
    · have h2 : x ∈ r := by
        rcases List.mem_cons.mp h with z | z
        · exact absurd z.symm e
        · exact z
      obtain ⟨j, a1, a2, a3, a4⟩ := erase_at h2
      refine ⟨j + 1, Nat.succ_lt_succ a1, a2, fun m hm => ?_, ?_⟩
      · cases m with
        | zero => exact fun z => e (Option.some.inj z)
        | succ m => exact a3 m (Nat.lt_of_succ_lt_succ hm)
      · rw [List.erase_cons_tail (by simpa using e), ← a4]
        rfl
theorem map_ix : ∀ (l : List Str) (j : Nat), (l.map V.str).eraseIdx j = (l.eraseIdx j).map V.str
  | [], _ => rfl
  | _ :: _, 0 => rfl
  | x :: r, j + 1 => by
    show V.str x :: (r.map V.str).eraseIdx j = V.str x :: (r.eraseIdx j).map V.str
    rw [map_ix r j]
section
variable {X : Cx}
def rRemS : V → List V → Hp → VK → Prop := fun x xs H Q => ∃ (l : Addr) (ns : List Str) (k : Str), x = .ref l ∧ xs = [.str k] ∧ H l = some (.lst (ns.map V.str)) ∧ k ∈ ns ∧ Q .non (upd H l (.lst ((ns.erase k).map V.str)))
theorem mt_removeS : MtM X "list.remove" rRemS := by
  intro pins s σ H x xs v us Q I rx rxs h
  obtain ⟨l, ns, k, rfl, rfl, hH, hk, q⟩ := h
  cases rx
  obtain ⟨u, rfl, ru⟩ := rxs.one
  obtain ⟨t, rfl⟩ := relS ru
  obtain ⟨z, its, n, r, hl, e⟩ := I.lstM hH
  obtain ⟨all1, at1⟩ := valsS r
  have rl := r.length
  rw [List.length_map] at rl hl z
  obtain ⟨j, j1, j2, j3, j4⟩ := erase_at hk
  have hjl : j < its.toArray.size := by rw [List.size_toArray]; omega
  refine call_meets PySem.F.slot_list_remove ⟨_, e, rfl⟩ PySem.F.entry_list_remove (PySem.F.args_list_remove_2 _ _)
    (MeetsSeq.list_remove l its.toArray n (.str k t) (eqT k) (fun y hy => ?_) j hjl ?_ ?_ (by rw [List.size_toArray]; omega)) ⟨e, ?_⟩
  · obtain ⟨y', t', rfl⟩ := all1 y (by simpa using hy)
    exact PySem.SeqRoads2.EqGives.str y' k t' t
  · obtain ⟨t', y', h1, h2⟩ := at1 j (by omega)
    rw [j2] at h1
    cases h1
    have e1 : its.toArray[j] = .str k t' := by simpa using h2
    rw [e1]
    exact beq_self_eq_true _
  · intro m hm hmj
    obtain ⟨t', y', h1, h2⟩ := at1 m (by rw [List.size_toArray] at hm; exact hm)
    have e1 : its.toArray[m] = .str y' t' := by simpa using h2
    rw [e1]
    exact beq_eq_false_iff_ne.mpr fun e2 => j3 m hmj (by rw [h1, cps_inj e2])
  · have rr := r.eraseIdx j
    have em : (ns.map V.str).eraseIdx j = (ns.erase k).map V.str := by
      rw [← j4, map_ix]
    rw [em] at rr
    refine ⟨.non, _, I.lset (its' := its.eraseIdx j) (t' := s.toks) hH e ?_ rr ?_, rfl, q⟩
    · show its.toArray.eraseIdxIfInBounds j = (its.eraseIdx j).toArray
      rw [List.eraseIdxIfInBounds_toArray]
    · rw [List.length_map]
      have := List.length_erase_le (a := k) (l := ns)
      omega
end
end Vk
set_option maxHeartbeats 4000000
/-! xs == [], t != () -/
namespace Vk
open PySem PySem.Spec PyProof.Rows L2
def rEqNilL (K : PySem.W.Frag) : R2 := fun x y H Q => ∃ p q xs, x = .ref p ∧ y = .ref q ∧ SqL K H p xs ∧ SqL K H q [] ∧ Q (.bl xs.isEmpty) H
def rNeNilL (K : PySem.W.Frag) : R2 := fun x y H Q => ∃ p q xs, x = .ref p ∧ y = .ref q ∧ SqL K H p xs ∧ SqL K H q [] ∧ Q (.bl (!xs.isEmpty)) H
def rNeNilT (K : PySem.W.Frag) : R2 := fun x y H Q => ∃ p q xs, x = .ref p ∧ y = .ref q ∧ SqT K H p xs ∧ SqT K H q [] ∧ Q (.bl (!xs.isEmpty)) H
section
variable {X : Cx}
theorem op_eqNilL (hu : X.A.units < cLine) : OpR X (compareOp .Eq) (rEqNilL X.K) := by
  intro pins s σ H x y v u Q I rx ry h
  obtain ⟨p, q, xs, rfl, rfl, hp, hq, k⟩ := h
  cases rx
  cases ry
  obtain ⟨is1, r1, p1, _⟩ := I.list hp
  obtain ⟨is2, r2, p2, _⟩ := I.list hq
  cases r2
  have l1 := r1.length
  cases xs with
  | nil =>
    cases r1
    exact SeqAt.eq_listAt (e := fun _ => true) p1.isList p2.isList rfl hu (fun j h1 _ => absurd h1 (Nat.not_lt_zero _)) ⟨.bl true, H, I, rfl, k⟩
  | cons x r =>
    cases r1
    exact SeqAt.eq_list_lengthsAt p1.isList p2.isList (by simp) hu ⟨.bl false, H, I, rfl, k⟩
theorem op_neNilL (hu : X.A.units < cLine) : OpR X (compareOp .NotEq) (rNeNilL X.K) := by
  intro pins s σ H x y v u Q I rx ry h
  obtain ⟨p, q, xs, rfl, rfl, hp, hq, k⟩ := h
  cases rx
  cases ry
  obtain ⟨is1, r1, p1, _⟩ := I.list hp
  obtain ⟨is2, r2, p2, _⟩ := I.list hq
  cases r2
  have l1 := r1.length
  cases xs with
  | nil =>
    cases r1
    exact SeqAt.RcNeAt.lists (e := fun _ => true) p1.isList p2.isList rfl hu (fun j h1 _ => absurd h1 (Nat.not_lt_zero _)) _ _ _ _ ⟨.bl false, H, I, rfl, k⟩
  | cons x r =>
    cases r1
    exact SeqAt.RcNeAt.lists_lengths p1.isList p2.isList (by simp) hu _ _ _ _ ⟨.bl true, H, I, rfl, k⟩
theorem op_neNilT (hu : X.A.units < cLine) : OpR X (compareOp .NotEq) (rNeNilT X.K) := by
  intro pins s σ H x y v u Q I rx ry h
  obtain ⟨p, q, xs, rfl, rfl, hp, hq, k⟩ := h
  cases rx
  cases ry
  obtain ⟨is1, r1, p1, _⟩ := I.tuple hp
  obtain ⟨is2, r2, p2, _⟩ := I.tuple hq
  cases r2
  have l1 := r1.length
  have z : (!((List.range (min is1.toArray.size ([] : List Value).toArray.size)).all (fun _ => true) && is1.toArray.size == ([] : List Value).toArray.size)) = !xs.isEmpty := by
    cases xs with
    | nil =>
      cases r1
      rfl
    | cons x r =>
      cases r1
      simp
  refine SeqAt.RcNeAt.tuples (e := fun _ => true) p1 p2 hu (fun j _ h2 => absurd h2 (Nat.not_lt_zero _)) _ _ _ _ ?_
  rw [z]
  exact ⟨.bl (!xs.isEmpty), H, I, rfl, k⟩
end
end Vk
set_option maxHeartbeats 4000000
/-! walks of comprehensions of two clauses, of dict comprehensions -/
namespace Vk
open PySem PySem.Spec PyProof.Rows L2
section
variable {J : It} {n : Nat} {G : Hp → Prop} {Y : Nat → Hp → V → Hp → Prop}
/-- the first clause: Pv by its turn -/
theorem lc2_it (w : Walk J n G Y) {g g1 : TG} {tt tt1 : TT} {wi1 : TI} {te : TE} {vs vs1 : List Nat} {σ : L2.St} {H1 : Hp} {D : Addr} {Qd : Hp → Prop} (Pv : Nat → Hp → Prop) (h0 : Pv 0 (upd H1 D (.lst []))) (hG : ∀ i H, i ≤ n → Pv i H → G H)
    (hs : ∀ i x H H', i < n → Pv i H → Y i H x H' → g x (wipe σ vs) H' fun σ2 H2 => wipe σ2 vs = wipe σ vs ∧ tt σ2 H2 fun b H3 =>
      if b = true then wi1 σ2 H3 fun J1 H4 => ∃ W1 : Nat → Nat → Hp → Prop, (∃ m, W1 0 m H4) ∧ ∀ j k H, W1 j k H →
        (J1.stop j H ∧ Pv (i + 1) H) ∨ (J1.go j H ∧ ∃ Nx1 : Hp → Prop, (∀ H', Nx1 H' → ∃ k', k' < k ∧ W1 (j + 1) k' H') ∧ ∀ x H', J1.yld j H x H' → g1 x (wipe σ2 vs1) H' fun σ3 H5 => wipe σ3 vs1 = wipe σ2 vs1 ∧ tt1 σ3 H5 fun b H6 =>
          if b = true then te σ3 H6 fun y H7 => ∃ acc, H7 D = some (.lst acc) ∧ acc.length < sizeLine ∧ Nx1 (upd H7 D (.lst (acc ++ [y]))) else Nx1 H6)
      else Pv (i + 1) H3) (hd : ∀ H, Pv n H → Qd H) :
    ∃ W : Nat → Nat → Hp → Prop, (∃ m, W 0 m (upd H1 D (.lst []))) ∧ ∀ i m H, W i m H →
      (J.stop i H ∧ Qd H) ∨ (J.go i H ∧ ∃ Nx : Hp → Prop, (∀ H', Nx H' → ∃ m', m' < m ∧ W (i + 1) m' H') ∧ ∀ x H', J.yld i H x H' → g x (wipe σ vs) H' fun σ2 H2 => wipe σ2 vs = wipe σ vs ∧ tt σ2 H2 fun b H3 =>
        if b = true then wi1 σ2 H3 fun J1 H4 => ∃ W1 : Nat → Nat → Hp → Prop, (∃ m, W1 0 m H4) ∧ ∀ j k H, W1 j k H →
          (J1.stop j H ∧ Nx H) ∨ (J1.go j H ∧ ∃ Nx1 : Hp → Prop, (∀ H', Nx1 H' → ∃ k', k' < k ∧ W1 (j + 1) k' H') ∧ ∀ x H', J1.yld j H x H' → g1 x (wipe σ2 vs1) H' fun σ3 H5 => wipe σ3 vs1 = wipe σ2 vs1 ∧ tt1 σ3 H5 fun b H6 =>
            if b = true then te σ3 H6 fun y H7 => ∃ acc, H7 D = some (.lst acc) ∧ acc.length < sizeLine ∧ Nx1 (upd H7 D (.lst (acc ++ [y]))) else Nx1 H6)
        else Nx H3) := by
  refine ⟨fun i m H => m = n - i ∧ i ≤ n ∧ Pv i H, ⟨n, by simp, Nat.zero_le _, h0⟩, ?_⟩
  rintro i m H ⟨rfl, hi, p⟩
  have q := hG i H hi p
  by_cases lt : i < n
  · exact .inr ⟨w.goes i H lt q, Pv (i + 1), fun H' p' => ⟨n - (i + 1), by omega, rfl, lt, p'⟩, fun x H' y => hs i x H H' lt p (w.yields i H x H' lt q y)⟩
  · have e : i = n := by omega
    subst e
    exact .inl ⟨w.stops H q, hd H p⟩
/-- the second clause of a list comprehension -/
theorem in_it (w : Walk J n G Y) {g : TG} {tt : TT} {te : TE} {vs : List Nat} {σ : L2.St} {H1 : Hp} {D : Addr} {Qd : Hp → Prop} (Pv : Nat → Hp → Prop) (h0 : Pv 0 H1) (hG : ∀ i H, i ≤ n → Pv i H → G H)
    (hs : ∀ i x H H', i < n → Pv i H → Y i H x H' → g x (wipe σ vs) H' fun σ2 H2 => wipe σ2 vs = wipe σ vs ∧ tt σ2 H2 fun b H3 =>
      if b = true then te σ2 H3 fun y H4 => ∃ acc, H4 D = some (.lst acc) ∧ acc.length < sizeLine ∧ Pv (i + 1) (upd H4 D (.lst (acc ++ [y]))) else Pv (i + 1) H3) (hd : ∀ H, Pv n H → Qd H) :
    ∃ W : Nat → Nat → Hp → Prop, (∃ m, W 0 m H1) ∧ ∀ i m H, W i m H →
      (J.stop i H ∧ Qd H) ∨ (J.go i H ∧ ∃ Nx : Hp → Prop, (∀ H', Nx H' → ∃ m', m' < m ∧ W (i + 1) m' H') ∧ ∀ x H', J.yld i H x H' → g x (wipe σ vs) H' fun σ2 H2 => wipe σ2 vs = wipe σ vs ∧ tt σ2 H2 fun b H3 =>
        if b = true then te σ2 H3 fun y H4 => ∃ acc, H4 D = some (.lst acc) ∧ acc.length < sizeLine ∧ Nx (upd H4 D (.lst (acc ++ [y]))) else Nx H3) := by
  refine ⟨fun i m H => m = n - i ∧ i ≤ n ∧ Pv i H, ⟨n, by simp, Nat.zero_le _, h0⟩, ?_⟩
  rintro i m H ⟨rfl, hi, p⟩
  have q := hG i H hi p
  by_cases lt : i < n
  · exact .inr ⟨w.goes i H lt q, Pv (i + 1), fun H' p' => ⟨n - (i + 1), by omega, rfl, lt, p'⟩, fun x H' y => hs i x H H' lt p (w.yields i H x H' lt q y)⟩
  · have e : i = n := by omega
    subst e
    exact .inl ⟨w.stops H q, hd H p⟩
/-- a dict comprehension, one clause -/
theorem dc_it (w : Walk J n G Y) {g : TG} {tt : TT} {tk tv : TE} {vs : List Nat} {σ : L2.St} {H1 : Hp} {D : Addr} {Qd : Hp → Prop} (Pv : Nat → Hp → Prop) (h0 : Pv 0 H1) (hG : ∀ i H, i ≤ n → Pv i H → G H)
    (hs : ∀ i x H H', i < n → Pv i H → Y i H x H' → g x (wipe σ vs) H' fun σ2 H2 => wipe σ2 vs = wipe σ vs ∧ tt σ2 H2 fun b H3 =>
      if b = true then tk σ2 H3 fun y H4 => tv σ2 H4 fun z H5 => ∃ kvs k, y = kV k ∧ H5 D = some (.dK kvs) ∧ kvs.length < sizeLine ∧ Pv (i + 1) (upd H5 D (.dK (putK kvs k z))) else Pv (i + 1) H3) (hd : ∀ H, Pv n H → Qd H) :
    ∃ W : Nat → Nat → Hp → Prop, (∃ m, W 0 m H1) ∧ ∀ i m H, W i m H →
      (J.stop i H ∧ Qd H) ∨ (J.go i H ∧ ∃ Nx : Hp → Prop, (∀ H', Nx H' → ∃ m', m' < m ∧ W (i + 1) m' H') ∧ ∀ x H', J.yld i H x H' → g x (wipe σ vs) H' fun σ2 H2 => wipe σ2 vs = wipe σ vs ∧ tt σ2 H2 fun b H3 =>
        if b = true then tk σ2 H3 fun y H4 => tv σ2 H4 fun z H5 => ∃ kvs k, y = kV k ∧ H5 D = some (.dK kvs) ∧ kvs.length < sizeLine ∧ Nx (upd H5 D (.dK (putK kvs k z))) else Nx H3) := by
  refine ⟨fun i m H => m = n - i ∧ i ≤ n ∧ Pv i H, ⟨n, by simp, Nat.zero_le _, h0⟩, ?_⟩
  rintro i m H ⟨rfl, hi, p⟩
  have q := hG i H hi p
  by_cases lt : i < n
  · exact .inr ⟨w.goes i H lt q, Pv (i + 1), fun H' p' => ⟨n - (i + 1), by omega, rfl, lt, p'⟩, fun x H' y => hs i x H H' lt p (w.yields i H x H' lt q y)⟩
  · have e : i = n := by omega
    subst e
    exact .inl ⟨w.stops H q, hd H p⟩
/-- .. two clauses, the first -/
theorem dc2_it (w : Walk J n G Y) {g g1 : TG} {tt tt1 : TT} {wi1 : TI} {tk tv : TE} {vs vs1 : List Nat} {σ : L2.St} {H1 : Hp} {D : Addr} {Qd : Hp → Prop} (Pv : Nat → Hp → Prop) (h0 : Pv 0 H1) (hG : ∀ i H, i ≤ n → Pv i H → G H)
    (hs : ∀ i x H H', i < n → Pv i H → Y i H x H' → g x (wipe σ vs) H' fun σ2 H2 => wipe σ2 vs = wipe σ vs ∧ tt σ2 H2 fun b H3 =>
      if b = true then wi1 σ2 H3 fun J1 H4 => ∃ V : Nat → Nat → Hp → Prop, (∃ m, V 0 m H4) ∧ ∀ j k H, V j k H →
        (J1.stop j H ∧ Pv (i + 1) H) ∨ (J1.go j H ∧ ∃ Ny : Hp → Prop, (∀ G, Ny G → ∃ k', k' < k ∧ V (j + 1) k' G) ∧ ∀ x G, J1.yld j H x G → g1 x (wipe σ2 vs1) G fun σ3 H5 => wipe σ3 vs1 = wipe σ2 vs1 ∧ tt1 σ3 H5 fun b H6 =>
          if b = true then tk σ3 H6 fun y H7 => tv σ3 H7 fun z H8 => ∃ kvs k, y = kV k ∧ H8 D = some (.dK kvs) ∧ kvs.length < sizeLine ∧ Ny (upd H8 D (.dK (putK kvs k z))) else Ny H6)
      else Pv (i + 1) H3) (hd : ∀ H, Pv n H → Qd H) :
    ∃ W : Nat → Nat → Hp → Prop, (∃ m, W 0 m H1) ∧ ∀ i m H, W i m H →
      (J.stop i H ∧ Qd H) ∨ (J.go i H ∧ ∃ Nx : Hp → Prop, (∀ G, Nx G → ∃ m', m' < m ∧ W (i + 1) m' G) ∧ ∀ x G, J.yld i H x G → g x (wipe σ vs) G fun σ2 H2 => wipe σ2 vs = wipe σ vs ∧ tt σ2 H2 fun b H3 =>
        if b = true then wi1 σ2 H3 fun J1 H4 => ∃ V : Nat → Nat → Hp → Prop, (∃ m, V 0 m H4) ∧ ∀ j k H, V j k H →
          (J1.stop j H ∧ Nx H) ∨ (J1.go j H ∧ ∃ Ny : Hp → Prop, (∀ G, Ny G → ∃ k', k' < k ∧ V (j + 1) k' G) ∧ ∀ x G, J1.yld j H x G → g1 x (wipe σ2 vs1) G fun σ3 H5 => wipe σ3 vs1 = wipe σ2 vs1 ∧ tt1 σ3 H5 fun b H6 =>
            if b = true then tk σ3 H6 fun y H7 => tv σ3 H7 fun z H8 => ∃ kvs k, y = kV k ∧ H8 D = some (.dK kvs) ∧ kvs.length < sizeLine ∧ Ny (upd H8 D (.dK (putK kvs k z))) else Ny H6)
        else Nx H3) := by
  refine ⟨fun i m H => m = n - i ∧ i ≤ n ∧ Pv i H, ⟨n, by simp, Nat.zero_le _, h0⟩, ?_⟩
  rintro i m H ⟨rfl, hi, p⟩
  have q := hG i H hi p
  by_cases lt : i < n
  · exact .inr ⟨w.goes i H lt q, Pv (i + 1), fun H' p' => ⟨n - (i + 1), by omega, rfl, lt, p'⟩, fun x H' y => hs i x H H' lt p (w.yields i H x H' lt q y)⟩
  · have e : i = n := by omega
    subst e
    exact .inl ⟨w.stops H q, hd H p⟩
end
/-- a board's class -/
structure BdC (K : PySem.W.Frag) (C : Addr) : Prop where
  cl : Cls K C
  nR : NoAttr K C "rule"
  nP : NoAttr K C "processors"
  nN : NoAttr K C "now"
  nL : NoAttr K C "lines"
  nU : NoAttr K C "used"
  nA : NoAttr K C "ran"
  nF : NoAttr K C "finishes"
/-- what a board keeps to, its finishes aside -/
structure Bd.Ok0 (s : Bd) : Prop where
  small : s.ran.length ≤ 1000
  ndr : (s.ran.map (·.1)).Nodup
  ndu : (s.used.map (·.1)).Nodup
  ndo : s.order.Nodup
  sub : ∀ x ∈ s.order, x ∈ s.ran.map (·.1)
  here : ∀ x, x ∈ s.used.map (·.1) ↔ x ∈ s.order
  lines1 : 1 ≤ s.lines.length
  lines6 : s.lines.length ≤ 6
structure Bd.Ok (s : Bd) : Prop extends Bd.Ok0 s where
  flen : s.fins.length ≤ 100000
  fst : ∀ f ∈ s.fins, f.2.1.length ≤ 1000 ∧ f.2.2.length ≤ 1000 ∧ ∀ x ∈ f.2.2, x ∈ s.ran.map (·.1)
  ndf : (s.fins.flatMap fun f => f.2.2).Nodup
  gone : ∀ x ∈ s.fins.flatMap (fun f => f.2.2), x ∉ s.order
theorem nd_len {α : Type} [DecidableEq α] : ∀ {l m : List α}, l.Nodup → (∀ x ∈ l, x ∈ m) → l.length ≤ m.length
  | [], m, _, _ => Nat.zero_le _
  | a :: l, m, nd, h => by
    obtain ⟨h1, h2⟩ := List.nodup_cons.mp nd
    have am := h a (List.mem_cons_self ..)
    have ih := nd_len (m := m.erase a) h2 fun x hx => (List.mem_erase_of_ne (fun e => h1 (by rw [← e]; exact hx))).mpr (h x (List.mem_cons_of_mem _ hx))
    rw [List.length_erase_of_mem am] at ih
    have := List.length_pos_of_mem am
    rw [List.length_cons]
    omega
theorem Bd.Ok0.order_le {s : Bd} (h : s.Ok0) : s.order.length ≤ 1000 := by
  have z := nd_len h.ndo fun x hx => h.sub x hx
  rw [List.length_map] at z
  exact Nat.le_trans z h.small
theorem Bd.Ok0.used_le {s : Bd} (h : s.Ok0) : s.used.length ≤ 1000 := by
  have z := nd_len h.ndu fun x hx => (h.here x).mp hx
  rw [List.length_map] at z
  exact Nat.le_trans z h.order_le
theorem Bd.Ok0.line_le {s : Bd} (h : s.Ok0) {i : Nat} {ns : List Str} (e : s.lines[i]? = some ns) : ns.length ≤ 1000 := by
  have z : ns.Sublist s.order := List.sublist_flatten_of_mem (List.mem_of_getElem? e)
  exact Nat.le_trans z.length_le h.order_le
end Vk
set_option maxHeartbeats 8000000
/-! what a board is asked -/
namespace Vk
open PySem PySem.Spec PyProof.Rows L2
theorem off_newB {a : Addr} {H : Hp} {o : HO} (h : H a = none) : Same H (Off a (upd H a o)) := by
  have e : Off a (upd H a o) = H := by
    rw [off_upd]
    funext b
    by_cases z : b = a
    · rw [z, off_same, h]
    · rw [off_ne z]
  rw [e]
  exact Same.refl H
theorem all_flatS (l : List Str) : (l.map V.str).all flatV = true := List.all_eq_true.mpr fun z hz => by
  obtain ⟨y, _, rfl⟩ := List.mem_map.mp hz
  rfl
theorem inV_S (x : Str) (l : List Str) : inV (.str x) (l.map V.str) = decide (x ∈ l) := by
  unfold inV
  rw [List.any_map]
  induction l with
  | nil => rfl
  | cons y r ih =>
    rw [List.any_cons, ih]
    show ((y == x) || decide (x ∈ r)) = decide (x ∈ y :: r)
    by_cases e : y = x
    · simp [e]
    · simp [e, Ne.symm e]
def Bd.level (s : Bd) (x : Str) : Nat := s.lines.findIdx fun l => decide (x ∈ l)
section
variable {P : Program} {w : World} {K : PySem.W.Frag} {mg : Str → Option Value} {base : Heap} {CB : Addr}
def spOrder (K : PySem.W.Frag) (CB : Addr) : Sp := fun vs H Q _ => ∃ (b : Addr) (rv : V) (c : Int) (A : BdA) (s : Bd), vs = [.ref b] ∧ BdAt CB K H b rv c A s ∧ s.Ok0 ∧ ∀ (D : Addr) (H' : Hp), H D = none → Same H H' → H' D = some (.lst (s.order.map V.str)) → Q (.ref D) H'
theorem scOrder : FnScope ["self", "line", "name"] ["self"] (defScope sBdOrder) := ⟨rfl, rfl, rfl, by decide +kernel, rfl, by decide +kernel, by decide +kernel⟩
theorem ok_order (D : MDf K CB "order" "Board.order" sBdOrder ["self"]) (T : BdC K CB) : MCl P w K mg base CX0 1 CB "order" ["self"] (spOrder K CB) := by
  refine mcl0 D scOrder (fun vs H Q E h => ?_) (fun f cdv A outer s H vs Q E hr h => ?_)
  · obtain ⟨b, rv, c, A, s, rfl, _⟩ := h
    rfl
  · obtain ⟨b, rv, c, Ab, sb, rfl, B, ok, k⟩ := h
    refine ⟨_, pss_one (ps_ret (pe_lc2 (own := [("line", 1), ("name", 2)]) (vs1 := [2]) (g := gName 1) (tt := tYes) (wi1 := iList K (tVar 1)) (g1 := gName 2) (tt1 := tYes) (te := tVar 2) (by rfl) scOrder.nd (pi_list (pe_fld (pv 0) rfl))
        (blkOk_by (own := [("line", 1), ("name", 2)]) (N := ["self", "line", "name"]) (sc := defScope sBdOrder) (by decide +kernel)) (by decide) (fun _ _ _ _ _ => pg_name (i := 1) scOrder.nd rfl (Or.inl rfl)) (fun _ _ _ _ _ => pts_nil)
        (fun _ _ _ _ _ => pi_list (pv 1)) (fun _ _ _ _ _ => pg_name (i := 2) scOrder.nd rfl (Or.inl rfl)) (fun _ _ _ _ _ => pts_nil) (fun _ _ _ _ _ => pv 2))), ?_⟩
    refine ⟨_, rfl, b, CB, Ab.dx, _, _, rfl, B.ob, T.cl, T.nL, bf_lines, Ab.L, rfl, ⟨_, SqL.of B.lines⟩, fun D nD => ?_⟩
    have ole := ok.order_le
    refine lc2_it (walk_list (K := K) (a := Ab.L) (xs := Ab.ls.map V.ref)) (fun i Hc => Hc D = some (.lst ((sb.lines.take i).flatten.map V.str)) ∧ Same H (Off D Hc)) ⟨upd_same, off_newB nD⟩ (fun i Hc _ ⟨_, sc⟩ => SqL.of ((sc.trans (off_sub D Hc)).at B.lines)) ?_ ?_
    · rintro i y Hc0 Hc hi ⟨hD, sc⟩ ⟨rfl, hy⟩
      rw [List.getElem?_map] at hy
      obtain ⟨l, hl, rfl⟩ := Option.map_eq_some_iff.mp hy
      have li : i < sb.lines.length := by rw [← B.len]; exact (List.getElem?_eq_some_iff.mp hl).1
      have hns : sb.lines[i]? = some sb.lines[i] := List.getElem?_eq_getElem li
      generalize sb.lines[i] = ns at hns
      have hln := B.line i l ns hl hns
      have tk : (sb.lines.take (i + 1)).flatten = (sb.lines.take i).flatten ++ ns := by
        rw [List.take_add_one, hns, List.flatten_append]
        simp
      have tle : ((sb.lines.take (i + 1)).flatten).length ≤ 1000 := by
        have z := congrArg (fun l => l.flatten.length) (List.take_append_drop (i + 1) sb.lines)
        simp only [List.flatten_append, List.length_append] at z
        have o2 : sb.lines.flatten.length ≤ 1000 := ole
        omega
      rw [tk, List.length_append] at tle
      have sH := sc.trans (off_sub D Hc)
      refine ⟨rfl, _, rfl, l, rfl, ⟨_, SqL.of (sH.at hln)⟩, ?_⟩
      refine in_it (walk_list (K := K) (a := l) (xs := ns.map V.str)) (fun j Hd => Hd D = some (.lst (((sb.lines.take i).flatten ++ ns.take j).map V.str)) ∧ Same H (Off D Hd)) ⟨by rw [List.take_zero, List.append_nil]; exact hD, sc⟩ (fun j Hd _ ⟨_, sd⟩ => SqL.of ((sd.trans (off_sub D Hd)).at hln)) ?_ ?_
      · rintro j z Hd0 Hd hj ⟨hDd, sd⟩ ⟨rfl, hz⟩
        rw [List.getElem?_map] at hz
        obtain ⟨x, hx, rfl⟩ := Option.map_eq_some_iff.mp hz
        refine ⟨rfl, _, rfl, _, hDd, ?_, ?_, ?_⟩
        · rw [List.length_map, List.length_append, List.length_take]
          exact Nat.lt_of_le_of_lt (show (sb.lines.take i).flatten.length + min j ns.length ≤ 1000 by omega) (by decide)
        · rw [upd_same, List.take_add_one, hx]
          simp
        · rw [off_upd]
          exact sd
      · rintro Hd ⟨hDd, sd⟩
        rw [List.length_map, List.take_length] at hDd
        exact ⟨by rw [tk]; exact hDd, sd⟩
    · rintro Hc ⟨hD, sc⟩
      rw [List.length_map, B.len, List.take_length] at hD
      exact k D Hc nD (sc.trans (off_sub D Hc)) hD
def spRun (K : PySem.W.Frag) (CB : Addr) : Sp := fun vs H Q _ => ∃ (b : Addr) (rv : V) (c : Int) (A : BdA) (s : Bd), vs = [.ref b] ∧ BdAt CB K H b rv c A s ∧ s.Ok0 ∧ 0 ≤ c ∧ ∀ (D : Addr) (H' : Hp), H D = none → Same H H' → H' D = some (.tup ((s.run c).map V.str)) → Q (.ref D) H'
theorem scRunning : FnScope ["self"] ["self"] (defScope sBdRunning) := ⟨rfl, rfl, rfl, by decide +kernel, rfl, by decide +kernel, by decide +kernel⟩
theorem cut_take {xs : List V} {c : Int} (h : 0 ≤ c) : cutV xs none (some c) = xs.take c.toNat := by
  unfold cutV
  obtain ⟨n, rfl⟩ : ∃ n : Nat, c = (n : Int) := ⟨c.toNat, by omega⟩
  rw [HT.sIx_none, HT.sIx_nat, List.drop_zero, Nat.sub_zero, Int.toNat_natCast]
  by_cases z : n ≤ xs.length
  · rw [Nat.min_eq_left z]
  · rw [Nat.min_eq_right (by omega), List.take_of_length_le (Nat.le_refl _), List.take_of_length_le (by omega)]
theorem ok_running (D : MDf K CB "running" "Board.running" sBdRunning ["self"]) (T : BdC K CB) (mt : mg "tuple" = none) (OR : MCl P w K mg base CX0 1 CB "order" ["self"] (spOrder K CB)) : MCl P w K mg base CX0 2 CB "running" ["self"] (spRun K CB) := by
  refine mcl0 D scRunning (fun vs H Q E h => ?_) (fun f cdv A outer s H vs Q E hr h => ?_)
  · obtain ⟨b, rv, c, A, s, rfl, _⟩ := h
    rfl
  · obtain ⟨b, rv, c, Ab, sb, rfl, B, ok, c0, k⟩ := h
    obtain ⟨fO, fdO, MO, bO, FO⟩ := OR.ex
    refine ⟨_, pss_one (ps_ret (pe_callTy call_tuple_of (by rfl) mt (by decide +kernel) (pa_cons (pe_slice sl_list (pe_meth0 (pv 0) T.cl MO FO hr bO .nil pass0) po_none (po_some (pe_fld (pv 0) rfl))) pa_nil))), ?_⟩
    refine ⟨_, rfl, b, Ab.dx, _, rfl, B.ob, by kernel_rfl, b, rv, c, Ab, sb, rfl, B, ok, fun D H1 nD s1 hD => ?_⟩
    dsimp only [tNoPart]
    refine ⟨_, rfl, b, CB, Ab.dx, _, _, rfl, s1.at B.ob, T.cl, T.nP, bf_proc, _, rfl, D, _, rfl, SqL.of hD, fun q nq => ?_⟩
    rw [cut_take c0]
    have s2 := same_new (o := .lst ((sb.order.map V.str).take c.toNat)) nq
    refine ⟨q, _, rfl, .inl ⟨SqL.of upd_same, fun t nt => ?_⟩⟩
    have s3 := same_new (o := .tup ((sb.order.map V.str).take c.toNat)) nt
    refine k t _ ((s1.trans s2).free nt) ((s1.trans s2).trans s3) ?_
    rw [upd_same]
    unfold Bd.run
    rw [List.map_take]
def spLevelOf (K : PySem.W.Frag) (CB : Addr) : Sp := fun vs H Q _ => ∃ (b : Addr) (rv : V) (c : Int) (A : BdA) (s : Bd) (x : Str), vs = [.ref b, .str x] ∧ BdAt CB K H b rv c A s ∧ s.Ok0 ∧ x ∈ s.order ∧ ∀ H', Same H H' → Q (.int (s.level x : Nat)) H'
theorem scLevelOf : FnScope ["self", "name", "line"] ["self", "name"] (defScope sBdLevelOf) := ⟨rfl, rfl, rfl, by decide +kernel, rfl, by decide +kernel, by decide +kernel⟩
theorem ok_levelOf (D : MDf K CB "level_of" "Board.level_of" sBdLevelOf ["self", "name"]) (T : BdC K CB) : MCl P w K mg base CX0 1 CB "level_of" ["self", "name"] (spLevelOf K CB) := by
  refine mcl0 D scLevelOf (fun vs H Q E h => ?_) (fun f cdv A outer s H vs Q E hr h => ?_)
  · obtain ⟨b, rv, c, A, s, x, rfl, _⟩ := h
    rfl
  · obtain ⟨b, rv, c, Ab, sb, x, rfl, B, ok, xo, k⟩ := h
    refine ⟨_, pss_one (ps_ret (pe_bm PySem.F.plainAttrs_list PySem.F.slot_list_index PySem.F.type_list_index mt_index
        (pe_lc (own := [("line", 2)]) (g := gName 2) (tt := tYes) (te := tOp (rIn K false) (tVar 1) (tVar 2)) (by rfl) scLevelOf.nd (pi_list (pe_fld (pv 0) rfl))
          (blkOk_by (own := [("line", 2)]) (N := ["self", "name", "line"]) (sc := defScope sBdLevelOf) (by decide +kernel)) (fun _ _ _ _ _ => pg_name (i := 2) scLevelOf.nd rfl (Or.inl rfl)) (fun _ _ _ _ _ => pts_nil)
          (fun _ _ _ _ _ => pe_cmpR op_in_seq (pv 1) (pv 2) (by rfl))) (pa_cons pe_bl pa_nil))), ?_⟩
    refine ⟨_, rfl, b, CB, Ab.dx, _, _, rfl, B.ob, T.cl, T.nL, bf_lines, Ab.L, rfl, ⟨_, SqL.of B.lines⟩, fun D nD => ?_⟩
    refine lc_it (walk_list (K := K) (a := Ab.L) (xs := Ab.ls.map V.ref)) (fun i Hc => Hc D = some (.lst ((sb.lines.take i).map fun l => V.bl (decide (x ∈ l)))) ∧ Same H (Off D Hc)) ⟨upd_same, off_newB nD⟩ (fun i Hc _ ⟨_, sc⟩ => SqL.of ((sc.trans (off_sub D Hc)).at B.lines)) ?_ ?_
    · rintro i y Hc0 Hc hi ⟨hD, sc⟩ ⟨rfl, hy⟩
      rw [List.getElem?_map] at hy
      obtain ⟨l, hl, rfl⟩ := Option.map_eq_some_iff.mp hy
      have li : i < sb.lines.length := by rw [← B.len]; exact (List.getElem?_eq_some_iff.mp hl).1
      have hns : sb.lines[i]? = some sb.lines[i] := List.getElem?_eq_getElem li
      generalize sb.lines[i] = ns at hns
      have hln := (sc.trans (off_sub D Hc)).at (B.line i l ns hl hns)
      refine ⟨rfl, _, rfl, _, rfl, l, _, rfl, .inl (SqL.of hln), rfl, all_flatS ns, _, hD, ?_, ?_, by rw [off_upd]; exact sc⟩
      · have := ok.lines6
        rw [List.length_map, List.length_take]
        exact Nat.lt_of_le_of_lt (show min i sb.lines.length ≤ 1000 by omega) (by decide)
      · rw [upd_same, List.take_add_one, hns, List.map_append]
        show some (HO.lst (_ ++ [V.bl (if false = true then !inV (.str x) (ns.map V.str) else inV (.str x) (ns.map V.str))])) = _
        rw [if_neg Bool.false_ne_true, inV_S]
        rfl
    · rintro Hc ⟨hD, sc⟩
      rw [List.length_map, B.len, List.take_length] at hD
      have ex : ∃ l ∈ sb.lines, decide (x ∈ l) = true := by
        obtain ⟨l, hl, hx⟩ := List.mem_flatten.mp xo
        exact ⟨l, hl, decide_eq_true hx⟩
      have lt : sb.level x < sb.lines.length := List.findIdx_lt_length_of_exists ex
      refine ⟨.inl ⟨rfl, _, SqL.of hD⟩, D, _, .bl true, sb.level x, .bl true, rfl, rfl, SqL.of hD, rfl, ?_, ?_, rfl, fun m z hm hz => ?_, k Hc (sc.trans (off_sub D Hc))⟩
      · exact List.all_eq_true.mpr fun z hz => by
          obtain ⟨y, _, rfl⟩ := List.mem_map.mp hz
          rfl
      · rw [List.getElem?_map, List.getElem?_eq_getElem lt]
        show some (V.bl (decide (x ∈ sb.lines[sb.level x]))) = _
        have z : decide (x ∈ sb.lines[sb.level x]) = true := List.findIdx_getElem (p := fun l => decide (x ∈ l)) (xs := sb.lines) (w := lt)
        rw [z]
      · rw [List.getElem?_map] at hz
        obtain ⟨l, hl, rfl⟩ := Option.map_eq_some_iff.mp hz
        obtain ⟨h1, h2⟩ := List.getElem?_eq_some_iff.mp hl
        have z := List.not_of_lt_findIdx (p := fun l => decide (x ∈ l)) (xs := sb.lines) (i := m) hm
        rw [← h2]
        have z2 : decide (x ∈ sb.lines[m]) = false := by simpa using z
        rw [z2]
        rfl
end
end Vk
set_option maxHeartbeats 4000000
/-! what a board does, as mathematics -/
namespace Vk
open PySem PySem.Spec PyProof.Rows L2
def Rl.stackAt (r : Rl) (i : Nat) : Bool := (r.levels.getD i (false, none)).1
def Rl.quantAt (r : Rl) (i : Nat) : Option Int := (r.levels.getD i (false, none)).2
def Bd.enter (r : Rl) (s : Bd) (x : Str) (e : Nat) : Bd :=
  { s with lines := s.lines.set (min e (s.lines.length - 1)) (if r.stackAt (min e (s.lines.length - 1)) = true then x :: s.lines.getD (min e (s.lines.length - 1)) [] else s.lines.getD (min e (s.lines.length - 1)) [] ++ [x]),
           used := s.used ++ [(x, 0)], ran := s.ran ++ [(x, 0)] }
def Bd.tick1 (s : Bd) (d : Int) (x : Str) : Bd := { s with ran := addS s.ran x d, used := addS s.used x d }
def Bd.leave (s : Bd) (x : Str) : Bd := { s with lines := s.lines.set (s.level x) ((s.lines.getD (s.level x) []).erase x), used := dropS s.used x }
def Bd.out (s : Bd) (x : Str) : Bd := { s with lines := s.lines.set (s.level x) ((s.lines.getD (s.level x) []).erase x) }
def Bd.quanta1 (r : Rl) (s : Bd) (x : Str) : Bd :=
  if r.quantAt (s.level x) = some (getS s.used x) then
    { s with lines := (s.out x).lines.set (min (s.level x + 1) (s.lines.length - 1)) ((s.out x).lines.getD (min (s.level x + 1) (s.lines.length - 1)) [] ++ [x]), used := putS s.used x 0 }
  else s
def Bd.lift (s : Bd) : Bd := { s with lines := s.order :: List.replicate (s.lines.length - 1) [], used := s.used.map fun p => (p.1, 0) }
def Bd.mid (s : Bd) (c d : Int) (fin : List Str) : Bd :=
  let s1 : Bd := { (s.run c).foldl (fun t x => t.tick1 d x) { s with now := s.now + d } with now := s.now + d }
  if (s.run c).filter (fun x => decide (x ∈ fin)) = [] then s1 else { s1 with fins := s1.fins ++ [(s.now + d, s.run c, (s.run c).filter fun x => decide (x ∈ fin))] }
def Bd.endUnits (r : Rl) (c : Int) (s : Bd) (d : Int) (fin : List Str) : Bd :=
  let s4 := ((s.run c).filter fun x => decide (x ∉ (s.run c).filter fun x => decide (x ∈ fin))).foldl (Bd.quanta1 r) (((s.run c).filter fun x => decide (x ∈ fin)).foldl Bd.leave (s.mid c d fin))
  match r.boost with
  | some q => if s4.now.fmod q = 0 then s4.lift else s4
  | none => s4
/-! ### lists of lines -/
theorem flat_erase : ∀ {L : List (List Str)} {i : Nat} {l : List Str} {x : Str}, L[i]? = some l → x ∈ l → (x :: (L.set i (l.erase x)).flatten).Perm L.flatten
  | [], _, _, _, h, _ => by simp at h
  | a :: L, 0, l, x, h, hx => by
    cases (Option.some.inj h)
    show (x :: (a.erase x ++ L.flatten)).Perm (a ++ L.flatten)
    exact ((List.perm_cons_erase hx).symm).append_right L.flatten
  | a :: L, i + 1, l, x, h, hx => by
    have ih := flat_erase (L := L) (i := i) h hx
    show (x :: (a ++ (L.set i (l.erase x)).flatten)).Perm (a ++ L.flatten)
    exact (List.perm_middle.symm).trans (ih.append_left a)
theorem flat_add : ∀ {L : List (List Str)} {i : Nat} {l l' : List Str} {x : Str}, L[i]? = some l → l'.Perm (x :: l) → (L.set i l').flatten.Perm (x :: L.flatten)
  | [], _, _, _, _, h, _ => by simp at h
  | a :: L, 0, l, l', x, h, hp => by
    cases (Option.some.inj h)
    show (l' ++ L.flatten).Perm (x :: (a ++ L.flatten))
    exact hp.append_right L.flatten
  | a :: L, i + 1, l, l', x, h, hp => by
    have ih := flat_add (L := L) (i := i) h hp
    show (a ++ (L.set i l').flatten).Perm (x :: (a ++ L.flatten))
    exact (ih.append_left a).trans List.perm_middle
theorem getD_at {L : List (List Str)} {i : Nat} {l : List Str} (h : L[i]? = some l) : L.getD i [] = l := by
  rw [List.getD_eq_getElem?_getD, h]
  rfl
/-- the line in which a present job stands -/
theorem Bd.level_at {s : Bd} {x : Str} (h : x ∈ s.order) : ∃ l, s.lines[s.level x]? = some l ∧ x ∈ l := by
  have ex : ∃ l ∈ s.lines, decide (x ∈ l) = true := by
    obtain ⟨l, hl, hx⟩ := List.mem_flatten.mp h
    exact ⟨l, hl, decide_eq_true hx⟩
  have lt : s.level x < s.lines.length := List.findIdx_lt_length_of_exists ex
  have z : decide (x ∈ s.lines[s.level x]) = true := List.findIdx_getElem (p := fun l => decide (x ∈ l)) (xs := s.lines) (w := lt)
  exact ⟨_, List.getElem?_eq_getElem lt, of_decide_eq_true z⟩
theorem Bd.Ok0.perm {s t : Bd} (h : s.Ok0) (ho : t.order.Perm s.order) (hl : t.lines.length = s.lines.length) (hu : t.used.map (·.1) = s.used.map (·.1)) (hr : t.ran.map (·.1) = s.ran.map (·.1)) : t.Ok0 := by
  have lr : t.ran.length = s.ran.length := by
    have z := congrArg List.length hr
    rwa [List.length_map, List.length_map] at z
  exact ⟨by rw [lr]; exact h.small, by rw [hr]; exact h.ndr, by rw [hu]; exact h.ndu, ho.nodup_iff.mpr h.ndo, fun x hx => by rw [hr]; exact h.sub x (ho.mem_iff.mp hx), fun x => by rw [hu, h.here x, ho.mem_iff], by rw [hl]; exact h.lines1, by rw [hl]; exact h.lines6⟩
theorem Bd.Ok0.tick1 {s : Bd} (h : s.Ok0) (d : Int) (x : Str) : (s.tick1 d x).Ok0 := h.perm (List.Perm.refl _) rfl (addS_keys _ _ _) (addS_keys _ _ _)
theorem Bd.out_order {s : Bd} {x : Str} (h : x ∈ s.order) : (x :: (s.out x).order).Perm s.order := by
  obtain ⟨l, hl, hx⟩ := Bd.level_at h
  show (x :: (s.lines.set (s.level x) ((s.lines.getD (s.level x) []).erase x)).flatten).Perm s.lines.flatten
  rw [getD_at hl]
  exact flat_erase hl hx
theorem dropS_keys (l : List (Str × Int)) (x : Str) : (dropS l x).map (·.1) = (l.map (·.1)).filter fun y => decide (y ≠ x) := by
  unfold dropS
  rw [List.filter_map]
  rfl
theorem Bd.Ok0.leave {s : Bd} (h : s.Ok0) {x : Str} (hx : x ∈ s.order) : (s.leave x).Ok0 := by
  have p : (x :: (s.leave x).order).Perm s.order := Bd.out_order hx
  have nd := p.nodup_iff.mpr h.ndo
  obtain ⟨nx, nd2⟩ := List.nodup_cons.mp nd
  refine ⟨h.small, h.ndr, ?_, nd2, fun y hy => h.sub y (p.mem_iff.mp (List.mem_cons_of_mem _ hy)), fun y => ?_, ?_, ?_⟩
  · show ((dropS s.used x).map (·.1)).Nodup
    rw [dropS_keys]
    exact h.ndu.filter _
  · show y ∈ (dropS s.used x).map (·.1) ↔ _
    rw [dropS_keys, List.mem_filter, h.here y, ← p.mem_iff, List.mem_cons, decide_eq_true_iff]
    constructor
    · rintro ⟨e | m, ne⟩
      · exact absurd e ne
      · exact m
    · intro m
      exact ⟨.inr m, fun e => by subst e; exact nx m⟩
  · show 1 ≤ (s.lines.set _ _).length
    rw [List.length_set]
    exact h.lines1
  · show (s.lines.set _ _).length ≤ 6
    rw [List.length_set]
    exact h.lines6
theorem Bd.quanta_order {r : Rl} {s : Bd} (h1 : 1 ≤ s.lines.length) {x : Str} (hx : x ∈ s.order) : (s.quanta1 r x).order.Perm s.order := by
  unfold Bd.quanta1
  split
  · have lt : min (s.level x + 1) (s.lines.length - 1) < (s.out x).lines.length := by
      show _ < (s.lines.set _ _).length
      rw [List.length_set]
      omega
    have e := List.getElem?_eq_getElem lt
    refine List.Perm.trans ?_ (Bd.out_order hx)
    show (((s.out x).lines.set _ _).flatten).Perm (x :: (s.out x).lines.flatten)
    rw [getD_at e]
    exact flat_add e (List.perm_append_singleton _ _)
  · exact List.Perm.refl _
theorem Bd.Ok0.quanta1 {r : Rl} {s : Bd} (h : s.Ok0) {x : Str} (hx : x ∈ s.order) : (s.quanta1 r x).Ok0 := by
  refine h.perm (Bd.quanta_order h.lines1 hx) ?_ ?_ ?_
  · unfold Bd.quanta1
    split
    · show ((s.lines.set _ _).set _ _).length = _
      rw [List.length_set, List.length_set]
    · rfl
  · unfold Bd.quanta1
    split
    · exact putS_keys _ _ _
    · rfl
  · unfold Bd.quanta1
    split <;> rfl
theorem Bd.lift_order (s : Bd) : s.lift.order = s.order := by
  show (s.order :: List.replicate (s.lines.length - 1) []).flatten = s.order
  rw [List.flatten_cons]
  have z : (List.replicate (s.lines.length - 1) ([] : List Str)).flatten = [] := by simp
  rw [z, List.append_nil]
theorem Bd.Ok0.lift {s : Bd} (h : s.Ok0) : s.lift.Ok0 := by
  have h1 := h.lines1
  refine h.perm (by rw [Bd.lift_order]) ?_ ?_ rfl
  · show (s.order :: List.replicate (s.lines.length - 1) []).length = _
    rw [List.length_cons, List.length_replicate]
    omega
  · show (s.used.map fun p => (p.1, (0 : Int))).map (·.1) = _
    rw [List.map_map]
    rfl
end Vk
set_option maxHeartbeats 4000000
namespace Vk
open PySem PySem.Spec PyProof.Rows L2
section
variable {P : Program} {w : World} {K : PySem.W.Frag} {mg : Str → Option Value} {base : Heap}
theorem scInteger : FnScope ["value", "least"] ["value", "least"] (defScope sInteger) := ⟨rfl, rfl, rfl, by decide +kernel, rfl, by decide +kernel, by decide +kernel⟩
theorem ok_integer (D : Df K mg "is_integer" sInteger ["value", "least"]) (B : Blt mg) : Cl P w K mg base CX0 1 "is_integer" ["value", "least"] (spInteger K) := by
  refine cl0 D scInteger (fun vs H Q E h => ?_) (fun f cdv A outer s H vs Q E hr h => ?_)
  · obtain ⟨v, d, least, rfl, _⟩ := h
    rfl
  · obtain ⟨v, d, least, rfl, hd, k⟩ := h
    refine ⟨_, pss_one (ps_ret (pe_and (pe_callB call_isi (by rfl) B.isi (by decide +kernel) (pa_cons (pv 0) (pa_cons (pe_bltn (v := .ty "int") (u := .type "int") (by rfl) B.int (by decide +kernel) rfl) pa_nil))) (pe_and (pe_not (pe_callB call_isi (by rfl) B.isi (by decide +kernel) (pa_cons (pv 0) (pa_cons (pe_bltn (v := .ty "bool") (u := .type "bool") (by rfl) B.bool (by decide +kernel) rfl) pa_nil)))) (pe_one (pe_cmpR op_ge (pv 0) (pv 1) (nomark _)))))), ?_⟩
    refine ⟨_, rfl, v, _, _, _, _, rfl, .ty "int", dp_ty hd, kit_int hd, _, rfl, ?_⟩
    cases hd with
    | int i =>
      refine iteT ⟨_, rfl, _, _, _, _, _, rfl, .ty "bool", dp_ty (.int i), kit_bool (H := H) (.int i), _, rfl, _, rfl, iteT ?_⟩
      exact ⟨_, rfl, _, rfl, _, _, rfl, rfl, k⟩
    | bl b => exact iteT ⟨_, rfl, _, _, _, _, _, rfl, .ty "bool", dp_ty (.bl b), kit_bool (H := H) (.bl b), _, rfl, _, rfl, iteF k⟩
    | non => exact iteF k
    | str x => exact iteF k
    | lst q r => exact iteF k
    | tup q r => exact iteF k
theorem scTupleOf : FnScope ["value", "many"] ["value", "many"] (defScope sTupleOf) := ⟨rfl, rfl, rfl, by decide +kernel, rfl, by decide +kernel, by decide +kernel⟩
theorem ok_tupleOf (D : Df K mg "is_tuple_of" sTupleOf ["value", "many"]) (B : Blt mg) : Cl P w K mg base CX0 1 "is_tuple_of" ["value", "many"] (spTupleOf K) := by
  refine cl0 D scTupleOf (fun vs H Q E h => ?_) (fun f cdv A outer s H vs Q E hr h => ?_)
  · obtain ⟨v, d, n, rfl, _⟩ := h
    rfl
  · obtain ⟨v, d, n, rfl, hd, k⟩ := h
    refine ⟨_, pss_one (ps_ret (pe_and (pe_callB call_isi (by rfl) B.isi (by decide +kernel) (pa_cons (pv 0) (pa_cons (pe_bltn (v := .ty "tuple") (u := .type "tuple") (by rfl) B.tuple (by decide +kernel) rfl) pa_nil))) (pe_one (pe_cmpR op_eq (pe_callB call_len_seq (by rfl) B.len PySem.boot_len (pa_cons (pv 0) pa_nil)) (pv 1) (nomark _))))), ?_⟩
    refine ⟨_, rfl, v, _, _, _, _, rfl, .ty "tuple", dp_ty hd, kit_tup hd, _, rfl, ?_⟩
    cases hd with
    | int i => exact iteF k
    | bl b => exact iteF k
    | non => exact iteF k
    | str x => exact iteF k
    | lst q r => exact iteF k
    | @tup a xs ds q r =>
      refine iteT ⟨_, rfl, _, xs, rfl, .inr q, _, rfl, rfl, ?_⟩
      have e : decide (V.int (xs.length : Nat) = V.int n) = tupleND n (.tuple ds) := by
        show _ = decide ((ds.length : Int) = n)
        rw [dps_len r]
        by_cases z : (ds.length : Int) = n
        · rw [z, decide_eq_true rfl, decide_eq_true rfl]
        · rw [decide_eq_false z, decide_eq_false (fun y => z (V.int.inj y))]
      show Q (.bl (decide (V.int (xs.length : Nat) = V.int n))) H
      rw [e]
      exact k
end
end Vk
set_option maxHeartbeats 4000000
/-! all(lo <= c <= hi for c in text) -/
namespace Vk
open PySem PySem.Spec PyProof.Rows L2 GxR
def between (lo hi : Str) (c : Nat) : Bool := !decide ([c] < lo.cps.toList) && !decide (hi.cps.toList < [c])
theorem elt_between {prog : Program} {w : World} {scope : Scope} {x lo hi : Str} {j1 j2 : Nat} {p1 p2 p3 p4 : Pos} (hk : scope.kind = .function) (hl : scope.names.lookup x = some .local) (hd : (x == ("__debug__" : Str)) = false := by decide) :
    EltP prog w scope x (.Compare (.Constant (.str lo) j1 p1) [.LtE, .LtE] [.Name x p2, .Constant (.str hi) j2 p3] p4) (between lo hi) := by
  intro cenv A' E' c t s₂ m₂ hs hn hm
  refine Compare_chain ?_
  refine Calls.Constant_str (chain_link ?_)
  refine wpAny_Name (wpAny_loadName_local (by rw [hs]; exact hk) (show cenv.scope.names.lookup x = some .local by rw [hs]; exact hl) hn hm ?_) hd
  refine PySem.P.le_str (wpAny_truthy_bool ?_)
  have e1 : (⟨#[c]⟩ : Str).cps.toList = [c] := rfl
  cases h1 : decide ([c] < lo.cps.toList) with
  | true =>
    refine ite_ff ⟨?_, keeps_tok _ _⟩
    unfold between
    rw [h1]
    rfl
  | false =>
    refine ite_tt (chain_last (Calls.Constant_str (PySem.P.le_str ⟨?_, keeps_tok _ _⟩)))
    unfold between
    rw [h1]
    rfl
end Vk
set_option maxHeartbeats 4000000
namespace Vk
open PySem PySem.Spec PyProof.Rows L2 GxR
/-- a def whose code object stands at c -/
structure DfC (K : PySem.W.Frag) (mg : Str → Option Value) (x : Str) (st : Stmt) (ps : List Str) (c : Addr) : Prop where
  ex : ∃ (f : Addr) (oc : Value) (od : Option Addr) (kV doc pm : Value) (an : Option Addr) (ct : Value) (osl : Array (Option Value)), mg x = some (.ref f) ∧
    K.lookup f = some ⟨oc, od, .func (PySem.W.fnOf x x (defArgs st) (defBody st) (defScope st) .none kV doc pm an (.ref c) ct), osl⟩ ∧ PySem.W.codeIn K (.ref c) x = true ∧ PySem.W.keepIn K (.ref f) = true ∧
    Binds K (PySem.W.fnOf x x (defArgs st) (defBody st) (defScope st) .none kV doc pm an (.ref c) ct) ps []
theorem clC {P : Program} {w : World} {K : PySem.W.Frag} {mg : Str → Option Value} {base : Heap} {x : Str} {st : Stmt} {N ps : List Str} {k : Nat} {sp : Sp} {c : Addr} (D : DfC K mg x st ps c) (S : FnScope N ps (defScope st)) (len : ∀ vs H Q E, sp vs H Q E → vs.length = ps.length)
    (body : ∀ (f : Addr) (A : Around) (outer : List Env) (s : Shared) (H : Hp) (vs : List V) (Q : VK) (E : XK), Room k (A.deeper (envOfC x (defScope st) s.heap.objs.size f (.ref c))) → sp vs H Q E →
      ∃ t, PSs (cxOf CX0 P w K mg base N x (defScope st) f (.ref c) A outer s H E).nox (defBody st) t ∧ t { nx := fun _ H' => Q .non H', rt := Q } (start N vs) H) : Cl P w K mg base CX0 (k + 1) x ps sp := by
  obtain ⟨f, oc, od, kV, doc, pm, an, ct, osl, hm, lk, hcd, kp, b⟩ := D.ex
  refine ⟨f, _, hm, kp, b, fn_of lk hcd S len fun A outer s H vs Q E hr hsp => ?_⟩
  obtain ⟨t, h, q⟩ := body f A outer s H vs Q E hr hsp
  exact ⟨t, h.nox, q⟩
theorem twoLoc {R : Str × NameKind → Prop} {a b : Str} : ∀ y ∈ [(a, NameKind.local), (b, NameKind.local)], y.2 = .free → R y := by
  intro y hy e
  rcases List.mem_cons.mp hy with rfl | hy
  · cases e
  · rcases List.mem_cons.mp hy with rfl | hy
    · cases e
    · cases hy
def smallS : PyData → Prop
  | .str s => s.length ≤ 1000
  | _ => True
def nameD : PyData → Bool
  | .str s => decide (1 ≤ s.length) && (decide (s.length ≤ 8) && s.cps.toList.all (between "a" "z"))
  | _ => false
section
variable {P : Program} {w : World} {K : PySem.W.Frag} {mg : Str → Option Value} {base : Heap}
def spName (K : PySem.W.Frag) (T : Addr) : Sp := fun vs H Q _ => ∃ (v : V) (d : PyData), vs = [v] ∧ Dp K H v d ∧ smallS d ∧ TabG H T ∧ ∀ H', Same H H' → Q (.bl (nameD d)) H'
theorem scName : FnScope ["value"] ["value"] (defScope sName) := ⟨rfl, rfl, rfl, by decide +kernel, rfl, by decide +kernel, by decide +kernel⟩
theorem ok_name {c T : Addr} (D : DfC K mg "is_name" sName ["value"] c) (TB : TabB base mg c T) (B : Blt mg) (al : mg "all" = none) : Cl P w K mg base CX0 1 "is_name" ["value"] (spName K T) := by
  refine clC D scName (fun vs H Q E h => ?_) (fun f A outer s H vs Q E hr h => ?_)
  · obtain ⟨v, d, rfl, _⟩ := h
    rfl
  · obtain ⟨v, d, rfl, hd, sm, tg, k⟩ := h
    refine ⟨_, pss_cons (ps_if (PW.pt (pw_or (pt_not (pt_val (pe_callB call_isi (by rfl) B.isi (by decide +kernel) (pa_cons (pv 0) (pa_cons (pe_bltn (v := .ty "str") (u := .type "str") (by rfl) B.str (by decide +kernel) rfl) pa_nil))))) (pw_or1 (pt_not (pt_chain op_le op_le pe_int (pe_callB call_len (by rfl) B.len PySem.boot_len (pa_cons (pv 0) pa_nil)) pe_int))))) (pss_one (ps_ret pe_bl)) pss_nil)
      (pss_one (ps_ret (pe_allS (c := c) (P := T) (pb := between "a" "z") hr (by rfl) al (by decide +kernel) TB rfl ⟨rfl, rfl, by decide +kernel, by decide +kernel, by decide +kernel, twoLoc⟩ (pv 0) (elt_between rfl (by decide +kernel)) (fun _ => rfl)))), ?_⟩
    refine ⟨_, rfl, v, _, _, _, _, rfl, .ty "str", dp_ty hd, kit_strT hd, _, rfl, ?_⟩
    have fin : ∀ b, nameD d = b → ∀ H', Same H H' → Q (.bl b) H' := fun b e H' s1 => by
      have z := k H' s1
      rw [e] at z
      exact z
    cases hd with
    | non => exact iteT (iteT (fin _ rfl H (Same.refl H)))
    | int i => exact iteT (iteT (fin _ rfl H (Same.refl H)))
    | bl b => exact iteT (iteT (fin _ rfl H (Same.refl H)))
    | lst q r => exact iteT (iteT (fin _ rfl H (Same.refl H)))
    | tup q r => exact iteT (iteT (fin _ rfl H (Same.refl H)))
    | str x =>
      refine iteF ⟨_, rfl, .str x, x.length, rfl, ⟨Nat.le_trans (show x.length ≤ 1000 from sm) (by decide), rfl⟩, _, _, rfl, rfl, _, rfl, ?_⟩
      have e : nameD (.str x) = (decide (1 ≤ x.length) && (decide (x.length ≤ 8) && x.cps.toList.all (between "a" "z"))) := rfl
      refine ite2 (fun z1 => ?_) (fun z1 => ?_)
      · have z2 : (1 : Int) ≤ (x.length : Nat) := of_decide_eq_true z1
        have e1 : decide (1 ≤ x.length) = true := decide_eq_true (by omega)
        refine ⟨_, _, rfl, rfl, _, rfl, ?_⟩
        by_cases z3 : x.length ≤ 8
        · rw [decide_eq_true (show ((x.length : Nat) : Int) ≤ 8 by omega)]
          refine iteF ⟨_, rfl, x, rfl, tg, fun H2 tb => fin _ ?_ H2 (same_tabbed tb tg)⟩
          rw [e, e1, decide_eq_true z3]
          rfl
        · rw [decide_eq_false (show ¬ ((x.length : Nat) : Int) ≤ 8 by omega)]
          refine iteT (fin _ ?_ H (Same.refl H))
          rw [e, e1, decide_eq_false z3]
          rfl
      · have z2 : ¬ 1 ≤ x.length := fun y => z1 (decide_eq_true (by omega))
        refine ⟨_, rfl, iteT (fin _ ?_ H (Same.refl H))⟩
        rw [e, decide_eq_false z2]
        rfl
end
end Vk
set_option maxHeartbeats 4000000
namespace Vk
open PySem PySem.Spec PyProof.Rows L2 GxR
/-! ### data of a job -/
def headD : PyData → Bool
  | .tuple [a, _] => flatD a
  | _ => true
theorem tup_two {d : PyData} (h : tupleND 2 d = true) : ∃ a b, d = .tuple [a, b] := by
  cases d with
  | tuple ds =>
    have z : (ds.length : Int) = 2 := of_decide_eq_true h
    match ds, z with
    | [a, b], _ => exact ⟨a, b, rfl⟩
    | [], z => cases z
    | [_], z => cases z
    | _ :: _ :: _ :: l, z => simp only [List.length_cons] at z; omega
  | _ => cases h
theorem tup_three {d : PyData} (h : tupleND 3 d = true) : ∃ a b c, d = .tuple [a, b, c] := by
  cases d with
  | tuple ds =>
    have z : (ds.length : Int) = 3 := of_decide_eq_true h
    match ds, z with
    | [a, b, c], _ => exact ⟨a, b, c, rfl⟩
    | [], z => cases z
    | [_], z => cases z
    | [_, _], z => cases z
    | _ :: _ :: _ :: _ :: l, z => simp only [List.length_cons] at z; omega
  | _ => cases h
theorem dp_two {K : PySem.W.Frag} {H : Hp} {v : V} {a b : PyData} (h : Dp K H v (.tuple [a, b])) : ∃ p x y, v = .ref p ∧ SqT K H p [x, y] ∧ Dp K H x a ∧ Dp K H y b := by
  obtain ⟨p, xs, rfl, q, r⟩ := dp_tuple h
  cases r with
  | cons h1 r =>
    cases r with
    | cons h2 r =>
      cases r
      exact ⟨p, _, _, rfl, q, h1, h2⟩
theorem dp_three {K : PySem.W.Frag} {H : Hp} {v : V} {a b c : PyData} (h : Dp K H v (.tuple [a, b, c])) : ∃ p x y z, v = .ref p ∧ SqT K H p [x, y, z] ∧ Dp K H x a ∧ Dp K H y b ∧ Dp K H z c := by
  obtain ⟨p, xs, rfl, q, r⟩ := dp_tuple h
  cases r with
  | cons h1 r =>
    cases r with
    | cons h2 r =>
      cases r with
      | cons h3 r =>
        cases r
        exact ⟨p, _, _, _, rfl, q, h1, h2, h3⟩
def atS (s : Str) : PyData → Bool
  | .str x => decide (x = s)
  | _ => false
theorem scal_S {K : PySem.W.Frag} {H : Hp} {v : V} {d : PyData} {s : Str} (h : Dp K H v d) (f : flatD d = true) : scal v (.str s) = true := by
  cases h with
  | lst q r => cases f
  | tup q r => cases f
  | _ => rfl
theorem eq_S {K : PySem.W.Frag} {H : Hp} {v : V} {d : PyData} {s : Str} (h : Dp K H v d) : decide (v = .str s) = atS s d := by
  cases h with
  | str x =>
    show decide (V.str x = V.str s) = decide (x = s)
    by_cases z : x = s
    · rw [z, decide_eq_true rfl, decide_eq_true rfl]
    · rw [decide_eq_false z, decide_eq_false (fun y => z (V.str.inj y))]
  | non => exact decide_eq_false (fun z => nomatch z)
  | bl b => exact decide_eq_false (fun z => nomatch z)
  | int i => exact decide_eq_false (fun z => nomatch z)
  | lst q r => exact decide_eq_false (fun z => nomatch z)
  | tup q r => exact decide_eq_false (fun z => nomatch z)
def arrivalD : PyData → Bool
  | .tuple [k, x] => if atS "at" k = true then integerD 0 x else (atS "after" k && integerD 1 x)
  | _ => false
def le9 : PyData → Bool
  | .int i => decide (i ≤ 9)
  | _ => false
def jobD : PyData → Bool
  | .tuple [n, a, e] => nameD n && (arrivalD a && (integerD 0 e && le9 e))
  | _ => false
def niceJob : PyData → Prop
  | .tuple [n, a, _] => smallS n ∧ headD a = true
  | _ => True
theorem arr_not {d : PyData} (h : tupleND 2 d = false) : arrivalD d = false := by
  cases d with
  | tuple ds =>
    have z : ¬ (ds.length : Int) = 2 := of_decide_eq_false h
    match ds, z with
    | [a, b], z => exact absurd rfl z
    | [], _ => rfl
    | [_], _ => rfl
    | _ :: _ :: _ :: l, _ => rfl
  | _ => rfl
theorem job_not {d : PyData} (h : tupleND 3 d = false) : jobD d = false := by
  cases d with
  | tuple ds =>
    have z : ¬ (ds.length : Int) = 3 := of_decide_eq_false h
    match ds, z with
    | [a, b, c], z => exact absurd rfl z
    | [], _ => rfl
    | [_], _ => rfl
    | [_, _], _ => rfl
    | _ :: _ :: _ :: _ :: l, _ => rfl
  | _ => rfl
section
variable {P : Program} {w : World} {K : PySem.W.Frag} {mg : Str → Option Value} {base : Heap}
def spArrival (K : PySem.W.Frag) : Sp := fun vs H Q _ => ∃ (v : V) (d : PyData), vs = [v] ∧ Dp K H v d ∧ headD d = true ∧ ∀ H', Same H H' → Q (.bl (arrivalD d)) H'
theorem scArrival : FnScope ["arrival", "kind", "number"] ["arrival"] (defScope sArrival) := ⟨rfl, rfl, rfl, by decide +kernel, rfl, by decide +kernel, by decide +kernel⟩
theorem ok_arrival (D : Df K mg "is_arrival" sArrival ["arrival"]) (T : Cl P w K mg base CX0 1 "is_tuple_of" ["value", "many"] (spTupleOf K)) (I : Cl P w K mg base CX0 1 "is_integer" ["value", "least"] (spInteger K)) : Cl P w K mg base CX0 2 "is_arrival" ["arrival"] (spArrival K) := by
  refine cl0 D scArrival (fun vs H Q E h => ?_) (fun f cdv A outer s H vs Q E hr h => ?_)
  · obtain ⟨v, d, rfl, _⟩ := h
    rfl
  · obtain ⟨v, d, rfl, hd, fl, k⟩ := h
    refine ⟨_, pss_cons (ps_if (pt_not (pt_val (pc T hr (by decide) (pa_cons (pv 0) (pa_cons pe_int pa_nil))))) (pss_one (ps_ret pe_bl)) pss_nil)
      (pss_cons (ps_asg (pv 0) (pg_tup rfl (pgs_cons (pg_name (i := 1) scArrival.nd rfl (.inl rfl)) (pgs_cons (pg_name (i := 2) scArrival.nd rfl (.inl rfl)) pgs_nil))))
      (pss_cons (ps_if (pt_cmpR op_eq (pv 1) pe_str (nomark _)) (pss_one (ps_ret (pc I hr (by decide) (pa_cons (pv 2) (pa_cons pe_int pa_nil))))) pss_nil)
      (pss_one (ps_ret (pe_and (pe_cmpR op_eq (pv 1) pe_str (nomark _)) (pe_one (pc I hr (by decide) (pa_cons (pv 2) (pa_cons pe_int pa_nil))))))))), ?_⟩
    refine ⟨_, rfl, v, d, 2, rfl, hd, _, rfl, ?_⟩
    cases ht : tupleND 2 d with
    | false =>
      refine iteT ?_
      have z := k H (Same.refl H)
      rw [arr_not ht] at z
      exact z
    | true =>
      obtain ⟨a, b, rfl⟩ := tup_two ht
      obtain ⟨p, x, y, rfl, q, ha, hb⟩ := dp_two hd
      have fl2 : flatD a = true := fl
      have kk := k H (Same.refl H)
      have e : arrivalD (.tuple [a, b]) = if atS "at" a = true then integerD 0 b else (atS "after" a && integerD 1 b) := rfl
      rw [e] at kk
      refine iteF ⟨_, rfl, p, _, rfl, q, rfl, _, _, rfl, _, _, rfl, rfl, ?_⟩
      refine ⟨_, rfl, scal_S ha fl2, _, rfl, ?_⟩
      rw [eq_S ha]
      cases h1 : atS "at" a with
      | true =>
        rw [h1] at kk
        exact iteT ⟨_, rfl, y, b, 0, rfl, hb, kk⟩
      | false =>
        rw [h1] at kk
        refine iteF ⟨_, rfl, scal_S ha fl2, _, rfl, ?_⟩
        rw [eq_S ha]
        cases h2 : atS "after" a with
        | true =>
          rw [h2] at kk
          exact iteT ⟨_, rfl, y, b, 1, rfl, hb, kk⟩
        | false =>
          rw [h2] at kk
          exact iteF kk
def spIsJob (K : PySem.W.Frag) (T : Addr) : Sp := fun vs H Q _ => ∃ (v : V) (d : PyData), vs = [v] ∧ Dp K H v d ∧ niceJob d ∧ TabG H T ∧ ∀ H', Same H H' → Q (.bl (jobD d)) H'
theorem scIsJob : FnScope ["job", "name", "arrival", "entry"] ["job"] (defScope sIsJob) := ⟨rfl, rfl, rfl, by decide +kernel, rfl, by decide +kernel, by decide +kernel⟩
theorem ok_isJob {T : Addr} (D : Df K mg "is_job" sIsJob ["job"]) (TU : Cl P w K mg base CX0 1 "is_tuple_of" ["value", "many"] (spTupleOf K)) (I : Cl P w K mg base CX0 1 "is_integer" ["value", "least"] (spInteger K)) (NA : Cl P w K mg base CX0 1 "is_name" ["value"] (spName K T))
    (AR : Cl P w K mg base CX0 2 "is_arrival" ["arrival"] (spArrival K)) : Cl P w K mg base CX0 3 "is_job" ["job"] (spIsJob K T) := by
  refine cl0 D scIsJob (fun vs H Q E h => ?_) (fun f cdv A outer s H vs Q E hr h => ?_)
  · obtain ⟨v, d, rfl, _⟩ := h
    rfl
  · obtain ⟨v, d, rfl, hd, nj, tg, k⟩ := h
    refine ⟨_, pss_cons (ps_if (pt_not (pt_val (pc TU hr (by decide) (pa_cons (pv 0) (pa_cons pe_int pa_nil))))) (pss_one (ps_ret pe_bl)) pss_nil)
      (pss_cons (ps_asg (pv 0) (pg_tup rfl (pgs_cons (pg_name (i := 1) scIsJob.nd rfl (.inl rfl)) (pgs_cons (pg_name (i := 2) scIsJob.nd rfl (.inl rfl)) (pgs_cons (pg_name (i := 3) scIsJob.nd rfl (.inl rfl)) pgs_nil)))))
      (pss_one (ps_ret (pe_and (pc NA hr (by decide) (pa_cons (pv 1) pa_nil)) (pe_and (pc AR hr (by decide) (pa_cons (pv 2) pa_nil)) (pe_and (pc I hr (by decide) (pa_cons (pv 3) (pa_cons pe_int pa_nil)))
        (pe_one (pe_cmpR op_le (pv 3) pe_int (nomark _))))))))), ?_⟩
    refine ⟨_, rfl, v, d, 3, rfl, hd, _, rfl, ?_⟩
    cases ht : tupleND 3 d with
    | false =>
      refine iteT ?_
      have z := k H (Same.refl H)
      rw [job_not ht] at z
      exact z
    | true =>
      obtain ⟨n, a, e, rfl⟩ := tup_three ht
      obtain ⟨p, x, y, z, rfl, q, hn, ha, he⟩ := dp_three hd
      have je : jobD (.tuple [n, a, e]) = (nameD n && (arrivalD a && (integerD 0 e && le9 e))) := rfl
      refine iteF ⟨_, rfl, p, _, rfl, q, rfl, _, _, rfl, _, _, rfl, _, _, rfl, rfl, ?_⟩
      refine ⟨_, rfl, x, n, rfl, hn, nj.1, tg, fun H1 s1 => ⟨_, rfl, ?_⟩⟩
      cases hN : nameD n with
      | false =>
        have z := k H1 s1
        rw [je, hN] at z
        exact iteF z
      | true =>
        refine iteT ⟨_, rfl, y, a, rfl, dp_same s1 ha, nj.2, fun H2 s2 => ⟨_, rfl, ?_⟩⟩
        have s12 := s1.trans s2
        have kk := k H2 s12
        rw [je, hN] at kk
        cases hA : arrivalD a with
        | false =>
          rw [hA] at kk
          exact iteF kk
        | true =>
          rw [hA] at kk
          refine iteT ⟨_, rfl, z, e, 0, rfl, dp_same s12 he, _, rfl, ?_⟩
          cases he with
          | int i =>
            cases hI : integerD 0 (.int i) with
            | false =>
              rw [hI] at kk
              exact iteF kk
            | true =>
              rw [hI] at kk
              exact iteT ⟨_, rfl, _, _, rfl, rfl, kk⟩
          | bl b => exact iteF kk
          | non => exact iteF kk
          | str b => exact iteF kk
          | lst q r => exact iteF kk
          | tup q r => exact iteF kk
end
end Vk
set_option maxHeartbeats 4000000
namespace Vk
open PySem PySem.Spec PyProof.Rows L2 GxR
theorem same_put {H Hc : Hp} {D : Addr} {o : HO} (s : Same H Hc) (n : H D = none) : Same H (upd Hc D o) := by
  have ne : ∀ {b : Addr} {u : HO}, H b = some u → b ≠ D := fun e => ne_of_none e n
  refine ⟨fun b u e nt => ?_, fun b e => ?_, fun P ⟨ps, e, t⟩ => ?_⟩
  · rw [upd_ne (ne e)]
    exact s.at_ b u e nt
  · by_cases z : b = D
    · rw [z] at e
      exact absurd n e
    · rw [upd_ne z]
      exact s.has b e
  · obtain ⟨qs, f, u⟩ := s.tab P ⟨ps, e, t⟩
    exact ⟨qs, by rw [upd_ne (ne e)]; exact f, u⟩
/-- a valid job's parts -/
theorem job_parts {d : PyData} (h : jobD d = true) : ∃ (n k : Str) (t e : Int), d = .tuple [.str n, .tuple [.str k, .int t], .int e] ∧ nameD (.str n) = true ∧ (k = "at" ∨ k = "after") := by
  have ht : tupleND 3 d = true := by
    cases h2 : tupleND 3 d with
    | true => rfl
    | false =>
      rw [job_not h2] at h
      cases h
  obtain ⟨n, a, e, rfl⟩ := tup_three ht
  obtain ⟨h1, h2⟩ := Bool.and_eq_true_iff.mp (show (nameD n && (arrivalD a && (integerD 0 e && le9 e))) = true from h)
  obtain ⟨h3, h4⟩ := Bool.and_eq_true_iff.mp h2
  obtain ⟨h5, _⟩ := Bool.and_eq_true_iff.mp h4
  have hta : tupleND 2 a = true := by
    cases h6 : tupleND 2 a with
    | true => rfl
    | false =>
      rw [arr_not h6] at h3
      cases h3
  obtain ⟨k, x, rfl⟩ := tup_two hta
  have h7 : (if atS "at" k = true then integerD 0 x else (atS "after" k && integerD 1 x)) = true := h3
  have intOf : ∀ {m : Int} {q : PyData}, integerD m q = true → ∃ i, q = .int i := fun {m q} z => by
    cases q with
    | int i => exact ⟨i, rfl⟩
    | _ => cases z
  have strOf : ∀ {s : Str} {q : PyData}, atS s q = true → q = .str s := fun {s q} z => by
    cases q with
    | str x => exact congrArg PyData.str (of_decide_eq_true z)
    | _ => cases z
  obtain ⟨e', rfl⟩ := intOf h5
  cases n with
  | str nm =>
    by_cases h8 : atS "at" k = true
    · rw [if_pos h8] at h7
      obtain ⟨t, rfl⟩ := intOf h7
      have z := strOf h8
      subst z
      exact ⟨nm, _, t, e', rfl, h1, .inl rfl⟩
    · rw [if_neg h8] at h7
      obtain ⟨h9, h10⟩ := Bool.and_eq_true_iff.mp h7
      obtain ⟨t, rfl⟩ := intOf h10
      have z := strOf h9
      subst z
      exact ⟨nm, _, t, e', rfl, h1, .inr rfl⟩
  | _ => cases h1
/-- an arrival before so many finishes -/
def befA (m : Int) : PyData → Bool
  | .tuple [k, .int t] => atS "at" k || decide (t < m)
  | _ => false
def arrD : PyData → PyData
  | .tuple [_, a, _] => a
  | d => d
def waitsD (js : List PyData) (d : PyData) : Bool := match arrD d with
  | .tuple [k, .int m] => !atS "at" k && decide ((((js.map arrD).countP (befA m) : Nat) : Int) < m)
  | _ => false
theorem nice_of {d : PyData} (h : jobD d = true) : niceJob d := by
  obtain ⟨n, k, t, e, rfl, hn, _⟩ := job_parts h
  refine ⟨?_, rfl⟩
  have z : (decide (1 ≤ n.length) && (decide (n.length ≤ 8) && n.cps.toList.all (between "a" "z"))) = true := hn
  have z2 := of_decide_eq_true (Bool.and_eq_true_iff.mp (Bool.and_eq_true_iff.mp z).2).1
  show n.length ≤ 1000
  omega
section
variable {P : Program} {w : World} {K : PySem.W.Frag} {mg : Str → Option Value} {base : Heap}
def spWaits (K : PySem.W.Frag) : Sp := fun vs H Q _ => ∃ (v u : V) (d : PyData) (js : List PyData), vs = [v, u] ∧ Dp K H v d ∧ Dp K H u (.tuple js) ∧ jobD d = true ∧ js.all jobD = true ∧ js.length ≤ 1000 ∧ ∀ H', Same H H' → Q (.bl (waitsD js d)) H'
theorem scWaits : FnScope ["job", "jobs", "kind", "number", "arrivals", "ahead", "other"] ["job", "jobs"] (defScope sWaits) := ⟨rfl, rfl, rfl, by decide +kernel, rfl, by decide +kernel, by decide +kernel⟩
theorem ok_waits (D : Df K mg "waits_forever" sWaits ["job", "jobs"]) (B : Blt mg) : Cl P w K mg base CX0 1 "waits_forever" ["job", "jobs"] (spWaits K) := by
  refine cl0 D scWaits (fun vs H Q E h => ?_) (fun f cdv A outer s H vs Q E hr h => ?_)
  · obtain ⟨v, u, d, js, rfl, _⟩ := h
    rfl
  · obtain ⟨v, u, d, js, rfl, hd, hj, jd, okj, l1000, k⟩ := h
    refine ⟨_, pss_cons (ps_asg (pe_ix ix_tup (pv 0) pe_int (fun _ _ => rfl)) (pg_tup rfl (pgs_cons (pg_name (i := 2) scWaits.nd rfl (.inl rfl)) (pgs_cons (pg_name (i := 3) scWaits.nd rfl (.inr rfl)) pgs_nil))))
      (pss_cons (ps_if (pt_cmpR op_eq (pv 2) pe_str (nomark _)) (pss_one (ps_ret pe_bl)) pss_nil)
      (pss_cons (ps_setLc (i := 4) (own := [("other", 6)]) (g := gName 6) (tt := tYes) (te := tOp (rIxT K) (tVar 6) (tC (.int 1))) rfl scWaits.nd rfl rfl (sw_true rfl rfl rfl (by decide +kernel)) (pi_tup (pv 1)) (blkOk_by (own := [("other", 6)]) (N := ["job", "jobs", "kind", "number", "arrivals", "ahead", "other"]) (sc := defScope sWaits) (by decide +kernel))
        (fun _ _ _ _ _ => pg_name (i := 6) scWaits.nd rfl (Or.inl rfl)) (fun _ _ _ _ _ => pts_nil) (fun _ _ _ _ _ => pe_ix ix_tup (pv 6) pe_int (fun _ _ => rfl)))
      (pss_cons (ps_setLc (i := 5) (own := [("other", 6)]) (g := gName 6) (tt := tOr (tTest (tOp rEq (tOp (rIxT K) (tVar 6) (tC (.int 0))) (tC (.str ("at" : Str))))) (tTest (tOp (rI0 fun i j => .bl (decide (i < j))) (tOp (rIxT K) (tVar 6) (tC (.int 1))) (tVar 3)))) (te := tVar 6) rfl scWaits.nd rfl rfl (sw_true rfl rfl rfl (by decide +kernel)) (pi_list (pv 4)) (blkOk_by (own := [("other", 6)]) (N := ["job", "jobs", "kind", "number", "arrivals", "ahead", "other"]) (sc := defScope sWaits) (by decide +kernel))
        (fun _ _ _ _ _ => pg_name (i := 6) scWaits.nd rfl (Or.inl rfl)) (fun _ _ _ _ _ => pts_one (PW.pt (pw_or (pt_cmpR op_eq (pe_ix ix_tup (pv 6) pe_int (fun _ _ => rfl)) pe_str (nomark _)) (pw_or1 (pt_cmpR op_lt (pe_ix ix_tup (pv 6) pe_int (fun _ _ => rfl)) (pv 3) (nomark _))))))
        (fun _ _ _ _ _ => pv 6))
      (pss_one (ps_ret (pe_cmpR op_lt (pe_callB call_len_seq (by rfl) B.len PySem.boot_len (pa_cons (pv 5) pa_nil)) (pv 3) (nomark _))))))), ?_⟩
    obtain ⟨n, kd, t, e, rfl, hn, hk⟩ := job_parts jd
    obtain ⟨p, x, y, z, rfl, q, dn, da, de⟩ := dp_three hd
    obtain ⟨pa, kv, tv, rfl, qa, dk, dt⟩ := dp_two da
    have ek := dp_str dk
    subst ek
    have et := dp_int dt
    subst et
    obtain ⟨pj, xs, rfl, qj, rj⟩ := dp_tuple hj
    have xl := dps_len rj
    have we : waitsD js (.tuple [.str n, .tuple [.str kd, .int t], .int e]) = (!decide (kd = "at") && decide ((((js.map arrD).countP (befA t) : Nat) : Int) < t)) := rfl
    refine ⟨_, rfl, p, _, _, _, rfl, rfl, q, rfl, pa, _, rfl, qa, rfl, _, _, rfl, _, _, rfl, rfl, ?_⟩
    refine ⟨_, rfl, rfl, _, rfl, ?_⟩
    have eS := eq_S (s := ("at" : Str)) dk
    rw [eS]
    have kk : ∀ H', Same H H' → ∀ b, waitsD js (.tuple [.str n, .tuple [.str kd, .int t], .int e]) = b → Q (.bl b) H' := fun H' s1 b e => by
      have z := k H' s1
      rw [e] at z
      exact z
    cases hat : atS "at" (.str kd) with
    | true =>
      refine iteT (kk H (Same.refl H) _ ?_)
      rw [we, show decide (kd = "at") = true from hat]
      rfl
    | false =>
      refine iteF ?_
      -- arrivals
      refine ⟨_, rfl, pj, rfl, ⟨_, qj⟩, fun D1 nD1 => ?_⟩
      refine lc_it (walk_tup (K := K) (a := pj) (xs := xs)) (fun m Hc => ∃ acc, Same H Hc ∧ Hc D1 = some (.lst acc) ∧ DpAll K H acc ((js.map arrD).take m))
        ⟨[], same_new nD1, upd_same, .nil⟩ (fun m Hc _ ⟨acc, s1, _⟩ => same_seqT s1 qj) ?_ ?_
      · rintro m y1 Hc Hc2 hm ⟨acc, s1, hD, dac⟩ ⟨rfl, hy1⟩
        obtain ⟨e1, he1, de1⟩ := dps_getV rj hy1
        obtain ⟨n1, k1, t1, x1, rfl, _, _⟩ := job_parts (List.all_eq_true.mp okj e1 (List.mem_of_getElem? he1))
        obtain ⟨p1, v1, v2, v3, rfl, q1, dv1, dv2, dv3⟩ := dp_three de1
        refine ⟨rfl, ?_⟩
        refine ⟨_, rfl, p1, _, _, _, rfl, rfl, same_seqT s1 q1, rfl, acc, hD, ?_, acc ++ [v2], same_put s1 nD1, upd_same, ?_⟩
        · have z := dps_len dac
          rw [List.length_take, List.length_map] at z
          exact Nat.lt_of_le_of_lt (show acc.length ≤ 1000 by omega) (by decide)
        · have e2 : (js.map arrD).take (m + 1) = (js.map arrD).take m ++ [.tuple [.str k1, .int t1]] := by
            rw [List.take_add_one, List.getElem?_map, he1]
            rfl
          rw [e2]
          exact dps_app dac (.cons dv2 .nil)
      · rintro Hc ⟨acc, s1, hD, dac⟩
        rw [show (js.map arrD).take xs.length = js.map arrD from List.take_of_length_le (by rw [List.length_map]; omega)] at dac
        have al := dps_len dac
        rw [List.length_map] at al
        -- ahead
        refine ⟨_, rfl, D1, rfl, ⟨_, SqL.of hD⟩, fun D2 nD2 => ?_⟩
        have n21 : D1 ≠ D2 := ne_of_none hD nD2
        refine lc_it (walk_list (K := K) (a := D1) (xs := acc)) (fun m Hd => ∃ ac2, Same Hc Hd ∧ Hd D2 = some (.lst ac2) ∧ ac2.length = ((js.map arrD).take m).countP (befA t))
          ⟨[], same_new nD2, upd_same, rfl⟩ (fun m Hd _ ⟨ac2, s2, _⟩ => SqL.of (s2.at hD)) ?_ ?_
        · rintro m y1 Hd0 Hd hm ⟨ac2, s2, hD2, lc2⟩ ⟨rfl, hy1⟩
          obtain ⟨e1, he1, de1⟩ := dps_getV dac hy1
          have he1' := he1
          rw [List.getElem?_map] at he1'
          obtain ⟨j1, hj1, rfl⟩ := Option.map_eq_some_iff.mp he1'
          obtain ⟨n1, k1, t1, x1, rfl, _, hk1⟩ := job_parts (List.all_eq_true.mp okj j1 (List.mem_of_getElem? hj1))
          obtain ⟨p1, v1, v2, rfl, q1, dv1, dv2⟩ := dp_two (show Dp K H y1 (.tuple [.str k1, .int t1]) from de1)
          have ek1 := dp_str dv1
          subst ek1
          have et1 := dp_int dv2
          subst et1
          have q2 := same_seqT (s1.trans s2) q1
          have e2 : ((js.map arrD).take (m + 1)).countP (befA t) = ((js.map arrD).take m).countP (befA t) + (if befA t (.tuple [.str k1, .int t1]) = true then 1 else 0) := by
            rw [List.take_add_one, he1]
            show ((js.map arrD).take m ++ [PyData.tuple [.str k1, .int t1]]).countP (befA t) = _
            rw [List.countP_append, List.countP_singleton]
          have bl : befA t (.tuple [.str k1, .int t1]) = (decide (k1 = "at") || decide (t1 < t)) := rfl
          have small : ac2.length < sizeLine := by
            have z : ((js.map arrD).take m).countP (befA t) ≤ ((js.map arrD).take m).length := List.countP_le_length
            rw [List.length_take, List.length_map] at z
            exact Nat.lt_of_le_of_lt (show ac2.length ≤ 1000 by omega) (by decide)
          have yes : befA t (.tuple [.str k1, .int t1]) = true → ∃ ac, Same Hc (upd Hd D2 (.lst (ac2 ++ [V.ref p1]))) ∧ (upd Hd D2 (.lst (ac2 ++ [V.ref p1]))) D2 = some (.lst ac) ∧ ac.length = ((js.map arrD).take (m + 1)).countP (befA t) := fun hb => by
            refine ⟨_, same_put s2 nD2, upd_same, ?_⟩
            rw [e2, if_pos hb, List.length_append, List.length_singleton, lc2]
          have no : befA t (.tuple [.str k1, .int t1]) = false → ∃ ac, Same Hc Hd ∧ Hd D2 = some (.lst ac) ∧ ac.length = ((js.map arrD).take (m + 1)).countP (befA t) := fun hb => by
            refine ⟨ac2, s2, hD2, ?_⟩
            rw [e2, if_neg (by rw [hb]; exact Bool.false_ne_true), lc2]
            rfl
          refine ⟨rfl, _, rfl, p1, _, _, _, rfl, rfl, q2, rfl, rfl, _, rfl, ?_⟩
          rw [eq_S (s := ("at" : Str)) dv1]
          cases h1 : atS "at" (.str k1) with
          | true => exact iteT (iteT ⟨_, rfl, ac2, hD2, small, yes (by rw [bl, show decide (k1 = "at") = true from h1]; rfl)⟩)
          | false =>
            refine iteF ⟨_, rfl, p1, _, _, _, rfl, rfl, q2, rfl, _, rfl, _, _, rfl, rfl, _, rfl, ?_⟩
            cases h2 : decide (t1 < t) with
            | true => exact iteT ⟨_, rfl, ac2, hD2, small, yes (by rw [bl, h2, Bool.or_true])⟩
            | false => exact iteF (no (by rw [bl, show decide (k1 = "at") = false from h1, h2]; rfl))
        · rintro Hd ⟨ac2, s2, hD2, lc2⟩
          rw [show (js.map arrD).take acc.length = js.map arrD from List.take_of_length_le (by rw [List.length_map]; omega)] at lc2
          refine ⟨_, rfl, D2, ac2, rfl, .inl (SqL.of hD2), _, rfl, _, _, rfl, rfl, ?_⟩
          refine kk Hd (s1.trans s2) _ ?_
          rw [we, show decide (kd = "at") = false from hat, lc2]
          rfl
end
end Vk
set_option maxHeartbeats 4000000
/-! enumerate over a tuple: the pairs are new tuples -/
namespace PySem
set_option maxHeartbeats 4000000 in
theorem vx_enumNew {v : Value} {cell : Obj} {Hh : Heap → Prop} (B : Begins v cell Hh) :
    Meets (Builtin.«enumerate.__new__» ⟨[.type "enumerate", v], []⟩) (fun _ R s => Hh s.heap ∧
      R (.ok (.ret (.ref (s.heap.push cell).objs.size)))
        { s with heap := (s.heap.push cell).push { cls := .type "enumerate", data := .fields #[.none, .bool false, .ref s.heap.objs.size, rawInt 0, .none, .none] } }) :=
  .of_wp fun prog w A R s h => by
    obtain ⟨hp, gs, dr, tk, os⟩ := s
    obtain ⟨hbeg, h⟩ := h
    have subE := sub_enumerate
    have itOf : ∀ {A2 : Around} {E2 : Value → Shared → Prop} {Q2 : Value → Shared → Prop}, Q2 (.ref hp.objs.size) ⟨hp.push cell, gs, dr, tk, os⟩ → wpAny (model prog w) A2 (pyIter v) Q2 E2 ⟨hp, gs, dr, tk, os⟩ :=
      fun q => B.iter prog w _ _ ⟨hp, gs, dr, tk, os⟩ _ hbeg q
    wp_walk using itOf
    refine wpAny_stack_any fun st => wpAny_pure ?_
    split
    · rename_i cc _ _ _ _ _
      cases (cc == Value.type "enumerate") <;> (wp_walk using itOf; exact ⟨_, rfl, h⟩)
    · wp_walk using itOf
      exact ⟨_, rfl, h⟩
section
variable {prog : Program} {w : World} {A : Around} {E : Value → Shared → Prop} {s : Shared}
theorem vx_callEnum {v : Value} {cell : Obj} {Hh : Heap → Prop} {Q : Value → Shared → Prop} (B : Begins v cell Hh) (hbeg : Hh s.heap)
    (h : ∀ h', IsEnum h' (s.heap.objs.size + 1) s.heap.objs.size 0 .none → h'.get? s.heap.objs.size = some cell → (∀ b o, s.heap.get? b = some o → h'.get? b = some o) →
      Q (.ref (s.heap.objs.size + 1)) { s with heap := h' }) :
    wpAny (model prog w) A (call (.type "enumerate") [v]) Q E s := by
  refine callType_new F.called_enumerate (by decide) (F.typeCall_enumerate_1 _) (F.newCall_enumerate_1 _) (fun obj => F.args_object_init_2 obj _) F.entry_enumerate_new
    (vx_enumNew B) ⟨hbeg, ?_⟩
  have sz : (s.heap.push cell).objs.size = s.heap.objs.size + 1 := Heap.size_push ..
  show _ ∧ _
  rw [sz]
  have en : IsEnum ((s.heap.push cell).push { cls := .type "enumerate", data := .fields #[.none, .bool false, .ref s.heap.objs.size, rawInt 0, .none, .none] }) (s.heap.objs.size + 1) s.heap.objs.size 0 .none := by
    have got := Heap.get?_push_size (s.heap.push cell) (o := { cls := .type "enumerate", data := .fields #[.none, .bool false, .ref s.heap.objs.size, rawInt 0, .none, .none] }) rfl
    rw [sz] at got
    exact got
  exact ⟨⟨_, en, rfl⟩, h _ en (Heap.get?_push_of_some _ (Heap.get?_push_size _ B.free)) fun b o x => Heap.get?_push_of_some _ (Heap.get?_push_of_some _ x)⟩
end
end PySem
namespace L2
open PySem PySem.Spec PyProof.Rows
/-- what enumerate gives over the tuple at a: its items in new pairs -/
def IteT (K : PySem.W.Frag) (a : Addr) : It :=
  ⟨fun i H => ∃ (ys : List V) (y : V), SqT K H a ys ∧ ys[i]? = some y, fun i H v H' => ∃ T y, v = .ref T ∧ H T = none ∧ H' = upd H T (.tup [.int (i : Nat), y]) ∧ ∀ ys, SqT K H a ys → ys[i]? = some y,
    fun i H => ∃ ys : List V, SqT K H a ys ∧ ys.length = i⟩
theorem vx_turn {P : Program} {w : World} {K : PySem.W.Frag} {elts : List Expr} {kk : Nat} {tpos : Pos} (a e it : Addr) :
    Turn P w K (.Tuple elts kk tpos) (IteT K a) [e, it] e (fun i h => (∃ old, IsEnum h e it ((i : Nat) : Int) old) ∧ h.IsTupleIter it a i ∧ e ≠ it ∧ a ≠ it ∧ e ≠ a) where
  mem := List.mem_cons_self
  obj := fun i h st b hb => by
    obtain ⟨⟨old, en⟩, ⟨o, ho, hc, hd⟩, _⟩ := st
    have two : b = e ∨ b = it := by simpa using hb
    rcases two with z | z
    · subst z
      exact ⟨_, en, fun v q => nomatch q⟩
    · subst z
      exact ⟨o, ho, fun v q => by rw [hd] at q; cases q⟩
  keep := fun i h h' st k => by
    obtain ⟨⟨old, en⟩, hi, r⟩ := st
    exact ⟨⟨old, k e (by simp) _ en⟩, hi.at fun o q => k it (by simp) o q, r⟩
  item := by
    intro X hP hw hK hc i pins s σ H E I hf st hg
    subst hP hw hK
    obtain ⟨⟨old, en⟩, hit, nei, nai, nea⟩ := st
    obtain ⟨ys, y, hq, hy⟩ := hg
    obtain ⟨its, rv, p, _⟩ := I.tuple hq
    obtain ⟨u, hu, ru⟩ := rv.get hy
    have le : e < s.heap.objs.size := Heap.lt_size en
    have li : it < s.heap.objs.size := by obtain ⟨_, q, _⟩ := hit; exact Heap.lt_size q
    have hin : X.A.in1.handled = none := I.ok.hd hc
    have ilt : i < its.toArray.size := by
      have z := (List.getElem?_eq_some_iff.mp hu).1
      rw [List.size_toArray]
      exact z
    refine wpAny_pyNext_enum_itemD (Draws.tuple hin it a nai its.toArray) en ⟨hit, p⟩ ilt nei (by simp [nei, nea]) fun x h2 tk hx eo st2 hT hsz hk => ?_
    have ex : x = u := by
      have z : its.toArray[i]? = some x := hx
      rw [List.getElem?_toArray, hu] at z
      exact (Option.some.inj z).symm
    subst ex
    refine ⟨_, rfl, wpAny_letOwnedTupleGo_enum (s := { s with heap := h2, toks := tk + 1 }) eo fun h3 he3 sb => ?_⟩
    have hT3 : h3.get? s.heap.objs.size = some { cls := .type "tuple", data := .seq #[.int i tk, x] } := (sb.2 _ (Nat.ne_of_gt le)).trans hT
    have new : ObjOk X.prog X.w (upd H s.heap.objs.size (.tup [.int (i : Nat), y])) h3 s.heap.objs.size (.tup [.int (i : Nat), y]) :=
      ⟨(by show 2 ≤ sizeLine; decide), [.int i tk, x], .cons ⟨_, rfl⟩ (.cons ru .nil), ⟨_, hT3, rfl, _, rfl⟩⟩
    have J : Inv X pins σ (upd H s.heap.objs.size (.tup [.int (i : Nat), y])) { s with heap := h3, toks := tk + 1 } :=
      I.turnedNew (ch := [e, it]) (fun b ob hb q => by
        have n1 : b ≠ e := fun z => hb (by simp [z])
        have n2 : b ≠ it := fun z => hb (by simp [z])
        exact (sb.2 b n1).trans (hk b ob n1 n2 q)) hf (Nat.le_refl _) new
    refine ⟨.ref s.heap.objs.size, _, J, rfl, ⟨_, y, rfl, I.hok.fresh (Nat.le_refl _), rfl, fun zs hz => by rw [I.tuple_inj hz hq]; exact hy⟩, ⟨⟨x, ?_⟩, st2.1.at fun o q => (sb.2 it (Ne.symm nei)).trans q, nei, nai, nea⟩, fun b hb => ?_⟩
    · have en2 : ((i + 1 : Nat) : Int) = (i : Int) + 1 := by omega
      rw [en2]
      exact he3
    · have lb : b < s.heap.objs.size := by
        have two : b = e ∨ b = it := by simpa using hb
        rcases two with z | z
        · rw [z]; exact le
        · rw [z]; exact li
      rw [upd_ne (Nat.ne_of_lt lb)]
      exact (hf b hb).1
  done := by
    intro X hP hw hK hc i pins s σ H E I hf st hg
    subst hP hw hK
    obtain ⟨⟨old, en⟩, hit, nei, nai, nea⟩ := st
    obtain ⟨ys, hq, hy⟩ := hg
    obtain ⟨its, rv, p, _⟩ := I.tuple hq
    obtain ⟨f0, f1, f2, f3, f4, f5⟩ := hf it (by simp)
    have hl := rv.length
    have hi : i = its.toArray.size := by rw [List.size_toArray]; omega
    subst hi
    have hin : X.A.in1.handled = none := I.ok.hd hc
    exact wpAny_pyNext_enum_endD (Draws.tuple hin it a nai its.toArray) en ⟨hit, p⟩ fun h2 eb => ⟨rfl, I.turned (t' := s.toks) (fun b o hb q => eb b o hb q) f0 f1 f3 f4 f5⟩
  self := fun A i s Q E st h => by
    obtain ⟨⟨_, en⟩, _⟩ := st
    exact wpAny_pyIter_enum en h
def iEnumT (K : PySem.W.Frag) (ta : TA) : TI := fun σ H R => ta σ H fun vs H1 => ∃ a ys, vs = [.ref a] ∧ SqT K H1 a ys ∧ R (IteT K a) H1
theorem pi_enumT {X : Cx} {e : Expr} {ta : TA} {p pos tpos : Pos} {elts : List Expr} {kk : Nat} (hm : X.mg "enumerate" = none) (ha : PA X [e] ta) (hg : Gl X "enumerate" := by rfl) (hs : starEach [e] X.env = [(false, eval e X.env)] := by rfl) :
    PI X (.Tuple elts kk tpos) (.Call (.Name "enumerate" p) [e] [] pos) (iEnumT X.K ta) := by
  refine ⟨fun pins s σ H R I h => ?_⟩
  refine Call_ (ld_blt I hg hm boot_enumerate (PyProof.Rows.callWith_type1 (thn (ha.run pos pins s σ H _ I h) fun us s1 ⟨vs, H1, I1, r1, q1⟩ => ?_) hs rfl))
  obtain ⟨a, ys, ex, hq, q⟩ := q1
  subst ex
  cases r1 with
  | cons r rr =>
    cases rr
    cases r
    obtain ⟨its, rv, p2, _⟩ := I1.tuple hq
    have la : a < s1.heap.objs.size := by obtain ⟨_, z, _⟩ := p2; exact Heap.lt_size z
    refine vx_callEnum (begins_tuple a its.toArray) p2 fun h2 he hit hk => wpAny_pyIter_enum he ?_
    have I2 : Inv X pins σ H1 { s1 with heap := h2 } := I1.kept (t' := s1.toks) hk
    refine ⟨s1.heap.objs.size + 1, [s1.heap.objs.size + 1, s1.heap.objs.size], _, _, H1, rfl, I2, vx_turn a (s1.heap.objs.size + 1) s1.heap.objs.size,
      ⟨⟨.none, he⟩, ⟨_, hit, rfl, rfl⟩, Nat.succ_ne_self _, Nat.ne_of_lt la, Nat.ne_of_gt (Nat.lt_succ_of_lt la)⟩, fun b hb => ?_, q⟩
    have two : b = s1.heap.objs.size + 1 ∨ b = s1.heap.objs.size := by simpa using hb
    have hle : s1.heap.objs.size ≤ b := by
      rcases two with z | z
      · rw [z]; exact Nat.le_succ _
      · rw [z]; exact Nat.le_refl _
    exact I1.fpOk hle (I1.hok.fresh hle)
/-- turn by turn, the tuple standing still -/
theorem walk_enumT {K : PySem.W.Frag} {a : Addr} {xs : List V} : Walk (IteT K a) xs.length (fun H => SqT K H a xs) (YPair (fun i => some (.int (i : Nat))) (fun i => xs[i]?)) := by
  refine ⟨fun i _ hi q => ⟨xs, xs[i], q, by simp [hi]⟩, fun _ q => ⟨xs, q, rfl⟩, fun i H v H' _ q y => ?_⟩
  obtain ⟨T, x, h1, h2, h3, h4⟩ := y
  exact ⟨T, .int (i : Nat), x, h1, h2, h3, rfl, h4 xs q⟩
end L2
set_option maxHeartbeats 4000000
/-! an exception that its except suite gives to another name: it is tracked from there on -/
namespace Vk
open PySem PySem.Spec PyProof.Rows L2
/-- at a: an exception of the class cls, its dict d -/
def Xco (a : Addr) (cls : Value) (d : Option Addr) : HO := .ext fun h => ∃ (oe : Obj) (vs : Array Value), h.get? a = some oe ∧ Zc cls d oe ∧ oe.data = .fields vs
theorem xco_ok {P : Program} {w : World} {H : Hp} {h : Heap} {a : Addr} {cls : Value} {d : Option Addr} {oe : Obj} {vs : Array Value} (e : h.get? a = some oe) (z : Zc cls d oe) (f : oe.data = .fields vs) : ObjOk P w H h a (Xco a cls d) :=
  ⟨⟨oe, vs, e, z, f⟩, ⟨oe, e⟩, fun _ _ ⟨o, v, q, r⟩ k => ⟨o, v, k o q, r⟩⟩
theorem xco_at {P : Program} {w : World} {H : Hp} {h : Heap} {a : Addr} {cls : Value} {d : Option Addr} (hok : HOk P w H h) (e : H a = some (Xco a cls d)) : ∃ (oe : Obj) (vs : Array Value), h.get? a = some oe ∧ Zc cls d oe ∧ oe.data = .fields vs := by
  have x : ObjOk P w H h a (.ext fun h => ∃ (oe : Obj) (vs : Array Value), h.get? a = some oe ∧ Zc cls d oe ∧ oe.data = .fields vs) := hok a _ e
  exact x.1
section
variable {X : Cx} {pins : List (Addr × Obj)} {σ : L2.St} {H : Hp} {s : Shared}
theorem inv_track {a : Addr} {o : HO} (I : Inv X pins σ H s) (hn : H a = none) (n0 : ∀ ob, X.s_0.heap.get? a = some ob → False) (nL : a ≠ X.env.locals) (nC : ∀ x c, X.env.cells.lookup x = some c → c ≠ a) (nP : ∀ p ∈ X.pn ++ pins, p.1 ≠ a)
    (new : ObjOk X.prog X.w (upd H a o) s.heap a o) : Inv X pins σ (upd H a o) s := by
  have ne : ∀ {b : Addr} {u : HO}, H b = some u → b ≠ a := fun q => ne_of_none q hn
  have b1 : Un X.fs X.ex X.H_0 (upd H a o) X.s_0.heap s.heap := {
      keep := I.base.keep
      slot := I.base.slot
      free := fun b u q n x => by
        have nb : b ≠ a := fun z => by
          rw [z] at q
          exact n0 u q
        rw [upd_ne nb]
        exact I.base.free b u q n x
      there := I.base.there
      tups := fun b xs q => by
        have z := I.base.tups b xs q
        rw [upd_ne (ne z)]
        exact z
      frzs := fun b u xs q => by
        have z := I.base.frzs b u xs q
        rw [upd_ne (ne z)]
        exact z
      tbls := fun b ps q => by
        obtain ⟨m, z⟩ := I.base.tbls b ps q
        exact ⟨m, by rw [upd_ne (ne z)]; exact z⟩ }
  refine ⟨I.ok, I.os, I.bare, b1, I.loc, I.cell, ?_, ?_, ?_, ?_, I.len⟩
  · rw [upd_ne nL.symm]
    exact I.free
  · intro x c q
    rw [upd_ne (nC x c q)]
    exact I.freeC x c q
  · intro p hp
    obtain ⟨h1, h2, h3⟩ := I.pin p hp
    exact ⟨h1, by rw [upd_ne (nP p hp)]; exact h2, h3⟩
  · intro b u q
    by_cases hb : b = a
    · subst hb
      rw [upd_same] at q
      cases q
      exact new
    · rw [upd_ne hb] at q
      refine (I.hok b u q).stay (fun c v _ z => z) (fun c z => ?_) (fun c xs z => ?_)
      · rw [upd_ne (ne z)]
        exact z
      · rw [upd_ne (ne z)]
        exact z
end
/-- what «except C as n: suite» wishes where the suite keeps the exception -/
def wKeep (K : PySem.W.Frag) (c : Value) (i : Nat) (ts : Addr → Value → Option Addr → TS) (D : Ends) : WX := fun cls d σ H =>
  PySem.W.exmOne K cls c = some true ∧ ∀ a, H a = none → ts a cls d { nx := fun σ' H' => H' a = none → D.nx (σ'.set i none) (upd H' a (Xco a cls d)), rt := fun _ _ => False } (σ.set i (some (.ref a))) H
section
variable {X : Cx} {x n : Str} {c : Value} {i : Nat} {body more : List Stmt} {b₀ : Stmt} {np pos pos' : Pos} {tb : WX → TS} {ts : Addr → Value → Option Addr → TS}
theorem ps_try_keep (hs : X.stack = X.env :: X.outer) (hf : X.env.frame = some X.env.locals) (hex : X.ex = []) (hN : X.N.Nodup) (hi : X.N[i]? = some n) (hln : X.env.kindOf n = some .local) (hg : Gl X x) (hm : X.mg x = some c)
    (hdb : (x == ("__debug__" : Str)) = false)
    (hb : ∀ (W : WX) (pn : List (Addr × Obj)) (xe : Value → Shared → Prop), Takes (X.tr pn xe) W → PassesOwn (model X.prog X.w) X.A X.env xe → PSs (X.tr pn xe) body (tb W))
    (hsu : ∀ (a : Addr) (oe : Obj) (cls : Value) (d : Option Addr) (pn : List (Addr × Obj)), Zc cls d oe → (∃ vs, oe.data = .fields vs) → PSs (X.suite a ((a, oe) :: pn)) (b₀ :: more) (ts a cls d)) :
    PS X (.Try body [.ExceptHandler (some (.Name x np)) (some n) (b₀ :: more) pos'] [] [] pos) (fun D σ H => tb (wKeep X.K c i ts D) D σ H) := by
  refine ⟨fun pins s σ H D I h => ?_⟩
  have ok := I.ok
  have frames : X.A.frames = some (X.env :: X.outer) := by rw [ok.frames, hs]
  refine wpAny_Try_except (wpAny_mono ((hb (wKeep X.K c i ts D) (X.pn ++ pins) _ (fun u s2 air => ?_) PassesOwn.looking).run [] s σ H D (I.toTry _) h) (fun f s2 sp => ?_) (fun _ _ z => z))
  · obtain ⟨a, B, sI, pins2, σ2, H2, cls, d, rfl, J2, ground, up, sky, na, os, ag, match1, suite⟩ := air
    have J : Inv X pins σ2 H2 sI := J2.ofTry ok
    have air2 : Sky B (X.env :: X.outer) a (Zc cls d) X.env.locals s2.heap := by rw [← hs]; exact sky
    -- a stands in no frame, and is new
    refine Sky.land Zc.steady frames hf air2 fun h3 fly3 up3 => ?_
    have K3 : Inv X pins σ2 H2 { s2 with heap := h3 } := J.landed ground fly3.1 (up.trans up3) os ag
    obtain ⟨o3, v3, get3, z3, dat3⟩ := fly3.there
    have outFr : a ∉ frs (X.env :: X.outer) := fun hm2 => by
      obtain ⟨_, o4, get4, nf⟩ := fly3.2.2.1.mem hm2
      rw [get3] at get4
      cases get4
      exact nf _ dat3
    have noL : a ≠ X.env.locals := fun z => outFr (List.mem_filterMap.mpr ⟨X.env, List.mem_cons_self, by rw [hf, z]⟩)
    have noF : a ∉ X.fs := fun hm2 => by
      obtain ⟨e, he, q⟩ := List.mem_filterMap.mp hm2
      exact outFr (List.mem_filterMap.mpr ⟨e, List.mem_cons_of_mem _ he, q⟩)
    have outI : ∀ ob, sI.heap.get? a = some ob → False := fun ob q => by
      have z := ground a ob q (by rw [show (X.tr (X.pn ++ pins) _).stack = X.stack from rfl, hs]; exact outFr)
      rw [fly3.2.1] at z
      cases z
    have out0 : ∀ ob, X.s_0.heap.get? a = some ob → False := fun ob q => by
      obtain ⟨o5, z⟩ := J.base.there a ob q (by rw [hex]; exact fun y => nomatch y)
      exact outI _ z
    have noC : ∀ y cc, X.env.cells.lookup y = some cc → cc ≠ a := fun y cc q z => by
      obtain ⟨v, o6, get6, _⟩ := J.cell y cc q
      rw [z] at get6
      exact outI _ get6
    have noP : ∀ p ∈ X.pn ++ pins, p.1 ≠ a := fun p hp z => by
      have q := (J.pin p hp).1
      rw [z] at q
      exact outI _ q
    refine wpAny_handleBy_cons (codeAny_handlers_test ?_) (by intro q; cases q)
    have isC : PySem.W.Looks (model X.prog X.w) h3 (typeOf (.ref a)) cls := fun A2 Q2 E2 s4 kk q => wpAny_typeOf_ref (kk _ _ get3) (by rw [z3.1]; exact q)
    refine ld_glob (X := X.suite a ((a, o3) :: (X.pn ++ pins))) (K3.suite get3 dat3 na noL noF) hg hm ?_ hdb
    refine (PySem.W.exm_one (M := model X.prog X.w) K3.kIn isC match1).here (codeAny_handlers_suite_as ?_)
    refine HandSPX.lands_againZ fly3 fun h4 fly4 up4 => ?_
    have K4 : Inv X pins σ2 H2 { s2 with heap := h4 } := J.landed ground fly4.1 ((up.trans up3).trans up4) os ag
    obtain ⟨o4, v4, get4, z4, dat4⟩ := fly4.there
    refine store_ok (X := X.suite a ((a, o4) :: (X.pn ++ pins))) (v := .ref a) (K4.suite get4 dat4 na noL noF) hN hi (.inl hln) rfl (fun s5 S5 => ?_) (.inr hln)
    refine wpAny_mono ((hsu a o4 cls d (X.pn ++ pins) z4 ⟨_, dat4⟩).run [] s5 _ H2 _ S5 (suite a na)) (fun f s6 sp => ?_) (fun _ _ z => False.elim z)
    cases f with
    | next =>
      obtain ⟨σ6, H6, S6, q6⟩ := sp
      obtain ⟨get6, n6, _⟩ := S6.pin (a, o4) (List.mem_append_left _ List.mem_cons_self)
      have T6 : Inv X pins σ6 (upd H6 a (Xco a cls d)) s6 := inv_track (S6.unsuite ok) n6 out0 noL noC noP (xco_ok get6 z4 dat4)
      exact gone_ok T6 hN hi hln fun s7 T7 => ⟨_, _, T7, q6 n6⟩
    | brk =>
      obtain ⟨_, _, _, z⟩ := sp
      exact False.elim z
    | cont =>
      obtain ⟨_, _, _, z⟩ := sp
      exact False.elim z
    | ret u =>
      obtain ⟨_, _, _, _, _, z⟩ := sp
      exact False.elim z
  · cases f with
    | next =>
      obtain ⟨σ2, H2, J, q⟩ := sp
      exact wpAny_execs_nil ⟨σ2, H2, J.ofTry ok, q⟩
    | brk =>
      obtain ⟨σ2, H2, J, q⟩ := sp
      exact ⟨σ2, H2, J.ofTry ok, q⟩
    | cont =>
      obtain ⟨σ2, H2, J, q⟩ := sp
      exact ⟨σ2, H2, J.ofTry ok, q⟩
    | ret u =>
      obtain ⟨v, σ2, H2, J, r, q⟩ := sp
      exact ⟨v, σ2, H2, J.ofTry ok, r, q⟩
end
/-! ### what is asked of it later -/
theorem xco_inst {X : Cx} {pins : List (Addr × Obj)} {σ : L2.St} {H : Hp} {s : Shared} {a C : Addr} {d : Option Addr} (I : Inv X pins σ H s) (e : H a = some (Xco a (.ref C) d)) (hd : ∀ dd, d = some dd → ∃ fs, H dd = some (.xd fs)) :
    ∃ oe od, PySem.W.InstAt s.heap a oe C od := by
  obtain ⟨⟨oc, odd, dat, sl⟩, vs, get, ⟨z1, z2⟩, f⟩ := xco_at I.hok e
  dsimp only at z1 z2 f
  subst z1 z2 f
  cases odd with
  | none => exact ⟨_, none, get, rfl, rfl, trivial⟩
  | some dd =>
    obtain ⟨fs, hx⟩ := hd dd rfl
    have ok : ObjOk X.prog X.w H s.heap dd (.xd fs) := I.hok dd _ hx
    obtain ⟨mA, ⟨o2, _, _, get2, _⟩, _⟩ := ok
    exact ⟨_, some o2, get, rfl, rfl, get2⟩
/-- isinstance(e, c) of such an exception -/
def rIsX (K : PySem.W.Frag) : List V → Hp → VK → Prop := fun xs H Q => ∃ (a C : Addr) (d : Option Addr) (c : V) (u : Value) (b : Bool), xs = [.ref a, c] ∧ H a = some (Xco a (.ref C) d) ∧ (∀ dd, d = some dd → ∃ fs, H dd = some (.xd fs)) ∧
  ExcC K C ∧ ClsV c u ∧ PySem.W.kitOne K (.ref C) u = some b ∧ Q (.bl b) H
theorem call_isX {X : Cx} : CallR X (.builtin "isinstance") (rIsX X.K) := by
  intro pins s σ H xs us Q I r h
  obtain ⟨a, C, d, c, u, b, rfl, e, hd, T, k, hk, q⟩ := h
  obtain ⟨u1, u2, rfl, r1, r2⟩ := vals2 r
  cases r1
  have e2 := k.eq r2
  subst e2
  obtain ⟨oe, od, inst⟩ := xco_inst I e hd
  have cl : (PySem.W.clsIn X.K C).isSome = true := by
    obtain ⟨cd, hc, _⟩ := PySem.W.any_some T.hd
    rw [hc]
    rfl
  exact PySem.W.kia_one (PySem.W.kitx_exc (od := od) cl T.hg T.hk T.hs T.ha T.hn T.ht T.hm) I.kIn inst hk (fun z => nomatch z) fun tk => ⟨.bl b, H, I.tok tk, rfl, q⟩
/-- e.f of such an exception -/
def tXp (K : PySem.W.Frag) (f : Str) (te : TE) : TE := fun σ H Q => te σ H fun x H1 => ∃ (a C dd : Addr) (fs : List (Str × V)) (v : V), x = .ref a ∧ H1 a = some (Xco a (.ref C) (some dd)) ∧ H1 dd = some (.xd fs) ∧ fs.lookup f = some v ∧
  XfC K C ∧ PySem.W.findIn K (.ref C) f = some none ∧ Q v H1
theorem pe_xp {X : Cx} {e : Expr} {te : TE} {pos : Pos} {n : Str} (he : PE X e te) (hb : attributeBase e n X.env (eval e X.env) = eval e X.env := by rfl) : PE X (.Attribute e n pos) (tXp X.K n te) := by
  refine ⟨fun pins s σ H Q I h => attr_of hb (thn (he.run pins s σ H _ I h) fun u s1 got => ?_)⟩
  obtain ⟨x, H1, I1, rx, a, C, dd, fs, v, rfl, ea, ed, hl, T, hno, q⟩ := got
  cases rx
  obtain ⟨⟨oc, odd, dat, sl⟩, vs, get, ⟨z1, z2⟩, f⟩ := xco_at I1.hok ea
  dsimp only at z1 z2 f
  subst z1 z2 f
  have ok : ObjOk X.prog X.w H1 s1.heap dd (.xd fs) := I1.hok dd _ ed
  obtain ⟨mA, hns, hr⟩ := ok
  obtain ⟨od, ho, look⟩ := lookIn_ns hns
  obtain ⟨y, hy, ry⟩ := RelO.some_of (v := v) (o := mA n) (by rw [← hl]; exact hr n)
  have inst : PySem.W.InstAt s1.heap a ⟨.ref C, some dd, .fields vs, sl⟩ C (some od) := ⟨get, rfl, rfl, ho⟩
  exact HandSPX.exc_get I1.kIn inst T.ga T.gg T.exC (PySem.W.findObj_own T.hdC hno rfl (by rw [look, hy])) (handed_of ry) ⟨v, H1, I1.tok _, ry, q⟩
end Vk
set_option maxHeartbeats 4000000
/-! raise X(e), X an own error whose __init__ keeps one field -/
namespace Vk
open PySem PySem.Spec PyProof.Rows L2
def spIni (C : Addr) (fld : Str) : Sp := fun vs H Q _ => ∃ (a : Addr) (v : V), vs = [.ref a, v] ∧ H a = some (exo a C none) ∧ ∀ dx, H dx = none → dx ≠ a → Q .non (upd (upd H dx (exd dx [(fld, v)])) a (exo a C (some dx)))
structure ErC (P : Program) (w : World) (K : PySem.W.Frag) (mg : Str → Option Value) (base : Heap) (x fld : Str) (C : Addr) : Prop where
  gC : mg x = some (.ref C)
  oex : OexC K C
  ini : ∃ (fI : Addr) (fd : FuncData), PySem.W.findIn K (.ref C) "__init__" = some (some (.ref fI)) ∧ PySem.W.typeIn K (.ref fI) = some (.type "function") ∧ Binds K fd ["self", fld] [] ∧ FnOk P w K mg base CX0 1 fI fd ["self", fld] (spIni C fld)
def tRaiseE (C : Addr) (fld : Str) (W : WX) (te : TE) : TS := fun _ σ H => tMkO C (spIni C fld) [] (tCons te tNil) σ H fun cls d H' => W cls d σ H'
theorem put_del {H : Hp} {a d : Addr} {o u v x : HO} (ha : H a = none) (hd : H d = none) (ne : d ≠ a) : Same H (upd (del (upd (upd (upd H a o) d u) a v) a) d x) := .of fun b y e => by
  have nb : b ≠ a := ne_of_none e ha
  rw [upd_ne (ne_of_none e hd), del_ne nb, upd_ne nb, upd_ne (ne_of_none e hd), upd_ne nb]
  exact e
section
variable {X : Cx} {x fld : Str} {C : Addr} {W : WX} {e : Expr} {te : TE} {p pos pos2 : Pos} {k : Nat}
theorem ps_raiseE (T : ErC X.prog X.w X.K X.mg X.base x fld C) (hc : X.calm = true) (hr : Room k X.A) (hk : 2 ≤ k) (tk : Takes X W) (he : PE X e te) (hg : Gl X x := by rfl) (hdb : (x == ("__debug__" : Str)) = false := by decide)
    (hs : starEach (e :: []) X.env = (false, eval e X.env) :: starEach [] X.env := by rfl) (hpl : (backTo pos (starEach [] X.env)).any (·.1) = false := by rfl) :
    PS X (.Raise (some (.Call (.Name x p) [e] [] pos)) none pos2) (tRaiseE C fld W te) := by
  obtain ⟨fI, fd, h1, h2, h3, h4⟩ := T.ini
  have big := ps_raise (pos := pos2) hc tk (pmk_oex (p := p) (pos := pos) (CX := CX0) (k := 1) T.oex h1 h2 h4 (hr.mono hk) h3 .nil pass0 hg T.gC (pa_cons he pa_nil hs) hdb hs hpl)
  exact big
end
theorem raise_go {C : Addr} {fld : Str} {v : V} {H1 : Hp} {R : XK} {E : XK} (h : ∀ (d : Addr) (H2 : Hp), Same H1 H2 → H1 d = none → H2 d = some (.xd [(fld, v)]) → R (.ref C) (some d) H2) :
    [v].length ≤ 1000 ∧ ∀ a, H1 a = none → spIni C fld (.ref a :: ([v] ++ [])) (upd H1 a (exo a C none)) (fun u H2 => u = .non ∧ ∃ (d : Addr) (fs : List (Str × V)), H2 a = some (exo a C (some d)) ∧ H2 d = some (exd d fs) ∧ H1 d = none ∧ R (.ref C) (some d) (upd (del H2 a) d (.xd fs))) E := by
  refine ⟨by simp, fun a na => ⟨a, v, rfl, upd_same, fun dx nx ne => ?_⟩⟩
  have n1 : H1 dx = none := by
    rw [upd_ne ne] at nx
    exact nx
  refine ⟨rfl, dx, [(fld, v)], upd_same, by rw [upd_ne ne, upd_same], n1, h dx _ (put_del na n1 ne) n1 upd_same⟩
/-! ### the __init__ -/
structure Nit (K : PySem.W.Frag) (x qual fld : Str) (st : Stmt) (C : Addr) : Prop where
  ex : ∃ (fI : Addr) (fd : FuncData), PySem.W.findIn K (.ref C) "__init__" = some (some (.ref fI)) ∧ PySem.W.typeIn K (.ref fI) = some (.type "function") ∧ Fun K "__init__" qual st fI fd ∧ Binds K fd ["self", fld] []
end Vk
set_option maxHeartbeats 4000000
namespace Vk
open PySem PySem.Spec PyProof.Rows L2 GxR
def nameOf : PyData → Str
  | .tuple [.str n, _, _] => n
  | _ => ""
def badAt (js : List PyData) (i : Nat) : Bool := match js[i]? with
  | some d => !jobD d || ((js.take i).map nameOf).any (fun y => y == nameOf d)
  | none => false
def waitAt (js : List PyData) (i : Nat) : Bool := match js[i]? with
  | some d => waitsD js d
  | none => false
def eachPlace (js : List PyData) : Option Nat := (List.range js.length).find? (badAt js)
def waitPlace (js : List PyData) : Option Nat := (List.range js.length).find? (waitAt js)
/-- the place of the first fault of jobs -/
def jobsPlace : PyData → Option Int
  | .tuple js => match eachPlace js with
    | some i => some (i : Int)
    | none => match waitPlace js with
      | some i => some (i : Int)
      | none => none
  | _ => some 0
def niceJobs : PyData → Prop
  | .tuple js => (∀ d ∈ js, niceJob d) ∧ js.length ≤ 900
  | _ => True
theorem find_at {n i : Nat} {p : Nat → Bool} (h : i < n) (hp : p i = true) (ok : ∀ j < i, p j = false) : (List.range n).find? p = some i := by
  rw [List.find?_range_eq_some]
  refine ⟨hp, List.mem_range.mpr h, fun j hj => ?_⟩
  rw [ok j hj]
  rfl
theorem find_no {n : Nat} {p : Nat → Bool} (ok : ∀ j < n, p j = false) : (List.range n).find? p = none := by
  rw [List.find?_eq_none]
  intro j hj
  rw [ok j (List.mem_range.mp hj)]
  exact Bool.false_ne_true
theorem inV_strs {n : Str} : ∀ ns : List Str, inV (.str n) (ns.map V.str) = ns.any (fun y => y == n)
  | [] => rfl
  | x :: ns => by
    have ih := inV_strs (n := n) ns
    show ((x == n) || inV (.str n) (ns.map V.str)) = ((x == n) || ns.any (fun y => y == n))
    rw [ih]
theorem flat_strs (ns : List Str) : (ns.map V.str).all flatV = true := by
  rw [List.all_eq_true]
  intro x hx
  obtain ⟨y, _, rfl⟩ := List.mem_map.mp hx
  rfl
/-- where no job is bad all are valid -/
theorem each_all {js : List PyData} (ok : ∀ j < js.length, badAt js j = false) : js.all jobD = true := by
  rw [List.all_eq_true]
  intro x hx
  obtain ⟨j, hj, e⟩ := List.getElem_of_mem hx
  have z := ok j hj
  unfold badAt at z
  rw [List.getElem?_eq_getElem hj, e] at z
  cases h : jobD x with
  | true => rfl
  | false =>
    have z' : (!jobD x || ((js.take j).map nameOf).any (fun y => y == nameOf x)) = false := z
    rw [h] at z'
    cases z'
section
variable {P : Program} {w : World} {K : PySem.W.Frag} {mg : Str → Option Value} {base : Heap}
theorem scJobsInit : FnScope ["self", "place"] ["self", "place"] (defScope sJobsInit) := ⟨rfl, rfl, rfl, by decide +kernel, rfl, by decide +kernel, by decide +kernel⟩
theorem ok_jobsInit {C fI : Addr} {fd : FuncData} (F : Fun K "__init__" "NoJobs.__init__" sJobsInit fI fd) (T : OexC K C) (no : PySem.W.findIn K (.ref C) "place" = some none) : FnOk P w K mg base CX0 1 fI fd ["self", "place"] (spIni C "place") := by
  refine F.ok scJobsInit (fun vs H Q E h => ?_) (fun cdv A outer s H vs Q E hr h => ?_)
  · obtain ⟨a, v, rfl, _⟩ := h
    rfl
  · obtain ⟨a, v, rfl, ha, k⟩ := h
    refine ⟨_, pss_one (ps_ost (pv 0) (pv 1)), ?_⟩
    exact ⟨_, rfl, _, rfl, a, C, rfl, T, no, .inl ⟨ha, fun dx n1 n2 => k dx n1 n2⟩⟩
theorem erc_jobs {C : Addr} (g : mg "NoJobs" = some (.ref C)) (T : OexC K C) (no : PySem.W.findIn K (.ref C) "place" = some none) (N : Nit K "NoJobs" "NoJobs.__init__" "place" sJobsInit C) : ErC P w K mg base "NoJobs" "place" C := by
  obtain ⟨fI, fd, h1, h2, h3, h4⟩ := N.ex
  exact ⟨g, T, fI, fd, h1, h2, h4, ok_jobsInit h3 T no⟩
def spEach (K : PySem.W.Frag) (T C : Addr) : Sp := fun vs H Q E => ∃ (v : V) (js : List PyData), vs = [v] ∧ Dp K H v (.tuple js) ∧ (∀ d ∈ js, niceJob d) ∧ js.length ≤ 900 ∧ TabG H T ∧ (eachPlace js = none → ∀ H', Same H H' → Q .non H') ∧
  (∀ i, eachPlace js = some i → ∀ (dx : Addr) (H' : Hp), Same H H' → H' dx = some (.xd [(("place" : Str), .int (i : Nat))]) → E (.ref C) (some dx) H')
theorem scEach : FnScope ["jobs", "names", "place", "job"] ["jobs"] (defScope sEach) := ⟨rfl, rfl, rfl, by decide +kernel, rfl, by decide +kernel, by decide +kernel⟩
theorem ok_each {T C : Addr} (D : Df K mg "check_each_job" sEach ["jobs"]) (B : Blt mg) (ER : ErC P w K mg base "NoJobs" "place" C) (J : Cl P w K mg base CX0 3 "is_job" ["job"] (spIsJob K T)) : Cl P w K mg base (L2.CX P w) 4 "check_each_job" ["jobs"] (spEach K T C) := by
  refine clX D scEach (fun vs H Q E h => ?_) (fun f cdv A outer s H vs Q E hr h => ?_)
  · obtain ⟨v, js, rfl, _⟩ := h
    rfl
  · obtain ⟨v, js, rfl, hd, nj, l900, tg, kN, kE⟩ := h
    refine ⟨_, pss_cons (ps_set (i := 1) scEach.nd rfl (Or.inl rfl) (pe_lst pa_nil))
      (pss_one (ps_for (passes_of rfl) rfl (pi_enumT B.enum (pa_cons (pv 0) pa_nil)) (pg_tup rfl (pgs_cons (pg_name (i := 2) scEach.nd rfl (.inl rfl)) (pgs_cons (pg_name (i := 3) scEach.nd rfl (.inl rfl)) pgs_nil)))
        (pss_cons (ps_if (PW.pt (pw_or (pt_not (pt_val (pc J hr (by decide) (pa_cons (pv 3) pa_nil)))) (pw_or1 (pt_cmpR op_in_seq (pe_ix ix_tup (pv 3) pe_int (fun _ _ => rfl)) (pv 1) (by rfl))))) (pss_one (ps_raiseE ER rfl hr (by decide) (takes_of rfl rfl rfl rfl) (pv 2))) pss_nil)
        (pss_one (ps_expr (pe_bm PySem.F.plainAttrs_list PySem.F.slot_list_append PySem.F.type_list_append mt_append (pv 1) (pa_cons (pe_ix ix_tup (pv 3) pe_int (fun _ _ => rfl)) pa_nil))))))), ?_⟩
    obtain ⟨pj, xs, rfl, qj, rj⟩ := dp_tuple hd
    have xl := dps_len rj
    refine ⟨(by show 0 ≤ sizeLine; decide), fun l nl => ?_⟩
    refine ⟨_, rfl, pj, xs, rfl, same_seqT (same_new nl) qj, for_it (walk_enumT (K := K) (a := pj) (xs := xs)) (fun i σ H' => ∃ (u2 u3 : Option V), σ = [some (.ref pj), some (.ref l), u2, u3] ∧ Same H H' ∧ H' l = some (.lst (((js.take i).map nameOf).map V.str)) ∧ ∀ j < i, badAt js j = false)
      ⟨none, none, rfl, same_new nl, upd_same, fun j hj => absurd hj (Nat.not_lt_zero _)⟩ (fun i σ H' _ ⟨_, _, _, s1, _⟩ => same_seqT s1 qj) ?_ ?_⟩
    · rintro i v1 σ H1 H2 hi ⟨u2, u3, rfl, s1, hl, ok⟩ ⟨TT, x1, y1, rfl, nT, rfl, ex, ey⟩
      cases ex
      obtain ⟨d1, hd1, dp1⟩ := dps_getV rj ey
      have s2 := s1.trans (same_new (o := .tup [V.int (i : Nat), y1]) nT)
      have hl2 : upd H1 TT (.tup [V.int (i : Nat), y1]) l = some (.lst (((js.take i).map nameOf).map V.str)) := (same_new nT).at hl
      refine ⟨TT, _, rfl, SqT.of upd_same, rfl, _, _, rfl, _, _, rfl, rfl, ?_⟩
      have ni := nj d1 (List.mem_of_getElem? hd1)
      refine ⟨_, rfl, y1, d1, rfl, dp_same s2 dp1, ni, s2.tab T tg, fun H3 s3 => ⟨_, rfl, ?_⟩⟩
      have s23 := s2.trans s3
      have bad : badAt js i = (!jobD d1 || ((js.take i).map nameOf).any (fun y => y == nameOf d1)) := by
        unfold badAt
        rw [hd1]
      cases hj : jobD d1 with
      | false =>
        refine iteT (iteT ⟨_, rfl, ?_⟩)
        refine raise_go fun dx H4 s4 _ hx => kE i ?_ dx H4 (s23.trans s4) hx
        exact find_at (by omega) (by rw [bad, hj]; rfl) ok
      | true =>
        obtain ⟨n1, k1, t1, x1, rfl, _, _⟩ := job_parts hj
        obtain ⟨p1, v1, v2, v3, rfl, q1, dv1, dv2, dv3⟩ := dp_three dp1
        have en := dp_str dv1
        subst en
        refine iteF ⟨_, rfl, p1, _, _, _, rfl, rfl, same_seqT s23 q1, rfl, _, rfl, l, _, rfl, .inl (SqL.of (s3.at hl2)), rfl, flat_strs _, _, rfl, ?_⟩
        show if inV (.str n1) (((js.take i).map nameOf).map V.str) = true then _ else _
        rw [inV_strs]
        cases hin : ((js.take i).map nameOf).any (fun y => y == n1) with
        | true =>
          refine iteT ⟨_, rfl, ?_⟩
          refine raise_go fun dx H4 s4 _ hx => kE i ?_ dx H4 (s23.trans s4) hx
          exact find_at (by omega) (by rw [bad, hj]; exact hin) ok
        | false =>
          have e2 : ((js.take (i + 1)).map nameOf).map V.str = ((js.take i).map nameOf).map V.str ++ [V.str n1] := by
            rw [List.take_add_one, hd1]
            simp [nameOf]
          refine iteF ⟨_, rfl, .inl ⟨rfl, _, SqL.of (s3.at hl2)⟩, _, rfl, p1, _, _, _, rfl, rfl, same_seqT s23 q1, rfl, l, _, _, rfl, rfl, s3.at hl2, ?_, _, _, rfl, same_put s23 nl, ?_, fun j hj2 => ?_⟩
          · rw [List.length_map, List.length_map, List.length_take]
            exact Nat.lt_of_le_of_lt (show min i js.length ≤ 900 by omega) (by decide)
          · rw [e2, upd_same]
          · by_cases z : j = i
            · subst z
              rw [bad, hj]
              exact hin
            · exact ok j (by omega)
    · rintro σ H1 ⟨u2, u3, rfl, s1, hl, ok⟩
      exact kN (find_no fun j hj => ok j (by omega)) H1 s1
def spCheck (K : PySem.W.Frag) (T C : Addr) : Sp := fun vs H Q E => ∃ (v : V) (d : PyData), vs = [v] ∧ Dp K H v d ∧ niceJobs d ∧ TabG H T ∧ (jobsPlace d = none → ∀ H', Same H H' → Q .non H') ∧
  (∀ i, jobsPlace d = some i → ∀ (dx : Addr) (H' : Hp), Same H H' → H' dx = some (.xd [(("place" : Str), .int i)]) → E (.ref C) (some dx) H')
theorem scCheck : FnScope ["jobs", "place", "job"] ["jobs"] (defScope sCheck) := ⟨rfl, rfl, rfl, by decide +kernel, rfl, by decide +kernel, by decide +kernel⟩
theorem ok_check {T C : Addr} (D : Df K mg "check_jobs" sCheck ["jobs"]) (B : Blt mg) (ER : ErC P w K mg base "NoJobs" "place" C) (EA : Cl P w K mg base (L2.CX P w) 4 "check_each_job" ["jobs"] (spEach K T C)) (W : Cl P w K mg base CX0 1 "waits_forever" ["job", "jobs"] (spWaits K)) :
    Cl P w K mg base (L2.CX P w) 5 "check_jobs" ["jobs"] (spCheck K T C) := by
  refine clX D scCheck (fun vs H Q E h => ?_) (fun f cdv A outer s H vs Q E hr h => ?_)
  · obtain ⟨v, d, rfl, _⟩ := h
    rfl
  · obtain ⟨v, d, rfl, hd, nj, tg, kN, kE⟩ := h
    obtain ⟨fE, fdE, mE, kpE, bE, FE⟩ := EA.ex
    refine ⟨_, pss_cons (ps_if (pt_not (pt_val (pe_callB call_isi (by rfl) B.isi (by decide +kernel) (pa_cons (pv 0) (pa_cons (pe_bltn (v := .ty "tuple") (u := .type "tuple") (by rfl) B.tuple (by decide +kernel) rfl) pa_nil))))) (pss_one (ps_raiseE ER rfl hr (by decide) (takes_of rfl rfl rfl rfl) pe_int)) pss_nil)
      (pss_cons (ps_expr (pe_call (E := E) FE hr rfl mE kpE bE .nil (passes_call (W := fun cls d _ H => E cls d H) (takes_of rfl rfl rfl rfl) (fun _ _ _ _ h => h)) (pa_cons (pv 0) pa_nil)))
      (pss_one (ps_for (passes_of rfl) rfl (pi_enumT B.enum (pa_cons (pv 0) pa_nil)) (pg_tup rfl (pgs_cons (pg_name (i := 1) scCheck.nd rfl (.inl rfl)) (pgs_cons (pg_name (i := 2) scCheck.nd rfl (.inl rfl)) pgs_nil)))
        (pss_one (ps_if (pt_val (pc W hr (by decide) (pa_cons (pv 2) (pa_cons (pv 0) pa_nil)))) (pss_one (ps_raiseE ER rfl hr (by decide) (takes_of rfl rfl rfl rfl) (pv 1))) pss_nil))))), ?_⟩
    refine ⟨_, rfl, v, _, _, _, _, rfl, .ty "tuple", dp_ty hd, kit_tup hd, _, rfl, ?_⟩
    cases htup : isTupD d with
    | false =>
      have e2 : jobsPlace d = some 0 := by
        cases d with
        | tuple ds => cases htup
        | _ => rfl
      refine iteT ?_
      exact raise_go fun dx H2 s1 _ hx => kE 0 e2 dx H2 s1 hx
    | true =>
      obtain ⟨js, rfl⟩ : ∃ js, d = .tuple js := by
        cases d with
        | tuple ls => exact ⟨ls, rfl⟩
        | _ => cases htup
      refine iteF ⟨_, rfl, v, js, rfl, hd, nj.1, nj.2, tg, fun e1 H1 s1 => ?_, fun i e1 dx H1 s1 hx => ?_⟩
      · have e2 : jobsPlace (.tuple js) = match waitPlace js with
          | some i => some (i : Int)
          | none => none := by
          show (match eachPlace js with
            | some i => some (i : Int)
            | none => match waitPlace js with
              | some i => some (i : Int)
              | none => none) = _
          rw [e1]
        have okall := each_all (js := js) (fun j hj => by
          have z := List.find?_eq_none.mp e1 j (List.mem_range.mpr hj)
          exact Bool.eq_false_iff.mpr z)
        obtain ⟨pj, xs, rfl, qj, rj⟩ := dp_tuple hd
        have xl := dps_len rj
        refine ⟨_, rfl, pj, xs, rfl, same_seqT s1 qj, for_it (walk_enumT (K := K) (a := pj) (xs := xs)) (fun i σ H' => ∃ (u1 u2 : Option V), σ = [some (.ref pj), u1, u2] ∧ Same H H' ∧ ∀ j < i, waitAt js j = false)
          ⟨none, none, rfl, s1, fun j hj => absurd hj (Nat.not_lt_zero _)⟩ (fun i σ H' _ ⟨_, _, _, s1, _⟩ => same_seqT s1 qj) ?_ ?_⟩
        · rintro i v1 σ H2 H3 hi ⟨u1, u2, rfl, s2, ok⟩ ⟨TT, x1, y1, rfl, nT, rfl, ex, ey⟩
          cases ex
          obtain ⟨d1, hd1, dp1⟩ := dps_getV rj ey
          have s3 := s2.trans (same_new (o := .tup [V.int (i : Nat), y1]) nT)
          refine ⟨TT, _, rfl, SqT.of upd_same, rfl, _, _, rfl, _, _, rfl, rfl, ?_⟩
          have wt : waitAt js i = waitsD js d1 := by
            unfold waitAt
            rw [hd1]
          refine ⟨_, rfl, _, rfl, y1, _, d1, js, rfl, dp_same s3 dp1, dp_same s3 hd, List.all_eq_true.mp okall d1 (List.mem_of_getElem? hd1), okall, Nat.le_trans nj.2 (by decide), fun H4 s4 => ⟨_, rfl, ?_⟩⟩
          cases hw : waitsD js d1 with
          | true =>
            refine iteT ⟨_, rfl, ?_⟩
            refine raise_go fun dx H5 s5 _ hx => kE (i : Int) ?_ dx H5 ((s3.trans s4).trans s5) hx
            have z : waitPlace js = some i := find_at (by omega) (by rw [wt, hw]) ok
            rw [e2, z]
          | false =>
            refine iteF ⟨_, _, rfl, s3.trans s4, fun j hj2 => ?_⟩
            by_cases z : j = i
            · subst z
              rw [wt, hw]
            · exact ok j (by omega)
        · rintro σ H2 ⟨u1, u2, rfl, s2, ok⟩
          refine kN ?_ H2 s2
          have z : waitPlace js = none := find_no fun j hj => ok j (by omega)
          rw [e2, z]
      · refine kE (i : Int) ?_ dx H1 s1 hx
        show (match eachPlace js with
          | some i => some (i : Int)
          | none => match waitPlace js with
            | some i => some (i : Int)
            | none => none) = _
        rw [e1]
end
end Vk
set_option maxHeartbeats 4000000
namespace Vk
open PySem PySem.Spec PyProof.Rows L2 GxR
def abc : Str := "abcdefghijklmnopqrstuvwxyz"
theorem lt_one {a b : Nat} : ([a] < [b]) ↔ a < b := by
  constructor
  · intro h
    cases h with
    | rel h => exact h
    | cons h => cases h
  · intro h
    exact List.Lex.rel h
theorem between_az (c : Nat) : between "a" "z" c = decide (97 ≤ c ∧ c ≤ 122) := by
  have e1 : (("a" : Str)).cps.toList = [97] := by decide +kernel
  have e2 : (("z" : Str)).cps.toList = [122] := by decide +kernel
  unfold between
  rw [e1, e2]
  by_cases h1 : c < 97
  · rw [decide_eq_true (lt_one.mpr h1), decide_eq_false (show ¬ (97 ≤ c ∧ c ≤ 122) by omega)]
    rfl
  · by_cases h2 : 122 < c
    · rw [decide_eq_true (lt_one.mpr h2), decide_eq_false (show ¬ (97 ≤ c ∧ c ≤ 122) by omega), Bool.not_true, Bool.and_false]
    · rw [decide_eq_false (fun h => h1 (lt_one.mp h)), decide_eq_false (fun h => h2 (lt_one.mp h)), decide_eq_true (show 97 ≤ c ∧ c ≤ 122 by omega)]
      rfl
theorem abc_list : abc.cps.toList = List.range' 97 26 := by decide +kernel
theorem mem_abc (c : Nat) : decide (c ∈ abc.cps.toList) = between "a" "z" c := by
  rw [between_az, abc_list]
  congr 1
  rw [List.mem_range'_1]
  exact propext ⟨fun h => by omega, fun h => by omega⟩
theorem b2_at {k : Str} : (if decide (k = "after") then (1 : Int) else 0) = if k = "after" then 1 else 0 := by
  by_cases h : k = "after"
  · rw [decide_eq_true h, if_pos h]
    rfl
  · rw [decide_eq_false h, if_neg h]
    rfl
section
variable {P : Program} {w : World} {K : PySem.W.Frag} {mg : Str → Option Value} {base : Heap}
def spBefore (K : PySem.W.Frag) : Sp := fun vs H Q _ => ∃ (v : V) (k : Str) (t m : Int), vs = [v, .int m] ∧ Dp K H v (.tuple [.str k, .int t]) ∧ Q (.bl (decide (k = "at") || decide (t < m))) H
theorem scBefore : FnScope ["arrival", "finishes"] ["arrival", "finishes"] (defScope sBefore) := ⟨rfl, rfl, rfl, by decide +kernel, rfl, by decide +kernel, by decide +kernel⟩
theorem ok_before (D : Df K mg "_law_before" sBefore ["arrival", "finishes"]) : Cl P w K mg base CX0 1 "_law_before" ["arrival", "finishes"] (spBefore K) := by
  refine cl0 D scBefore (fun vs H Q E h => ?_) (fun f cdv A outer s H vs Q E hr h => ?_)
  · obtain ⟨v, kd, t, m, rfl, _⟩ := h
    rfl
  · obtain ⟨v, kd, t, m, rfl, hd, k⟩ := h
    refine ⟨_, pss_one (ps_ret (pe_or (pe_cmpR op_eq (pe_ix ix_tup (pv 0) pe_int (fun _ _ => rfl)) pe_str (nomark _)) (pe_one (pe_cmpR op_lt (pe_ix ix_tup (pv 0) pe_int (fun _ _ => rfl)) (pv 1) (nomark _))))), ?_⟩
    obtain ⟨p, x, y, rfl, q, dx, dy⟩ := dp_two hd
    have ex := dp_str dx
    subst ex
    have ey := dp_int dy
    subst ey
    refine ⟨_, rfl, p, _, _, _, rfl, rfl, q, rfl, rfl, _, rfl, ?_⟩
    rw [eq_S (s := ("at" : Str)) dx]
    cases h1 : atS "at" (.str kd) with
    | true =>
      rw [show decide (kd = "at") = true from h1] at k
      exact iteT k
    | false =>
      rw [show decide (kd = "at") = false from h1] at k
      exact iteF ⟨_, rfl, p, _, _, _, rfl, rfl, q, rfl, _, rfl, _, _, rfl, rfl, k⟩
end
end Vk
set_option maxHeartbeats 4000000
/-! data beside the store: new tuples, lists, sums, slices -/
namespace Vk
open PySem PySem.Spec PyProof.Rows L2
theorem off_at {a p : Addr} {H : Hp} {o : HO} (h : H p = some o) (n : p ≠ a) : Off a H p = some o := by
  rw [off_ne n]
  exact h
theorem Kept.at {a p : Addr} {H H' : Hp} {o : HO} (k : Kept a H H') (h : H p = some o) (n : p ≠ a) (u : NoTbl o := by exact True.intro) : H' p = some o := (off_some (Same.at_ k _ _ (off_at h n) u)).2
theorem off_other {a p : Addr} {H : Hp} {o : HO} (h : p ≠ a) : Off a (upd H p o) = upd (Off a H) p o := by
  funext b
  by_cases h1 : b = a
  · subst h1
    rw [off_same, upd_ne h.symm, off_same]
  · rw [off_ne h1]
    by_cases h2 : b = p
    · subst h2
      rw [upd_same, upd_same]
    · rw [upd_ne h2, upd_ne h2, off_ne h1]
section
variable {K : PySem.W.Frag} {a p : Addr} {G : Hp} {vs : List V} {ds : List PyData} {o : HO}
theorem new_tup (hA : G a ≠ none) (np : G p = none) (h : DpAll K (Off a G) vs ds) : Dp K (Off a (upd G p (.tup vs))) (.ref p) (.tuple ds) := by
  have pa : p ≠ a := ne_has hA np
  exact .tup (SqT.of (by rw [off_ne pa, upd_same])) (dps_same (off_mono (same_new np)) h)
theorem new_lst (hA : G a ≠ none) (np : G p = none) (h : DpAll K (Off a G) vs ds) : Dp K (Off a (upd G p (.lst vs))) (.ref p) (.list ds) := by
  have pa : p ≠ a := ne_has hA np
  exact .lst (SqL.of (by rw [off_ne pa, upd_same])) (dps_same (off_mono (same_new np)) h)
theorem dp_up {H H' : Hp} {v : V} {d : PyData} (s : Same H H') (h : Dp K (Off a H) v d) : Dp K (Off a H') v d := dp_same (off_mono s) h
theorem dps_up {H H' : Hp} {v : List V} {d : List PyData} (s : Same H H') (h : DpAll K (Off a H) v d) : DpAll K (Off a H') v d := dps_same (off_mono s) h
theorem dp_on {H : Hp} {v : V} {d : PyData} (h : Dp K (Off a H) v d) : Dp K H v d := dp_same (off_sub a H) h
theorem atI_mem {xs : List V} {r : Int} (h0 : 0 ≤ r) (h1 : r < xs.length) : ∃ x, atI xs r = some x ∧ x ∈ xs := by
  have hj : r.toNat < xs.length := by omega
  have z := atI_nat (List.getElem?_eq_getElem hj)
  rw [Int.toNat_of_nonneg h0] at z
  exact ⟨_, z, List.getElem_mem hj⟩
theorem atI_dp {H : Hp} {xs : List V} {es : List PyData} {r : Int} (d : DpAll K H xs es) (h0 : 0 ≤ r) (h1 : r < es.length) : ∃ x e, atI xs r = some x ∧ es[r.toNat]? = some e ∧ Dp K H x e := by
  have hl := dps_len d
  have hj : r.toNat < es.length := by omega
  obtain ⟨x, hx, dx⟩ := dps_get d (List.getElem?_eq_getElem hj)
  have z := atI_nat hx
  rw [Int.toNat_of_nonneg h0] at z
  exact ⟨x, _, z, List.getElem?_eq_getElem hj, dx⟩
theorem cat_go {H : Hp} {x y : V} {ds es : List PyData} {Q : VK} (hA : H a ≠ none) (hx : Dp K (Off a H) x (.tuple ds)) (hy : Dp K (Off a H) y (.tuple es)) (hl : ds.length + es.length ≤ 1000)
    (k : ∀ z H', Same H H' → Dp K (Off a H') z (.tuple (ds ++ es)) → Q z H') : rCatA K x y H Q := by
  obtain ⟨p, xs, rfl, qx, rx⟩ := dp_tuple hx
  obtain ⟨q, ys, rfl, qy, ry⟩ := dp_tuple hy
  have l1 := dps_len rx
  have l2 := dps_len ry
  refine ⟨p, q, xs, ys, rfl, rfl, same_seqT (off_sub a H) qx, same_seqT (off_sub a H) qy, Nat.le_trans (show xs.length + ys.length ≤ 1000 by omega) (by decide), fun e => ?_, fun _ e => ?_, fun _ _ t nt => ?_⟩
  · subst e
    have e2 : ds = [] := List.eq_nil_of_length_eq_zero l1.symm
    subst e2
    exact k _ H (Same.refl H) hy
  · subst e
    have e2 : es = [] := List.eq_nil_of_length_eq_zero l2.symm
    subst e2
    rw [List.append_nil] at k
    exact k _ H (Same.refl H) hx
  · exact k _ _ (same_new nt) (new_tup hA nt (dps_app rx ry))
theorem slice_go {H : Hp} {x : V} {ds : List PyData} {lo hi : Option Int} {Q : VK} (hA : H a ≠ none) (hx : Dp K (Off a H) x (.tuple ds))
    (k : ∀ z H', Same H H' → Dp K (Off a H') z (.tuple ((ds.drop (HT.sIx ds.length 0 lo)).take (HT.sIx ds.length ds.length hi - HT.sIx ds.length 0 lo))) → Q z H') : rSlA K x lo hi H Q := by
  obtain ⟨p, xs, rfl, qx, rx⟩ := dp_tuple hx
  have l1 := dps_len rx
  refine ⟨p, xs, rfl, same_seqT (off_sub a H) qx, fun w => ?_, fun _ t nt => ?_⟩
  · rw [l1] at w
    have z := k (.ref p) H (Same.refl H)
    rw [w.1, w.2, List.drop_zero, Nat.sub_zero, List.take_length] at z
    exact z hx
  · refine k _ _ (same_new nt) (new_tup hA nt ?_)
    unfold cutV
    rw [l1]
    exact dps_take _ (dps_drop _ rx)
theorem dps_rep {H : Hp} {xs : List V} {es : List PyData} (d : DpAll K H xs es) : ∀ n : Nat, DpAll K H (List.replicate n xs).flatten (List.replicate n es).flatten
  | 0 => .nil
  | n + 1 => by
    rw [List.replicate_succ, List.replicate_succ, List.flatten_cons, List.flatten_cons]
    exact dps_app d (dps_rep d n)
end
end Vk
set_option maxHeartbeats 4000000
namespace Vk
open PySem PySem.Spec PyProof.Rows L2 GxR
def optV : Option Int → V
  | some i => .int i
  | none => .non
/-- a slice from the beginning to an inner place -/
theorem slice_to {K : PySem.W.Frag} {H : Hp} {p : Addr} {xs : List V} {i : Nat} {Q : VK} (h : SqT K H p xs) (hi : i < xs.length) (k : ∀ t, H t = none → Q (.ref t) (upd H t (.tup (xs.take i)))) : rSlA K (.ref p) none (some (i : Int)) H Q := by
  have e2 : HT.sIx xs.length xs.length (some (i : Int)) = i := by rw [HT.sIx_nat]; omega
  have e1 : HT.sIx xs.length 0 none = 0 := rfl
  refine ⟨p, xs, rfl, h, fun w => ?_, fun _ t nt => ?_⟩
  · rw [e2] at w
    omega
  · have z := k t nt
    unfold cutV
    rw [e2, e1]
    exact z
theorem waits_kind {js : List PyData} {n k : Str} {t e : Int} (hk : k = "at" ∨ k = "after") : waitsD js (.tuple [.str n, .tuple [.str k, .int t], .int e]) = (decide (k = "after") && decide ((((js.map arrD).countP (befA t) : Nat) : Int) < t)) := by
  show (!decide (k = "at") && _) = _
  rcases hk with rfl | rfl <;> rfl
end Vk
set_option maxHeartbeats 4000000
namespace Vk
open PySem PySem.Spec PyProof.Rows L2
section
variable {P : Program} {w : World} {K : PySem.W.Frag} {mg : Str → Option Value} {base : Heap}
/-! ### _law_mix -/
def spMix : Sp := fun vs H Q _ => ∃ (n t : Int), vs = [.int n, .int t] ∧ 0 ≤ t ∧ t ≤ 10000000 ∧ ∀ r : Int, 0 ≤ r → r < 2147483648 → Q (.int r) H
theorem scMix : FnScope ["number", "turn", "value"] ["number", "turn"] (defScope sMix) := ⟨rfl, rfl, rfl, by decide +kernel, rfl, by decide +kernel, by decide +kernel⟩
theorem ok_mix (D : Df K mg "_law_mix" sMix ["number", "turn"]) : Cl P w K mg base CX0 1 "_law_mix" ["number", "turn"] spMix := by
  refine cl0 D scMix (fun vs H Q E h => ?_) (fun f cdv A outer s H vs Q E hr h => ?_)
  · obtain ⟨n, t, rfl, _⟩ := h
    rfl
  · obtain ⟨n, t, rfl, h0, h1, k⟩ := h
    refine ⟨_, pss_cons (ps_set (i := 2) scMix.nd rfl (Or.inl rfl) (pe_op op_mod (pe_op op_add (pe_op op_add (pe_op op_add (pe_op op_mod (pv 0) pe_int) (pe_op op_mul (pe_op op_mul pe_int (pv 1)) (pv 1))) (pe_op op_mul pe_int (pv 1))) pe_int) pe_int))
      (pss_cons (ps_set (i := 2) scMix.nd rfl (Or.inl rfl) (pe_op op_mod (pe_op op_mul (pe_op op_mod (pe_op op_mul (pv 2) (pv 2)) pe_int) (pv 2)) pe_int))
      (pss_one (ps_ret (pe_op op_fdiv (pe_op op_mod (pe_op op_add (pe_op op_mul (pv 2) pe_int) (pv 1)) pe_int) pe_int)))), ?_⟩
    refine ⟨_, rfl, _, _, rfl, rfl, (by show (0 : Int) < 2147483629; decide), _, rfl, _, _, rfl, rfl, .inl (by decide), _, rfl, _, _, rfl, rfl, .inr ⟨by omega, by omega⟩, _, _, rfl, rfl, _, rfl, _, _, rfl, rfl, .inl (by decide), _, _, rfl, rfl, _, _, rfl, rfl, _, _, rfl, rfl, (by show (0 : Int) < 2147483629; decide), ?_⟩
    generalize hv : (n % 2147483629 + 7919 * t * t + 104729 * t + 13) % 2147483629 = v
    have v0 : 0 ≤ v := by rw [← hv]; exact Int.emod_nonneg _ (by decide)
    have v1 : v < 2147483629 := by rw [← hv]; exact Int.emod_lt_of_pos _ (by decide)
    refine ⟨_, rfl, _, rfl, _, _, rfl, rfl, .inl ⟨by omega, by omega⟩, _, _, rfl, rfl, (by show (0 : Int) < 2147483587; decide), _, rfl, _, _, rfl, rfl, .inr ⟨by omega, by omega⟩, _, _, rfl, rfl, (by show (0 : Int) < 2147483563; decide), ?_⟩
    generalize hu : v * v % 2147483587 * v % 2147483563 = u
    have u0 : 0 ≤ u := by rw [← hu]; exact Int.emod_nonneg _ (by decide)
    have u1 : u < 2147483563 := by rw [← hu]; exact Int.emod_lt_of_pos _ (by decide)
    refine ⟨_, rfl, _, _, rfl, rfl, .inl ⟨by omega, by omega⟩, _, rfl, _, _, rfl, rfl, _, _, rfl, rfl, (by show (0 : Int) < 2147483399; decide), _, _, rfl, rfl, ⟨by decide, by decide⟩, ?_⟩
    exact k _ (by omega) (by omega)
/-! ### _law_store -/
def spStore (K : PySem.W.Frag) : Sp := fun vs H Q _ => ∃ (a : Addr) (ns : List Int), vs = [.ref a] ∧ SqL K H a (ns.map V.int) ∧ ns.length ≤ 63 ∧ ∀ (p sc : Addr) (H' : Hp), Same H H' → H p = none → Sto sc p 0 H' → Q (.ref p) H'
theorem scStore : FnScope ["script", "mixed", "cell"] ["script"] (defScope sStore) := ⟨rfl, rfl, rfl, by decide +kernel, rfl, by decide +kernel, by decide +kernel⟩
theorem map_int_get {ns : List Int} {i : Nat} {y : V} (h : (ns.map V.int)[i]? = some y) : ∃ z, ns[i]? = some z ∧ y = V.int z := by
  rw [List.getElem?_map] at h
  cases e : ns[i]? with
  | none => rw [e] at h; cases h
  | some z => rw [e] at h; exact ⟨z, rfl, (Option.some.inj h).symm⟩
theorem cut63 {ns : List Int} (h : ns.length ≤ 63) : cutV (ns.map V.int) none (some 63) = ns.map V.int := by
  have e1 : HT.sIx (ns.map V.int).length 0 none = 0 := rfl
  have e2 : HT.sIx (ns.map V.int).length (ns.map V.int).length (some 63) = min 63 (ns.map V.int).length := HT.sIx_nat _ _ 63
  unfold cutV
  rw [e1, e2, List.drop_zero]
  exact List.take_of_length_le (by rw [List.length_map]; omega)
theorem ok_store (D : Df K mg "_law_store" sStore ["script"]) (len : mg "len" = none) : Cl P w K mg base CX0 1 "_law_store" ["script"] (spStore K) := by
  refine cl0 D scStore (fun vs H Q E h => ?_) (fun f cdv A outer s H vs Q E hr h => ?_)
  · obtain ⟨a, ns, rfl, _⟩ := h
    rfl
  · obtain ⟨a, ns, rfl, hS, hl, k⟩ := h
    refine ⟨_, pss_cons (ps_set (i := 1) scStore.nd rfl (Or.inl rfl) (pe_callB call_len_seq (by rfl) len PySem.boot_len (pa_cons (pv 0) pa_nil)))
      (pss_cons (ps_for PassesOwn.never rfl (pi_list (pe_slice sl_list (pv 0) po_none (po_some pe_int))) (pg_name (i := 2) scStore.nd rfl (Or.inl rfl))
        (pss_one (ps_set (i := 1) scStore.nd rfl (Or.inl rfl) (pe_op op_mod (pe_op op_add (pe_op op_add (pe_op op_mul (pv 1) pe_int) (pe_op op_mod (pv 2) pe_int)) pe_int) pe_int))))
      (pss_one (ps_ret (pe_lst (pa_cons (pe_slice sl_list (pv 0) po_none (po_some pe_int)) (pa_cons pe_int (pa_cons pe_int (pa_cons (pv 1) (pa_cons pe_int pa_nil))))))))), ?_⟩
    refine ⟨_, rfl, a, _, rfl, .inl hS, ?_⟩
    refine ⟨_, rfl, _, rfl, a, _, rfl, hS, fun p hp => ⟨p, rfl, ⟨_, SqL.of upd_same⟩, ?_⟩⟩
    rw [cut63 hl]
    refine for_list (K := K) (a := p) (xs := ns.map V.int) (fun i σ H' => ∃ (m : Int) (v : Option V), σ = [some (.ref a), some (.int m), v] ∧ 0 ≤ m ∧ m < 2147483648 ∧ H' = upd H p (.lst (ns.map V.int)))
      ⟨_, none, rfl, Int.natCast_nonneg _, by rw [List.length_map]; omega, rfl⟩ (fun i σ H' _ ⟨m, v, _, _, _, e⟩ => by rw [e]; exact SqL.of upd_same) ?_ ?_
    · rintro i y σ H' hi ⟨m, v, rfl, m0, m1, rfl⟩
      obtain ⟨z, _, rfl⟩ := map_int_get hi
      refine ⟨_, rfl, _, _, rfl, rfl, .inl ⟨by omega, by omega⟩, _, rfl, _, _, rfl, rfl, (by show (0 : Int) < 1000000007; decide), _, _, rfl, rfl, _, _, rfl, rfl, _, _, rfl, rfl, (by show (0 : Int) < 2147483629; decide), ?_⟩
      refine ⟨_, _, rfl, Int.emod_nonneg _ (by decide), ?_, rfl⟩
      have q := Int.emod_lt_of_pos (m * 16807 + z % 1000000007 + 11) (show (0 : Int) < 2147483629 by decide)
      omega
    · rintro σ H' ⟨m, v, rfl, m0, m1, rfl⟩
      have s1 : Same H (upd H p (.lst (ns.map V.int))) := same_new hp
      refine ⟨_, rfl, _, rfl, a, _, rfl, s1.seq hS, fun q hq => ?_⟩
      rw [cut63 hl]
      have s2 : Same H (upd (upd H p (.lst (ns.map V.int))) q (.lst (ns.map V.int))) := s1.trans (same_new hq)
      refine ⟨_, rfl, (by show 5 ≤ sizeLine; decide), fun r hr' => ?_⟩
      have nq : q ≠ r := ne_of_none upd_same hr'
      refine k r q _ (s2.trans (same_new hr')) ((s2.trans (Same.refl _)).free hr') ?_
      exact Sto.put nq upd_same hl (by decide) (by decide) (by decide) (by decide)
end
end Vk
set_option maxHeartbeats 4000000
namespace Vk
open PySem PySem.Spec PyProof.Rows L2
section
variable {P : Program} {w : World} {K : PySem.W.Frag} {mg : Str → Option Value} {base : Heap}
def spPick : Sp := fun vs H Q _ => ∃ (a sc : Addr) (m n : Int), vs = [.ref a, .int m] ∧ 0 < m ∧ m < 1000000000 ∧ Sto sc a n H ∧ n ≤ 1000000 ∧
  ∀ (r : Int) (H' : Hp), 0 ≤ r → r < m → Sto sc a (n + 1) H' → Kept a H H' → Q (.int r) H'
theorem scPick : FnScope ["store", "count", "cell", "digit"] ["store", "count"] (defScope sPick) := ⟨rfl, rfl, rfl, by decide +kernel, rfl, by decide +kernel, by decide +kernel⟩
theorem ok_pick (D : Df K mg "_law_pick" sPick ["store", "count"]) (M : Cl P w K mg base CX0 1 "_law_mix" ["number", "turn"] spMix) (len : mg "len" = none) : Cl P w K mg base CX0 2 "_law_pick" ["store", "count"] spPick := by
  refine cl0 D scPick (fun vs H Q E h => ?_) (fun f cdv A outer s H vs Q E hr h => ?_)
  · obtain ⟨a, sc, m, n, rfl, _⟩ := h
    rfl
  · obtain ⟨a, sc, m, n, rfl, m0, m1, S, n1, k⟩ := h
    refine ⟨_, pss_cons (ps_asg (pe_op op_add (pe_ix ix_list (pv 0) pe_int (fun _ _ => rfl)) pe_int) (pg_sub (pv 0) pe_int set_list))
      (pss_cons (ps_if (PW.pt (pw_and (pt_cmpR op_eq (pe_ix ix_list (pv 0) pe_int (fun _ _ => rfl)) pe_int (nomark _)) (pw_and1 (pt_cmpR op_lt (pe_ix ix_list (pv 0) pe_int (fun _ _ => rfl)) (pe_callB call_len_seq (by rfl) len PySem.boot_len (pa_cons (pe_ix ix_list (pv 0) pe_int (fun _ _ => rfl)) pa_nil)) (nomark _)))))
        (pss_cons (ps_set (i := 2) scPick.nd rfl (Or.inl rfl) (pe_ix ix_list (pe_ix ix_list (pv 0) pe_int (fun _ _ => rfl)) (pe_ix ix_list (pv 0) pe_int (fun _ _ => rfl)) (fun _ _ => rfl)))
        (pss_cons (ps_asg (pe_op op_add (pe_ix ix_list (pv 0) pe_int (fun _ _ => rfl)) pe_int) (pg_sub (pv 0) pe_int set_list))
        (pss_cons (ps_if (pt_cmpR op_lt (pv 2) (pe_op op_pow pe_int pe_int) (nomark _))
          (pss_one (ps_ret (pe_op op_mod (pc M hr (by decide) (pa_cons (pv 2) (pa_cons (pe_ix ix_list (pv 0) pe_int (fun _ _ => rfl)) pa_nil))) (pv 1)))) pss_nil)
        (pss_one (ps_asg (pv 2) (pg_sub (pv 0) pe_int set_list)))))) pss_nil)
      (pss_cons (ps_if (pt_cmpR op_gt (pe_ix ix_list (pv 0) pe_int (fun _ _ => rfl)) pe_int (nomark _))
        (pss_cons (ps_set (i := 3) scPick.nd rfl (Or.inl rfl) (pe_op op_mod (pe_ix ix_list (pv 0) pe_int (fun _ _ => rfl)) (pv 1)))
        (pss_cons (ps_asg (pe_op op_fdiv (pe_ix ix_list (pv 0) pe_int (fun _ _ => rfl)) (pv 1)) (pg_sub (pv 0) pe_int set_list))
        (pss_one (ps_ret (pv 3))))) pss_nil)
      (pss_one (ps_ret (pe_op op_mod (pc M hr (by decide) (pa_cons (pe_ix ix_list (pv 0) pe_int (fun _ _ => rfl)) (pa_cons (pe_ix ix_list (pv 0) pe_int (fun _ _ => rfl)) pa_nil))) (pv 1)))))), ?_⟩
    obtain ⟨cs, i, dg, mx, c, hH, ns, hq, hl, i0, d0, c0, cn⟩ := S.ex
    have fill : ∀ (G : Hp) (i' dg' c' : Int), Off a G = Off a H → 0 ≤ i' → 0 ≤ dg' → 0 ≤ c' → c' ≤ n + 1 → G a = some (.lst [.ref sc, .int i', .int dg', .int mx, .int c']) → Sto sc a (n + 1) G ∧ Kept a H G := fun G i' dg' c' e h1 h2 h3 h4 h5 =>
      ⟨⟨cs, i', dg', mx, c', h5, ns, (off_sub a G).at (by rw [e, off_ne ns]; exact hq), hl, h1, h2, h3, h4⟩, by unfold Kept; rw [e]; exact Same.refl _⟩
    -- store[4] = store[4] + 1
    refine ⟨_, rfl, a, _, _, _, rfl, rfl, SqL.of hH, rfl, _, _, rfl, rfl, _, rfl, a, _, _, _, rfl, rfl, hH, rfl, ?_⟩
    -- the mix at the end
    have fin : ∀ (G : Hp) (i' dg' x r : Int), Off a G = Off a H → 0 ≤ i' → 0 ≤ dg' → G a = some (.lst [.ref sc, .int i', .int dg', .int mx, .int (c + 1)]) → Q (.int (r % m)) G := fun G i' dg' x r e h1 h2 h3 => by
      obtain ⟨s1, s2⟩ := fill G i' dg' (c + 1) e h1 h2 (by omega) (by omega) h3
      exact k _ G (Int.emod_nonneg _ (by omega)) (Int.emod_lt_of_pos _ m0) s1 s2
    have fin2 : ∀ (G : Hp) (i' dg' r : Int), Off a G = Off a H → 0 ≤ i' → 0 ≤ dg' → 0 ≤ r → r < m → G a = some (.lst [.ref sc, .int i', .int dg', .int mx, .int (c + 1)]) → Q (.int r) G := fun G i' dg' r e h1 h2 q1 q2 h3 => by
      obtain ⟨s1, s2⟩ := fill G i' dg' (c + 1) e h1 h2 (by omega) (by omega) h3
      exact k _ G q1 q2 s1 s2
    have hqG : ∀ G : Hp, Off a G = Off a H → SqL K G sc (cs.map V.int) := fun G e => SqL.of ((off_sub a G).at (by rw [e, off_ne ns]; exact hq))
    have oG : ∀ o, Off a (upd H a o) = Off a H := fun o => off_upd
    have oG2 : ∀ o u, Off a (upd (upd H a o) a u) = Off a H := fun o u => by rw [off_upd, off_upd]
    have oG3 : ∀ o u v, Off a (upd (upd (upd H a o) a u) a v) = Off a H := fun o u v => by rw [off_upd, off_upd, off_upd]
    refine ⟨_, rfl, a, _, _, _, rfl, rfl, SqL.of upd_same, rfl, rfl, _, rfl, ?_⟩
    refine ite2 (fun hd => ?_) (fun hd => ?_)
    · have hd0 : dg = 0 := by
        have z := of_decide_eq_true hd
        exact V.int.inj z
      subst hd0
      refine ⟨_, rfl, a, _, _, _, rfl, rfl, SqL.of upd_same, rfl, _, rfl, a, _, _, _, rfl, rfl, SqL.of upd_same, rfl, sc, _, rfl, .inl (hqG _ (oG _)), _, _, rfl, rfl, _, rfl, ?_⟩
      refine ite2 (fun hi => ?_) (fun hi => ?_)
      · have hi0 : i < (cs.map V.int).length := of_decide_eq_true hi
        have hj : i.toNat < cs.length := by rw [List.length_map] at hi0; omega
        have hc : (cs.map V.int)[i.toNat]? = some (V.int cs[i.toNat]) := by rw [List.getElem?_map, List.getElem?_eq_getElem hj]; rfl
        have ha : atI (cs.map V.int) i = some (V.int cs[i.toNat]) := by
          have z := atI_nat hc
          rw [Int.toNat_of_nonneg i0] at z
          exact z
        -- cell = store[0][store[1]]; store[1] = store[1] + 1
        refine ⟨_, rfl, a, _, _, _, rfl, rfl, SqL.of upd_same, rfl, _, rfl, a, _, _, _, rfl, rfl, SqL.of upd_same, rfl, sc, _, _, _, rfl, rfl, hqG _ (oG _), ha, ?_⟩
        refine ⟨_, rfl, a, _, _, _, rfl, rfl, SqL.of upd_same, rfl, _, _, rfl, rfl, _, rfl, a, _, _, _, rfl, rfl, upd_same, rfl, ?_⟩
        -- if cell < 10 ** 18
        refine ⟨_, rfl, _, _, rfl, rfl, ⟨by decide, by decide, by decide⟩, _, _, rfl, rfl, _, rfl, ?_⟩
        refine ite2 (fun hx => ?_) (fun hx => ?_)
        · refine ⟨_, rfl, _, rfl, a, _, _, _, rfl, rfl, SqL.of upd_same, rfl, _, _, rfl, by omega, by omega, fun r r0 r1 => ?_⟩
          exact ⟨_, rfl, _, _, rfl, rfl, m0, fin _ (i + 1) 0 0 r (oG2 _ _) (by omega) (by decide) upd_same⟩
        · have hx0 : ¬ cs[i.toNat] < 10 ^ 18 := fun z => hx (decide_eq_true z)
          -- store[2] = cell
          refine ⟨_, rfl, _, rfl, a, _, _, _, rfl, rfl, upd_same, rfl, ?_⟩
          refine ⟨_, rfl, a, _, _, _, rfl, rfl, SqL.of upd_same, rfl, _, _, rfl, rfl, _, rfl, ?_⟩
          refine ite2 (fun _ => ?_) (fun z => absurd (decide_eq_true (show (0 : Int) < cs[i.toNat] by omega)) z)
          refine ⟨_, rfl, a, _, _, _, rfl, rfl, SqL.of upd_same, rfl, _, rfl, _, _, rfl, rfl, m0, ?_⟩
          refine ⟨_, rfl, a, _, _, _, rfl, rfl, SqL.of upd_same, rfl, _, rfl, _, _, rfl, rfl, ⟨m0, by omega⟩, _, rfl, a, _, _, _, rfl, rfl, upd_same, rfl, ?_⟩
          refine ⟨_, rfl, ?_⟩
          exact fin2 _ (i + 1) (cs[i.toNat] / m) _ (by rw [off_upd, off_upd, off_upd, off_upd]) (by omega) (Int.ediv_nonneg (by omega) (by omega)) (Int.emod_nonneg _ (by omega)) (Int.emod_lt_of_pos _ m0) upd_same
      · refine ⟨_, rfl, a, _, _, _, rfl, rfl, SqL.of upd_same, rfl, _, _, rfl, rfl, _, rfl, ?_⟩
        refine ite2 (fun z => absurd (of_decide_eq_true z) (by decide)) (fun _ => ?_)
        refine ⟨_, rfl, a, _, _, _, rfl, rfl, SqL.of upd_same, rfl, _, rfl, a, _, _, _, rfl, rfl, SqL.of upd_same, rfl, _, _, rfl, by omega, by omega, fun r r0 r1 => ?_⟩
        exact ⟨_, rfl, _, _, rfl, rfl, m0, fin _ i 0 0 r (oG _) i0 (by decide) upd_same⟩
    · have hd0 : ¬ dg = 0 := fun z => hd (decide_eq_true (by rw [z]))
      refine iteF ?_
      refine ⟨_, rfl, a, _, _, _, rfl, rfl, SqL.of upd_same, rfl, _, _, rfl, rfl, _, rfl, ?_⟩
      refine ite2 (fun _ => ?_) (fun z => absurd (decide_eq_true (show (0 : Int) < dg by omega)) z)
      refine ⟨_, rfl, a, _, _, _, rfl, rfl, SqL.of upd_same, rfl, _, rfl, _, _, rfl, rfl, m0, ?_⟩
      refine ⟨_, rfl, a, _, _, _, rfl, rfl, SqL.of upd_same, rfl, _, rfl, _, _, rfl, rfl, ⟨m0, by omega⟩, _, rfl, a, _, _, _, rfl, rfl, upd_same, rfl, ?_⟩
      refine ⟨_, rfl, ?_⟩
      exact fin2 _ i (dg / m) _ (by rw [off_upd, off_upd]) i0 (Int.ediv_nonneg (by omega) (by omega)) (Int.emod_nonneg _ (by omega)) (Int.emod_lt_of_pos _ m0) upd_same
end
end Vk
set_option maxHeartbeats 4000000
namespace Vk
open PySem PySem.Spec PyProof.Rows L2 GxR
theorem cutR {α : Type} {R : α} {F : α → Prop} {G : Prop} (h : F R → G) (c : F R) : G := h c
def sgn (c : Nat) : Str := ⟨#[c]⟩
theorem off_none {a : Addr} {H : Hp} (h : H a = none) : Off a H = H := by
  funext b
  by_cases e : b = a
  · rw [e, off_same, h]
  · rw [off_ne e]
theorem off_free {a D : Addr} {H : Hp} (h : H D = none) : Off a H D = none := by
  by_cases e : D = a
  · rw [e, off_same]
  · rw [off_ne e, h]
/-- what was built beside the store and a cell is built beside the store -/
theorem kept_of_off {a l : Addr} {H G : Hp} (h : H l = none) (k : Same (Off l (Off a H)) (Off l (Off a G))) : Kept a H G := by
  rw [off_none (off_free h)] at k
  exact k.trans (off_sub l _)
theorem kept_new_put {a D : Addr} {o : HO} {H G : Hp} (k : Kept a H G) (h : H D = none) (n : D ≠ a) : Kept a H (upd G D o) := by
  unfold Kept
  rw [off_other n]
  exact same_put k (off_free h)
theorem atI_abc {r : Int} (h0 : 0 ≤ r) (h1 : r < 26) : atI abc.cps.toList r = some (97 + r.toNat) := by
  have e : ((r.toNat : Nat) : Int) = r := Int.toNat_of_nonneg h0
  rw [← e]
  refine atI_nat ?_
  rw [abc_list, List.getElem?_range' (by omega)]
  congr 1
  omega
theorem az_of {n : Nat} (h : n < 26) : between "a" "z" (97 + n) = true := by
  rw [between_az]
  exact decide_eq_true (by omega)
theorem nameD_iff {s : Str} : nameD (.str s) = true ↔ 1 ≤ s.cps.toList.length ∧ s.cps.toList.length ≤ 8 ∧ ∀ c ∈ s.cps.toList, between "a" "z" c = true := by
  show (decide (1 ≤ s.length) && (decide (s.length ≤ 8) && s.cps.toList.all (between "a" "z"))) = true ↔ _
  rw [Bool.and_eq_true_iff, Bool.and_eq_true_iff, decide_eq_true_iff, decide_eq_true_iff, List.all_eq_true, Array.length_toList]
  exact Iff.rfl
theorem joinL_one : ∀ cs : List Nat, TL.joinL [] (cs.map fun c => [c]) = cs
  | [] => rfl
  | [c] => rfl
  | c :: d :: r => by
    show [c] ++ ([] ++ TL.joinL [] ((d :: r).map fun c => [c])) = _
    rw [joinL_one (d :: r)]
    rfl
theorem join_sgn (cs : List Nat) : (Txt.join "" (cs.map sgn)).cps.toList = cs := by
  show TL.tl (Txt.join "" (cs.map sgn)) = cs
  rw [TL.join_eq, TL.tl_join, List.map_map]
  exact joinL_one cs
theorem lens_sgn (cs : List Nat) : ((cs.map sgn).map (·.length)).sum + (cs.map sgn).length * ("" : Str).length = cs.length := by
  rw [show (("" : Str)).length = 0 from by decide +kernel, Nat.mul_zero, Nat.add_zero, List.map_map]
  induction cs with
  | nil => rfl
  | cons c r ih =>
    rw [List.map_cons, List.sum_cons, ih, List.length_cons]
    show 1 + r.length = _
    omega
theorem cps_app (x y : Str) : (x ++ y).cps.toList = x.cps.toList ++ y.cps.toList := by
  show (x.cps ++ y.cps).toList = _
  rw [Array.toList_append]
theorem cut_to {z : Str} {i : Nat} (h : i ≤ z.cps.toList.length) : (cutS z none (some (i : Int))).cps.toList = z.cps.toList.take i := by
  have e : HT.sIx z.length z.length (some (i : Int)) = i := by
    rw [HT.sIx_nat]
    have : z.length = z.cps.toList.length := by rw [Array.length_toList]; rfl
    omega
  show ((z.cps.toList.drop 0).take (HT.sIx z.length z.length (some (i : Int)) - 0)) = _
  rw [e]
  rfl
theorem cut_from {z : Str} {i : Nat} (h : i ≤ z.cps.toList.length) : (cutS z (some (i : Int)) none).cps.toList = z.cps.toList.drop i := by
  have e0 : z.length = z.cps.toList.length := by rw [Array.length_toList]; rfl
  have e : HT.sIx z.length 0 (some (i : Int)) = i := by
    rw [HT.sIx_nat]
    omega
  show ((z.cps.toList.drop (HT.sIx z.length 0 (some (i : Int)))).take (z.length - HT.sIx z.length 0 (some (i : Int)))) = _
  rw [e]
  exact List.take_of_length_le (by rw [List.length_drop]; omega)
/-- the word of a late turn -/
def wordT (t : Nat) : Str := (sgn (97 + t % 26) ++ "q") ++ sgn (97 + t / 26 % 26)
theorem sub_len {α : Type} [DecidableEq α] : ∀ {l m : List α}, l.Nodup → (∀ x ∈ l, x ∈ m) → l.length ≤ m.length
  | [], _, _, _ => Nat.zero_le _
  | x :: l, m, h, s => by
    obtain ⟨h1, h2⟩ := List.nodup_cons.mp h
    have hx := s x (by simp)
    have z := sub_len (l := l) (m := m.erase x) h2 fun y hy => (List.mem_erase_of_ne (fun e : y = x => h1 (by rw [← e]; exact hy))).mpr (s y (by simp [hy]))
    have lx := List.length_erase_of_mem hx
    have pos := List.length_pos_of_mem hx
    rw [List.length_cons]
    omega
theorem words_nodup : (((List.range' 41 13).map wordT).map fun s => s.cps.toList).Nodup := by decide +kernel
theorem late {t : Nat} {ws : List Str} (h : ∀ s, 41 ≤ s → s ≤ t → wordT s ∈ ws) (l : ws.length < 12) : t ≤ 52 := by
  refine Nat.le_of_not_lt fun h53 => ?_
  have z := sub_len (l := ((List.range' 41 13).map wordT).map fun s => s.cps.toList) (m := ws.map fun s => s.cps.toList) words_nodup fun x hx => by
    obtain ⟨y, hy, rfl⟩ := List.mem_map.mp hx
    obtain ⟨s, hs, rfl⟩ := List.mem_map.mp hy
    obtain ⟨h1, h2⟩ := List.mem_range'_1.mp hs
    exact List.mem_map.mpr ⟨_, h s (by omega) (by omega), rfl⟩
  rw [List.length_map, List.length_map, List.length_map, List.length_range'] at z
  omega
theorem nameD_word (t : Nat) : nameD (.str (wordT t)) = true := by
  rw [nameD_iff]
  have e : (wordT t).cps.toList = [97 + t % 26, 113, 97 + t / 26 % 26] := by
    unfold wordT
    rw [cps_app, cps_app]
    rfl
  rw [e]
  refine ⟨Nat.succ_le_succ (Nat.zero_le _), (show 3 ≤ 8 by decide), fun c hc => ?_⟩
  simp only [List.mem_cons, List.not_mem_nil, or_false] at hc
  rcases hc with rfl | rfl | rfl
  · exact az_of (Nat.mod_lt _ (by decide))
  · exact az_of (n := 16) (by decide)
  · exact az_of (Nat.mod_lt _ (by decide))
def NW (sc a l : Addr) (n m : Int) (H : Hp) (M : Nat) (σ : L2.St) (G : Hp) : Prop := ∃ (t : Nat) (ws : List Str) (u5 u6 u7 : Option V), M + t = 60 ∧ σ = [some (.ref a), some (.int m), some (.str abc), some (.ref l), some (.int (t : Nat)), u5, u6, u7, none] ∧
  Sto sc a (n + 13 * t) G ∧ Same (Off l (Off a H)) (Off l (Off a G)) ∧ G l = some (.lst (ws.map V.str)) ∧ (∀ s ∈ ws, nameD (.str s) = true) ∧ (ws.length : Int) ≤ m ∧ (∀ s, 41 ≤ s → s ≤ t → wordT s ∈ ws) ∧ ws.Nodup
section
variable {P : Program} {w : World} {K : PySem.W.Frag} {mg : Str → Option Value} {base : Heap}
def spNames : Sp := fun vs H Q _ => ∃ (a sc : Addr) (n m : Int), vs = [.ref a, .int m] ∧ Sto sc a n H ∧ n ≤ 900000 ∧ 0 ≤ m ∧ m ≤ 12 ∧
  ∀ (l : Addr) (ws : List Str) (H' : Hp), H l = none → l ≠ a → Sto sc a (n + 800) H' → Kept a H H' → H' l = some (.lst (ws.map V.str)) → (ws.length : Int) = m → (∀ s ∈ ws, nameD (.str s) = true) → ws.Nodup → Q (.ref l) H'
theorem scNames : FnScope ["store", "count", "letters", "names", "turn", "word", "old", "at", "k"] ["store", "count"] (defScope sNames) := ⟨rfl, rfl, rfl, by decide +kernel, rfl, by decide +kernel, by decide +kernel⟩
theorem ok_names (D : Df K mg "_law_names" sNames ["store", "count"]) (B : Blt mg) (PK : Cl P w K mg base CX0 2 "_law_pick" ["store", "count"] spPick) : Cl P w K mg base CX0 3 "_law_names" ["store", "count"] spNames := by
  refine cl0 D scNames (fun vs H Q E h => ?_) (fun f cdv A outer s H vs Q E hr h => ?_)
  · obtain ⟨a, sc, n, m, rfl, _⟩ := h
    rfl
  · obtain ⟨a, sc, n, m, rfl, S, n1, m0, m12, k⟩ := h
    refine ⟨_, pss_cons (ps_set (i := 2) scNames.nd rfl (Or.inr rfl) pe_str)
      (pss_cons (ps_set (i := 3) scNames.nd rfl (Or.inl rfl) (pe_lst pa_nil))
      (pss_cons (ps_set (i := 4) scNames.nd rfl (Or.inl rfl) pe_int)
      (pss_cons (ps_while PassesOwn.never (pt_cmpR op_lt (pe_callB call_len_seq (by rfl) B.len PySem.boot_len (pa_cons (pv 3) pa_nil)) (pv 1) (nomark _))
        (pss_cons (ps_set (i := 4) scNames.nd rfl (Or.inl rfl) (pe_op op_add (pv 4) pe_int))
        (pss_cons (ps_set (i := 5) scNames.nd rfl (Or.inl rfl) (pe_join pe_str (pe_lc (own := [("k", 8)]) (g := gName 8) (tt := tYes) (te := tOp rIxS (tVar 2) (tCal spPick (tCons (tVar 0) (tCons (tC (.int 26)) tNil)))) (by rfl) scNames.nd (pi_range1 rfl B.range (pa_cons (pe_op op_add pe_int (pc PK hr (by decide) (pa_cons (pv 0) (pa_cons pe_int pa_nil)))) pa_nil))
            (blkOk_by (own := [("k", 8)]) (N := ["store", "count", "letters", "names", "turn", "word", "old", "at", "k"]) (sc := defScope sNames) (by decide +kernel)) (fun _ _ _ _ _ => pg_name (i := 8) scNames.nd rfl (Or.inl rfl)) (fun _ _ _ _ _ => pts_nil) (fun _ _ _ _ _ => pe_ix ix_str (pv 2) (pc PK hr (by decide) (pa_cons (pv 0) (pa_cons pe_int pa_nil))) (fun _ _ => rfl)))))
        (pss_cons (ps_if (PW.pt (pw_and (pt_cmpR (op_neNilL (Nat.lt_of_succ_lt (hu_of hr))) (pv 3) (pe_lst pa_nil) (nomark _)) (pw_and1 (pt_cmpR op_eq (pc PK hr (by decide) (pa_cons (pv 0) (pa_cons pe_int pa_nil))) pe_int (nomark _)))))
          (pss_cons (ps_set (i := 6) scNames.nd rfl (Or.inl rfl) (pe_ix ix_list (pv 3) (pc PK hr (by decide) (pa_cons (pv 0) (pa_cons (pe_callB call_len_seq (by rfl) B.len PySem.boot_len (pa_cons (pv 3) pa_nil)) pa_nil))) (fun _ _ => rfl)))
          (pss_cons (ps_set (i := 7) scNames.nd rfl (Or.inl rfl) (pc PK hr (by decide) (pa_cons (pv 0) (pa_cons (pe_callB call_len (by rfl) B.len PySem.boot_len (pa_cons (pv 6) pa_nil)) pa_nil))))
          (pss_one (ps_set (i := 5) scNames.nd rfl (Or.inl rfl) (pe_op op_add_str (pe_op op_add_str (pe_slice sl_str (pv 6) po_none (po_some (pv 7))) (pe_ix ix_str (pv 2) (pc PK hr (by decide) (pa_cons (pv 0) (pa_cons pe_int pa_nil))) (fun _ _ => rfl))) (pe_slice sl_str (pv 6) (po_some (pe_op op_add (pv 7) pe_int)) po_none)))))) pss_nil)
        (pss_cons (ps_if (pt_cmpR op_gt (pv 4) pe_int (nomark _)) (pss_one (ps_set (i := 5) scNames.nd rfl (Or.inl rfl) (pe_op op_add_str (pe_op op_add_str (pe_ix ix_str (pv 2) (pe_op op_mod (pv 4) pe_int) (fun _ _ => rfl)) pe_str) (pe_ix ix_str (pv 2) (pe_op op_mod (pe_op op_fdiv (pv 4) pe_int) pe_int) (fun _ _ => rfl))))) pss_nil)
        (pss_one (ps_if (pt_cmpR op_notIn_seq (pv 5) (pv 3) (by rfl)) (pss_one (ps_expr (pe_bm PySem.F.plainAttrs_list PySem.F.slot_list_append PySem.F.type_list_append mt_append (pv 3) (pa_cons (pv 5) pa_nil)))) pss_nil)))))))
      (pss_one (ps_ret (pv 3)))))), ?_⟩
    refine ⟨(by show 0 ≤ sizeLine; decide), fun l nl => ?_⟩
    have la : l ≠ a := S.ne nl
    have lsc : l ≠ sc := S.ne2 nl
    refine ⟨NW sc a l n m H, ⟨60, 0, [], none, none, none, rfl, rfl, (S.same (same_new nl)).more (by omega), off_mono (off_mono (same_new nl)), upd_same, (fun s hs => absurd hs (by simp)), m0, (fun s h1 h2 => by omega), List.nodup_nil⟩, ?_⟩
    rintro M σ G ⟨t, ws, u5, u6, u7, hM, rfl, SG, KG, lG, okw, lw, pw, nd⟩
    have lm : (ws.map V.str).length = ws.length := List.length_map ..
    refine ⟨_, rfl, l, _, rfl, .inl (SqL.of lG), _, rfl, _, _, rfl, rfl, _, rfl, ?_⟩
    refine ite2 (fun hlt => ?_) (fun hlt => ?_)
    case refine_2 =>
      have z : ¬ ((ws.map V.str).length : Int) < m := fun z => hlt (decide_eq_true z)
      exact ⟨_, rfl, k l ws G nl la (SG.more (by omega)) (kept_of_off nl KG) lG (by omega) okw nd⟩
    have z : ((ws.map V.str).length : Int) < m := of_decide_eq_true hlt
    rw [lm] at z
    have t52 := late pw (by omega)
    refine ⟨NW sc a l n m H (M - 1), fun σ' G' q => ⟨M - 1, by omega, q⟩, ?_⟩
    refine ⟨_, rfl, _, _, rfl, rfl, ?_⟩
    -- word
    refine ⟨⟨_, rfl⟩, _, rfl, a, sc, 8, _, rfl, by decide, by decide, SG, by omega, fun r G1 r0 r8 S1 K1 => ?_⟩
    refine ⟨_, _, rfl, rfl, 1 + r, rfl, by omega, by omega, fun D0 nD => ?_⟩
    have Da := S1.ne nD
    have Dsc := S1.ne2 nD
    have lG1 := K1.at lG la
    have nDG : G D0 = none := by
      have z := Same.free K1 (off_free nD)
      rw [off_ne Da] at z
      exact z
    have Dl : D0 ≠ l := fun e => by rw [e, lG1] at nD; cases nD
    refine lc_range (n := (1 + r).toNat) (fun i Hc => ∃ cs : List Nat, Sto sc a (n + 13 * t + 1 + i) Hc ∧ Kept a G Hc ∧ Hc D0 = some (.lst ((cs.map sgn).map V.str)) ∧ cs.length = i ∧ ∀ c ∈ cs, between "a" "z" c = true)
      ⟨[], (S1.same (same_new nD)).more (by omega), K1.trans (kept_same (same_new nD)), upd_same, rfl, fun c hc => absurd hc (by simp)⟩ ?_ ?_
    · rintro i Hc hi ⟨cs, Sc, Kc, hD, lc, okc⟩
      refine ⟨rfl, _, rfl, _, rfl, a, sc, 26, _, rfl, by decide, by decide, Sc, by omega, fun x Hd x0 x26 Sd Kd => ?_⟩
      refine ⟨abc, x, _, rfl, rfl, by decide +kernel, atI_abc x0 x26, _, Kd.at hD Da, ?_, cs ++ [97 + x.toNat], ?_, ?_, ?_, by rw [List.length_append, lc]; rfl, ?_⟩
      · rw [List.length_map, List.length_map, lc]
        exact Nat.lt_of_le_of_lt (show i ≤ 9 by omega) (by decide)
      · exact (Sd.other Da Dsc).more (by omega)
      · exact kept_new_put (Kc.trans Kd) nDG Da
      · rw [upd_same, List.map_append, List.map_append]
        rfl
      · intro c hc
        rcases List.mem_append.mp hc with hc | hc
        · exact okc c hc
        · rw [List.mem_singleton.mp hc]
          exact az_of (by omega)
    rintro G2 ⟨cs, S2, K2, hD, lc, okc⟩
    refine ⟨_, D0, cs.map sgn, rfl, rfl, .inl (SqL.of hD), ?_, ?_⟩
    · rw [lens_sgn, lc]
      omega
    have hw0 : nameD (.str (Txt.join "" (cs.map sgn))) = true := by
      rw [nameD_iff, join_sgn]
      exact ⟨by omega, by omega, okc⟩
    have S2' : Sto sc a (n + 13 * t + 9) G2 := S2.more (by omega)
    generalize Txt.join "" (cs.map sgn) = w0 at hw0 ⊢
    have lG2 := K2.at lG la
    apply cutR (α := L2.St → Hp → Prop) (F := fun R => ∀ (wd : Str) (G3 : Hp) (v6 v7 : Option V), nameD (.str wd) = true → Sto sc a (n + 13 * t + 13) G3 → Kept a G G3 → R [some (.ref a), some (.int m), some (.str abc), some (.ref l), some (.int (t + 1)), some (.str wd), v6, v7, none] G3)
    · intro cont
      refine ⟨_, rfl, (by show 0 ≤ sizeLine; decide), fun e1 ne1 => ?_⟩
      have se := same_new (o := .lst []) ne1
      have e1a := S2'.ne ne1
      refine ⟨l, e1, _, rfl, rfl, SqL.of (se.at lG2), SqL.of upd_same, _, rfl, ?_⟩
      have K3 := K2.trans (kept_same se)
      cases he : (ws.map V.str).isEmpty with
      | true => exact iteF (iteF (cont w0 _ _ _ hw0 ((S2'.same se).more (by omega)) K3))
      | false =>
        refine iteT ⟨_, rfl, a, sc, 2, _, rfl, by decide, by decide, S2'.same se, by omega, fun x G3 x0 x2 S3 K23 => ?_⟩
        have K4 := K3.trans K23
        have lG3 := K23.at (se.at lG2) la
        refine ⟨rfl, _, rfl, ?_⟩
        refine ite2 (fun _ => ?_) (fun _ => cont w0 _ _ _ hw0 (S3.more (by omega)) K4)
        have wpos : 0 < ws.length := by
          cases ws with
          | nil => cases he
          | cons x r => exact Nat.succ_pos _
        refine ⟨_, rfl, _, rfl, _, rfl, l, _, rfl, .inl (SqL.of lG3), a, sc, _, _, rfl, by omega, by omega, S3, by omega, fun y G4 y0 y2 S4 K34 => ?_⟩
        have lG4 := K34.at lG3 la
        obtain ⟨ov, hov, mov⟩ := atI_mem (xs := ws.map V.str) y0 (by omega)
        obtain ⟨old, mold, rfl⟩ := List.mem_map.mp mov
        obtain ⟨o1, o8, oaz⟩ := nameD_iff.mp (okw old mold)
        have oe : old.length = old.cps.toList.length := by rw [Array.length_toList]; rfl
        have osm : old.length ≤ sizeLine := Nat.le_trans (show old.length ≤ 8 by omega) (by decide)
        refine ⟨l, _, _, _, rfl, rfl, SqL.of lG4, hov, ?_⟩
        refine ⟨_, rfl, _, rfl, .str old, old.length, rfl, ⟨osm, rfl⟩, a, sc, _, _, rfl, by omega, by omega, S4, by omega, fun x G5 x0 x1 S5 K45 => ?_⟩
        obtain ⟨j, rfl⟩ := Int.eq_ofNat_of_zero_le x0
        refine ⟨_, rfl, ?_⟩
        dsimp only [tNoPart]
        refine ⟨_, rfl, _, rfl, old, rfl, osm, ?_⟩
        refine ⟨_, rfl, _, rfl, a, sc, 26, _, rfl, by decide, by decide, S5, by omega, fun q G6 q0 q26 S6 K56 => ?_⟩
        refine ⟨abc, q, _, rfl, rfl, by decide +kernel, atI_abc q0 q26, _, _, rfl, rfl, ?_, ?_⟩
        · exact Nat.le_trans (Nat.add_le_add_right (Nat.le_trans (cutS_length _ _ _) (show old.length ≤ 8 by omega)) 1) (by decide)
        refine ⟨_, rfl, _, rfl, _, _, rfl, rfl, _, rfl, ?_⟩
        dsimp only [tNoPart]
        have t1 : (cutS old none (some (j : Int))).cps.toList = old.cps.toList.take j := cut_to (by omega)
        have t2 : (cutS old (some ((j + 1 : Nat) : Int)) none).cps.toList = old.cps.toList.drop (j + 1) := cut_from (by omega)
        have tw : ((cutS old none (some (j : Int)) ++ sgn (97 + q.toNat)) ++ cutS old (some ((j + 1 : Nat) : Int)) none).cps.toList = (old.cps.toList.take j ++ [97 + q.toNat]) ++ old.cps.toList.drop (j + 1) := by
          rw [cps_app, cps_app, t1, t2]
          rfl
        refine ⟨old, rfl, osm, _, _, rfl, rfl, ?_, cont _ _ _ _ ?_ (S6.more (by omega)) (((K4.trans K34).trans K45).trans K56)⟩
        · refine Nat.le_trans (Nat.add_le_add (b := 9) (d := 8) (show (cutS old none (some (j : Int)) ++ sgn (97 + q.toNat)).length ≤ 9 from ?_) (Nat.le_trans (cutS_length _ _ _) (show old.length ≤ 8 by omega))) (by decide)
          rw [show ∀ s : Str, s.length = s.cps.toList.length from fun s => by rw [Array.length_toList]; rfl, cps_app, t1, List.length_append, List.length_take]
          show min j _ + 1 ≤ 9
          omega
        · show nameD (.str ((cutS old none (some (j : Int)) ++ sgn (97 + q.toNat)) ++ cutS old (some ((j + 1 : Nat) : Int)) none)) = true
          rw [nameD_iff, tw]
          refine ⟨?_, ?_, fun c hc => ?_⟩
          · simp only [List.length_append, List.length_take, List.length_drop, List.length_cons, List.length_nil]
            omega
          · simp only [List.length_append, List.length_take, List.length_drop, List.length_cons, List.length_nil]
            omega
          · rcases List.mem_append.mp hc with hc | hc
            · rcases List.mem_append.mp hc with hc | hc
              · exact oaz c (List.mem_of_mem_take hc)
              · rw [List.mem_singleton.mp hc]
                exact az_of (by omega)
            · exact oaz c (List.mem_of_mem_drop hc)
    · intro wd G3 v6 v7 hwd S3 K3
      have lG3 := K3.at lG la
      apply cutR (α := L2.St → Hp → Prop) (F := fun R => ∀ (wd : Str), nameD (.str wd) = true → (41 ≤ t + 1 → wd = wordT (t + 1)) → R [some (.ref a), some (.int m), some (.str abc), some (.ref l), some (.int (t + 1)), some (.str wd), v6, v7, none] G3)
      · intro cont
        refine ⟨_, rfl, _, _, rfl, rfl, _, rfl, ?_⟩
        refine ite2 (fun hl => ?_) (fun hl => cont wd hwd (fun h => absurd (decide_eq_true (show (40 : Int) < t + 1 by omega)) hl))
        refine ⟨_, rfl, _, rfl, _, _, rfl, rfl, (by show (0 : Int) < 26; decide), abc, _, _, rfl, rfl, by decide +kernel, atI_abc (by omega) (by omega), _, _, rfl, rfl, ?_, ?_⟩
        · show 1 + 1 ≤ sizeLine
          decide
        refine ⟨_, rfl, _, rfl, _, _, rfl, rfl, ⟨by decide, by omega⟩, _, _, rfl, rfl, (by show (0 : Int) < 26; decide), abc, _, _, rfl, rfl, by decide +kernel, atI_abc (by omega) (by omega), _, _, rfl, rfl, ?_, ?_⟩
        · show 2 + 1 ≤ sizeLine
          decide
        have e1 : (((t : Int) + 1) % 26).toNat = (t + 1) % 26 := by omega
        have e2 : (((t : Int) + 1) / 26 % 26).toNat = (t + 1) / 26 % 26 := by omega
        refine cont _ ?_ (fun _ => ?_)
        · show nameD (.str ((sgn (97 + (((t : Int) + 1) % 26).toNat) ++ "q") ++ sgn (97 + (((t : Int) + 1) / 26 % 26).toNat))) = true
          rw [e1, e2]
          exact nameD_word (t + 1)
        · show (sgn (97 + (((t : Int) + 1) % 26).toNat) ++ "q") ++ sgn (97 + (((t : Int) + 1) / 26 % 26).toNat) = _
          rw [e1, e2]
          rfl
      · intro wd hwd hlate
        have KF := KG.trans (off_mono (a := l) K3)
        refine ⟨_, rfl, _, rfl, l, _, rfl, .inl (SqL.of lG3), rfl, flat_strs _, _, rfl, ?_⟩
        show if (!inV (.str wd) (ws.map V.str)) = true then _ else _
        rw [inV_strs]
        cases hin : ws.any (fun y => y == wd) with
        | false =>
          refine iteT ⟨_, rfl, .inl ⟨rfl, _, SqL.of lG3⟩, _, rfl, l, _, _, rfl, rfl, lG3, ?_, t + 1, ws ++ [wd], _, _, _, by omega, rfl, (S3.other la lsc).more (by omega), ?_, ?_, ?_, ?_, ?_, ?_⟩
          · rw [lm]
            exact Nat.lt_of_le_of_lt (show ws.length ≤ 12 by omega) (by decide)
          · rw [off_other la, off_upd]
            exact KF
          · rw [upd_same, List.map_append]
            rfl
          · intro s hs
            rcases List.mem_append.mp hs with hs | hs
            · exact okw s hs
            · rw [List.mem_singleton.mp hs]
              exact hwd
          · rw [List.length_append, List.length_singleton]
            omega
          · intro s h1 h2
            by_cases e : s = t + 1
            · subst e
              rw [← hlate h1]
              simp
            · exact List.mem_append_left _ (pw s h1 (by omega))
          · rw [List.nodup_append]
            refine ⟨nd, by simp, fun x hx y hy e => ?_⟩
            rw [List.mem_singleton.mp hy] at e
            subst e
            have z : ws.any (fun y => y == x) = true := List.any_eq_true.mpr ⟨x, hx, by simp⟩
            rw [hin] at z
            cases z
        | true =>
          refine iteF ⟨t + 1, ws, _, _, _, by omega, rfl, S3.more (by omega), KF, lG3, okw, lw, (fun s h1 h2 => ?_), nd⟩
          by_cases e : s = t + 1
          · subst e
            rw [← hlate h1]
            obtain ⟨y, hy, e⟩ := List.any_eq_true.mp hin
            rw [← eq_of_beq e]
            exact hy
          · exact pw s h1 (by omega)
end
end Vk
set_option maxHeartbeats 4000000
namespace Vk
open PySem PySem.Spec PyProof.Rows L2
def countD : PyData → Bool
  | .none => true
  | d => integerD 1 d
def kindD : PyData → Bool
  | .str x => x == ("queue" : Str) || x == ("stack" : Str)
  | _ => false
def levelD : PyData → Bool
  | .tuple [a, b] => kindD a && countD b
  | _ => false
theorem in_kinds {K : PySem.W.Frag} {H : Hp} {v : V} {d : PyData} (h : Dp K H v d) : inV v [.str ("queue" : Str), .str ("stack" : Str)] = kindD d := by
  cases h with
  | str x =>
    show (("queue" : Str) == x || (("stack" : Str) == x || false)) = (x == ("queue" : Str) || x == ("stack" : Str))
    rw [Bool.or_false, BEq.comm (a := ("queue" : Str)), BEq.comm (a := ("stack" : Str))]
  | non => rfl
  | bl b => rfl
  | int i => rfl
  | lst q r => rfl
  | tup q r => rfl
section
variable {P : Program} {w : World} {K : PySem.W.Frag} {mg : Str → Option Value} {base : Heap}
def spIsCnt (K : PySem.W.Frag) : Sp := fun vs H Q _ => ∃ (v : V) (d : PyData), vs = [v] ∧ Dp K H v d ∧ Q (.bl (countD d)) H
theorem scIsCnt : FnScope ["value"] ["value"] (defScope sIsCnt) := ⟨rfl, rfl, rfl, by decide +kernel, rfl, by decide +kernel, by decide +kernel⟩
theorem ok_isCnt (D : Df K mg "is_count" sIsCnt ["value"]) (I : Cl P w K mg base CX0 1 "is_integer" ["value", "least"] (spInteger K)) : Cl P w K mg base CX0 2 "is_count" ["value"] (spIsCnt K) := by
  refine cl0 D scIsCnt (fun vs H Q E h => ?_) (fun f cdv A outer s H vs Q E hr h => ?_)
  · obtain ⟨v, d, rfl, _⟩ := h
    rfl
  · obtain ⟨v, d, rfl, hd, k⟩ := h
    refine ⟨_, pss_one (ps_ret (pe_or (pe_cmpR op_isN (pv 0) pe_non (nomark _)) (pe_one (pc I hr (by decide) (pa_cons (pv 0) (pa_cons pe_int pa_nil)))))), ?_⟩
    refine ⟨_, rfl, rfl, _, rfl, ?_⟩
    cases hd with
    | non => exact iteT k
    | int i => exact iteF ⟨_, rfl, _, _, 1, rfl, .int i, k⟩
    | bl b => exact iteF ⟨_, rfl, _, _, 1, rfl, .bl b, k⟩
    | str x => exact iteF ⟨_, rfl, _, _, 1, rfl, .str x, k⟩
    | lst q r => exact iteF ⟨_, rfl, _, _, 1, rfl, .lst q r, k⟩
    | tup q r => exact iteF ⟨_, rfl, _, _, 1, rfl, .tup q r, k⟩
def spLevel (K : PySem.W.Frag) : Sp := fun vs H Q _ => ∃ (v : V) (d : PyData), vs = [v] ∧ Dp K H v d ∧ headD d = true ∧ ∀ H', Same H H' → Q (.bl (levelD d)) H'
theorem scLevel : FnScope ["level"] ["level"] (defScope sLevel) := ⟨rfl, rfl, rfl, by decide +kernel, rfl, by decide +kernel, by decide +kernel⟩
theorem level_two {d : PyData} (h : tupleND 2 d = true) : ∃ a b, d = .tuple [a, b] := by
  cases d with
  | tuple ds =>
    have z : (ds.length : Int) = 2 := of_decide_eq_true h
    match ds, z with
    | [a, b], _ => exact ⟨a, b, rfl⟩
    | [], z => cases z
    | [_], z => cases z
    | _ :: _ :: _ :: l, z => simp only [List.length_cons] at z; omega
  | _ => cases h
theorem level_not {d : PyData} (h : tupleND 2 d = false) : levelD d = false := by
  cases d with
  | tuple ds =>
    have z : ¬ (ds.length : Int) = 2 := of_decide_eq_false h
    match ds, z with
    | [a, b], z => exact absurd rfl z
    | [], _ => rfl
    | [_], _ => rfl
    | _ :: _ :: _ :: l, _ => rfl
  | _ => rfl
theorem ok_level (D : Df K mg "is_level" sLevel ["level"]) (T : Cl P w K mg base CX0 1 "is_tuple_of" ["value", "many"] (spTupleOf K)) (C : Cl P w K mg base CX0 2 "is_count" ["value"] (spIsCnt K)) : Cl P w K mg base CX0 3 "is_level" ["level"] (spLevel K) := by
  refine cl0 D scLevel (fun vs H Q E h => ?_) (fun f cdv A outer s H vs Q E hr h => ?_)
  · obtain ⟨v, d, rfl, _⟩ := h
    rfl
  · obtain ⟨v, d, rfl, hd, fl, k⟩ := h
    refine ⟨_, pss_one (ps_ret (pe_and (pc T hr (by decide) (pa_cons (pv 0) (pa_cons pe_int pa_nil))) (pe_and (pe_cmpR op_in_seq (pe_ix ix_tup (pv 0) pe_int (fun _ _ => rfl)) (pe_tup (pa_cons pe_str (pa_cons pe_str pa_nil))) (by rfl))
      (pe_one (pc C hr (by decide) (pa_cons (pe_ix ix_tup (pv 0) pe_int (fun _ _ => rfl)) pa_nil)))))), ?_⟩
    refine ⟨_, rfl, v, d, 2, rfl, hd, _, rfl, ?_⟩
    cases ht : tupleND 2 d with
    | false =>
      refine iteF ?_
      have z := k H (Same.refl H)
      rw [level_not ht] at z
      exact z
    | true =>
      obtain ⟨a, b, rfl⟩ := level_two ht
      obtain ⟨p, x, y, rfl, q, ha, hb⟩ := dp_two hd
      refine iteT ⟨_, rfl, p, _, _, _, rfl, rfl, q, rfl, (by show 2 ≤ sizeLine; decide), fun t nt => ?_⟩
      have s1 := same_new (o := .tup [.str ("queue" : Str), .str ("stack" : Str)]) nt
      refine ⟨t, _, rfl, .inr (SqT.of upd_same), (by rw [dp_flat ha]; exact fl), rfl, _, rfl, ?_⟩
      show if inV x [.str ("queue" : Str), .str ("stack" : Str)] = true then _ else _
      rw [in_kinds ha]
      have kk := k _ s1
      have e : levelD (.tuple [a, b]) = (kindD a && countD b) := rfl
      rw [e] at kk
      cases hk : kindD a with
      | false =>
        rw [hk] at kk
        exact iteF kk
      | true =>
        rw [hk] at kk
        exact iteT ⟨_, rfl, p, _, _, _, rfl, rfl, same_seqT s1 q, rfl, y, b, rfl, dp_same s1 hb, kk⟩
end
end Vk
set_option maxHeartbeats 4000000
namespace Vk
open PySem PySem.Spec PyProof.Rows L2 GxR
/-- what was built beside the store and a cell is built beside the store -/
theorem slen {s : Str} : s.length = s.cps.toList.length := by rw [Array.length_toList]; rfl
theorem alen {x y : Str} : (x ++ y).length = x.length + y.length := by rw [slen, cps_app, List.length_append, ← slen, ← slen]
theorem log_ok {n : Nat} (h : n ≤ 10 ^ 30) : ((n : Int)).natAbs.log2 < 1920 := by
  rw [Int.natAbs_natCast]
  by_cases e : n = 0
  · subst e
    decide
  · exact (Nat.log2_lt e).mpr (Nat.lt_of_le_of_lt h (by decide))
theorem small_le {m : Nat} (h : m ≤ 200) : m ≤ sizeLine := Nat.le_trans h (by decide)
theorem dg_nat {t : Int} (h0 : 0 ≤ t) : ∃ n : Nat, t = (n : Int) := Int.eq_ofNat_of_zero_le h0
theorem cutP {R G : Prop} (h : R → G) (c : R) : G := h c
theorem atI_str {l : List Str} {r : Int} (h0 : 0 ≤ r) (h1 : r < l.length) : ∃ s, atI (l.map V.str) r = some (.str s) ∧ s ∈ l := by
  obtain ⟨x, h2, h3⟩ := atI_mem (xs := l.map V.str) h0 (by rw [List.length_map]; exact h1)
  obtain ⟨s, hs, rfl⟩ := List.mem_map.mp h3
  exact ⟨s, h2, hs⟩
theorem map_erase {α β : Type} (f : α → β) : ∀ (l : List α) (i : Nat), (l.map f).eraseIdx i = (l.eraseIdx i).map f
  | [], _ => rfl
  | x :: l, 0 => rfl
  | x :: l, i + 1 => by
    rw [List.map_cons, List.eraseIdx_cons_succ, List.eraseIdx_cons_succ, List.map_cons, map_erase f l i]
theorem cut_from_len (z : Str) (i : Nat) : (cutS z (some (i : Int)) none).length ≤ z.length - i := by
  have e0 : z.length = z.cps.toList.length := slen
  rw [slen]
  show ((z.cps.toList.drop (HT.sIx z.length 0 (some (i : Int)))).take (z.length - HT.sIx z.length 0 (some (i : Int)))).length ≤ _
  rw [HT.sIx_nat, List.length_take, List.length_drop]
  omega
theorem cut_to_len (z : Str) (i : Nat) : (cutS z none (some (i : Int))).length ≤ i := by
  have e0 : z.length = z.cps.toList.length := slen
  rw [slen]
  show ((z.cps.toList.drop 0).take (HT.sIx z.length z.length (some (i : Int)) - 0)).length ≤ _
  rw [HT.sIx_nat, List.length_take, List.length_drop]
  omega
theorem ixN_at {n : Nat} {i : Int} (h0 : 0 ≤ i) (h : i < n) : ixN n i = some i.toNat := by
  unfold ixN
  rw [if_pos h0, if_pos h]
theorem sq_at {n : Nat} {i : Int} (h0 : 0 ≤ i) (h : i < n) : seqIndex? i n = some i.toNat := by
  unfold seqIndex?
  simp
  omega
theorem cut1 {a : V} {l : List V} : cutV (a :: l) (some 1) none = l := by
  have e : HT.sIx (a :: l).length 0 (some 1) = 1 := by
    show HT.sIx (a :: l).length 0 (some ((1 : Nat) : Int)) = 1
    rw [HT.sIx_nat]
    simp only [List.length_cons]
    omega
  unfold cutV
  rw [e]
  show l.take ((a :: l).length - 1) = l
  exact List.take_of_length_le (by simp only [List.length_cons]; omega)
def optD : Option Int → PyData
  | some i => .int i
  | none => .none
theorem dp_opt {K : PySem.W.Frag} {H : Hp} : ∀ o : Option Int, Dp K H (optV o) (optD o)
  | some i => .int i
  | none => .non
theorem eq_strV (x s : Str) : decide (V.str x = V.str s) = decide (x = s) := by
  by_cases h : x = s
  · rw [h, decide_eq_true rfl, decide_eq_true rfl]
  · rw [decide_eq_false h, decide_eq_false (fun z => h (V.str.inj z))]
theorem units65 {k : Nat} {A : Around} (r : Room k A) : A.units + 65 < cLine := by have := r.un; omega
theorem find_some {n i : Nat} {p : Nat → Bool} (h : (List.range n).find? p = some i) : i < n ∧ p i = true ∧ ∀ j < i, p j = false := by
  rw [List.find?_range_eq_some] at h
  obtain ⟨h1, h2, h3⟩ := h
  refine ⟨List.mem_range.mp h2, h1, fun j hj => ?_⟩
  have z := h3 j hj
  cases hp : p j with
  | false => rfl
  | true =>
    rw [hp] at z
    cases z
theorem mem_joinL {s : Nat} {y : List Nat} : ∀ {ps : List (List Nat)}, s ∈ TL.joinL y ps → s ∈ y ∨ ∃ p ∈ ps, s ∈ p
  | [], h => by cases h
  | [p], h => .inr ⟨p, by simp, h⟩
  | p :: q :: r, h => by
    have z : s ∈ p ++ (y ++ TL.joinL y (q :: r)) := h
    rcases List.mem_append.mp z with z | z
    · exact .inr ⟨p, by simp, z⟩
    · rcases List.mem_append.mp z with z | z
      · exact .inl z
      · rcases mem_joinL z with z | ⟨p', hp', z⟩
        · exact .inl z
        · exact .inr ⟨p', List.mem_cons_of_mem _ hp', z⟩
theorem joinL_len {y : List Nat} {m : Nat} : ∀ {ps : List (List Nat)}, (∀ p ∈ ps, p.length ≤ m) → (TL.joinL y ps).length ≤ ps.length * (m + y.length)
  | [], _ => Nat.zero_le _
  | [p], h => by
    have := h p (by simp)
    show p.length ≤ 1 * (m + y.length)
    omega
  | p :: q :: r, h => by
    have h1 := h p (by simp)
    have h2 := joinL_len (y := y) (m := m) (ps := q :: r) fun x hx => h x (List.mem_cons_of_mem _ hx)
    show (p ++ (y ++ TL.joinL y (q :: r))).length ≤ _
    rw [List.length_append, List.length_append, List.length_cons, Nat.succ_mul]
    omega
def rEqNilT (K : PySem.W.Frag) : R2 := fun x y H Q => ∃ p q xs, x = .ref p ∧ y = .ref q ∧ SqT K H p xs ∧ SqT K H q [] ∧ Q (.bl xs.isEmpty) H
theorem op_eqNilT {X : Cx} (hu : X.A.units < cLine) : OpR X (compareOp .Eq) (rEqNilT X.K) := by
  intro pins s σ H x y v u Q I rx ry h
  obtain ⟨p, q, xs, rfl, rfl, hp, hq, k⟩ := h
  cases rx
  cases ry
  obtain ⟨is1, r1, p1, _⟩ := I.tuple hp
  obtain ⟨is2, r2, p2, _⟩ := I.tuple hq
  cases r2
  have z : ((List.range (min is1.toArray.size ([] : List Value).toArray.size)).all (fun _ => true) && is1.toArray.size == ([] : List Value).toArray.size) = xs.isEmpty := by
    cases xs with
    | nil =>
      cases r1
      rfl
    | cons x r =>
      cases r1
      simp
  refine SeqAt.eq_tupleAt (e := fun _ => true) p1 p2 hu (fun j _ h2 => absurd h2 (Nat.not_lt_zero _)) ?_
  rw [z]
  exact ⟨.bl xs.isEmpty, H, I, rfl, k⟩
end Vk
set_option maxHeartbeats 8000000
/-! what a board does -/
namespace Vk
open PySem PySem.Spec PyProof.Rows L2
section
variable {P : Program} {w : World} {K : PySem.W.Frag} {mg : Str → Option Value} {base : Heap} {CB : Addr}
/-- the rule of a board, as the program holds it: a level -/
theorem rule_level {H : Hp} {ft : List Addr} {rv : V} {r : Rl} (d : Dp K (OffL ft H) rv (bRulD r)) {i : Nat} (h : i < r.levels.length) : ∃ (p pl pe : Addr) (x y : V) (xs : List V), rv = .ref p ∧ SqT K H p [x, y] ∧ x = .ref pl ∧ SqT K H pl xs ∧ xs.length = r.levels.length ∧ xs[i]? = some (.ref pe) ∧
    SqT K H pe [.str (bKindS (r.stackAt i)), bOptW (r.quantAt i)] ∧ y = bOptW r.boost := by
  obtain ⟨p, x, y, rfl, q, dx, dy⟩ := dp_two d
  obtain ⟨pl, xs, rfl, ql, rl⟩ := dp_tuple dx
  have hl : r.levels[i]? = some (r.levels.getD i (false, none)) := by
    rw [List.getD_eq_getElem?_getD, List.getElem?_eq_getElem h]
    rfl
  obtain ⟨v, hv, dv⟩ := dps_get rl (i := i) (d := bLevD (r.levels.getD i (false, none))) (by rw [List.getElem?_map, hl]; rfl)
  obtain ⟨pe, x1, y1, rfl, qe, dx1, dy1⟩ := dp_two dv
  have e1 := dp_str dx1
  subst e1
  have opt : ∀ {o : Option Int} {v : V}, Dp K (OffL ft H) v (bOptD o) → v = bOptW o := fun {o v} h => by
    cases o with
    | none => (cases h; rfl)
    | some i => exact dp_int h
  have e2 := opt dy1
  subst e2
  have ln := dps_len rl
  rw [List.length_map] at ln
  exact ⟨p, pl, pe, _, y, xs, rfl, same_seqT (offL_sub ft H) q, rfl, same_seqT (offL_sub ft H) ql, ln, hv, same_seqT (offL_sub ft H) qe, opt dy⟩
/-- what a board keeps to beside the promise -/
structure BdR (K : PySem.W.Frag) (CB : Addr) (H : Hp) (b : Addr) (rv : V) (c : Int) (A : BdA) (s : Bd) (r : Rl) : Prop where
  at_ : BdAt CB K H b rv c A s
  ok : s.Ok0
  rule : Dp K (OffL (ftB b A) H) rv (bRulD r)
  lev : r.levels.length = s.lines.length
def spEnter (K : PySem.W.Frag) (CB : Addr) : Sp := fun vs H Q _ => ∃ (b : Addr) (rv : V) (c : Int) (A : BdA) (s : Bd) (r : Rl) (x : Str) (e : Nat), vs = [.ref b, .str x, .int e] ∧ BdR K CB H b rv c A s r ∧ x ∉ s.ran.map (·.1) ∧ s.ran.length < 1000 ∧
  ∀ H', BdAt CB K H' b rv c A (s.enter r x e) → Same (OffL (ftB b A) H) (OffL (ftB b A) H') → Q .non H'
theorem scEnter : FnScope ["self", "name", "entry", "level", "line"] ["self", "name", "entry"] (defScope sBdEnter) := ⟨rfl, rfl, rfl, by decide +kernel, rfl, by decide +kernel, by decide +kernel⟩
theorem ok_enter (D : MDf K CB "enter" "Board.enter" sBdEnter ["self", "name", "entry"]) (T : BdC K CB) (B : Blt mg) (mn : mg "min" = none) : MCl P w K mg base CX0 1 CB "enter" ["self", "name", "entry"] (spEnter K CB) := by
  refine mcl0 D scEnter (fun vs H Q E h => ?_) (fun f cdv Ar outer s0 H vs Q E hr h => ?_)
  · obtain ⟨b, rv, c, A, s, r, x, e, rfl, _⟩ := h
    rfl
  · obtain ⟨b, rv, c, A, s, r, x, e, rfl, ⟨BA, ok, dr, lev⟩, nx, small, k⟩ := h
    refine ⟨_, pss_cons (ps_set (i := 3) scEnter.nd rfl (Or.inl rfl) (pe_callB (call_min2 rfl) (by rfl) mn (by decide +kernel) (pa_cons (pv 2) (pa_cons (pe_op op_sub (pe_callB call_len_seq (by rfl) B.len PySem.boot_len (pa_cons (pe_fld (pv 0) rfl) pa_nil)) pe_int) pa_nil))))
      (pss_cons (ps_set (i := 4) scEnter.nd rfl (Or.inl rfl) (pe_ix ix_list (pe_fld (pv 0) rfl) (pv 3) (fun _ _ => rfl)))
      (pss_cons (ps_if (pt_cmpR op_eq (pe_ix ix_tup (pe_ix ix_tup (pe_ix ix_tup (pe_fld (pv 0) rfl) pe_int (fun _ _ => rfl)) (pv 3) (fun _ _ => rfl)) pe_int (fun _ _ => rfl)) pe_str (nomark _))
        (pss_one (ps_expr (pe_bm PySem.F.plainAttrs_list PySem.F.slot_list_insert PySem.F.type_list_insert mt_insert (pv 4) (pa_cons pe_int (pa_cons (pv 1) pa_nil)))))
        (pss_one (ps_expr (pe_bm PySem.F.plainAttrs_list PySem.F.slot_list_append PySem.F.type_list_append mt_append (pv 4) (pa_cons (pv 1) pa_nil)))))
      (pss_cons (ps_asg pe_int (pg_sub (pe_fld (pv 0) rfl) (pv 1) (set_dict (hu_of hr))))
      (pss_one (ps_asg pe_int (pg_sub (pe_fld (pv 0) rfl) (pv 1) (set_dict (hu_of hr)))))))), ?_⟩
    have l1 := ok.lines1
    have l6 := ok.lines6
    have elv : (if ((A.ls.map V.ref).length : Int) - 1 < (e : Int) then ((A.ls.map V.ref).length : Int) - 1 else (e : Int)) = ((min e (s.lines.length - 1) : Nat) : Int) := by
      rw [List.length_map, BA.len]
      split <;> omega
    refine ⟨_, rfl, _, rfl, b, CB, A.dx, _, _, rfl, BA.ob, T.cl, T.nL, bf_lines, A.L, _, rfl, .inl (SqL.of BA.lines), _, _, rfl, rfl, _, _, rfl, ?_⟩
    rw [elv]
    generalize hlv : min e (s.lines.length - 1) = lv
    have lvl : lv < s.lines.length := by omega
    have hns : s.lines[lv]? = some s.lines[lv] := List.getElem?_eq_getElem lvl
    have gns : s.lines.getD lv [] = s.lines[lv] := getD_at hns
    generalize s.lines[lv] = ns at hns gns
    obtain ⟨l, hl⟩ : ∃ l, A.ls[lv]? = some l := ⟨_, List.getElem?_eq_getElem (by rw [BA.len]; exact lvl)⟩
    have hln := BA.line lv l ns hl hns
    have nle := ok.line_le hns
    obtain ⟨p, pl, pe, x0, y0, xs, erv, qp, rfl, ql, lxs, hxs, qe, _⟩ := rule_level dr (i := lv) (by omega)
    have hz : ns.length < sizeLine := Nat.lt_of_le_of_lt nle (by decide)
    refine ⟨_, rfl, b, CB, A.dx, _, _, rfl, BA.ob, T.cl, T.nL, bf_lines, _, rfl, A.L, _, _, _, rfl, rfl, SqL.of BA.lines, atI_nat (by rw [List.getElem?_map, hl]; rfl), ?_⟩
    refine ⟨_, rfl, b, CB, A.dx, _, _, rfl, BA.ob, T.cl, T.nR, bf_rule, p, _, _, _, erv, rfl, qp, rfl, _, rfl, pl, _, _, _, rfl, rfl, ql, atI_nat hxs, pe, _, _, _, rfl, rfl, qe, rfl, rfl, ?_⟩
    have xnu : x ∉ s.used.map (·.1) := fun h => nx (ok.sub x ((ok.here x).mp h))
    have ule := ok.used_le
    have dst : decide (V.str (bKindS (r.stackAt lv)) = V.str "stack") = r.stackAt lv := by cases r.stackAt lv <;> decide
    apply cutR (α := L2.St → Hp → Prop) (F := fun R => ∀ H3, BdAt CB K H3 b rv c A { s with lines := s.lines.set lv (if r.stackAt lv = true then x :: ns else ns ++ [x]) } → OffL (ftB b A) H3 = OffL (ftB b A) H → R [some (.ref b), some (.str x), some (.int e), some (.int lv), some (.ref l)] H3)
    · intro cont
      have lm : l ∈ ftB b A := by simp [ftB, List.mem_of_getElem? hl]
      refine ⟨_, rfl, ?_⟩
      by_cases st : r.stackAt lv = true
      · rw [dst, st]
        refine iteT ?_
        refine ⟨_, rfl, .inl ⟨rfl, _, SqL.of hln⟩, _, rfl, l, _, 0, _, rfl, rfl, hln, by rw [List.length_map]; exact hz, by decide, by decide, ?_⟩
        refine cont _ ?_ (offL_upd lm)
        rw [if_pos st]
        exact BA.setLine (ns := x :: ns) hl
      · rw [dst, Bool.eq_false_iff.mpr st]
        refine iteF ?_
        refine ⟨_, rfl, .inl ⟨rfl, _, SqL.of hln⟩, _, rfl, l, _, _, rfl, rfl, hln, by rw [List.length_map]; exact hz, ?_⟩
        refine cont _ ?_ (offL_upd lm)
        rw [if_neg st]
        have z := BA.setLine (ns := ns ++ [x]) hl
        rw [List.map_append] at z
        exact z
    · intro H3 B3 o3
      have um : A.u ∈ ftB b A := by simp [ftB]
      have rm : A.n ∈ ftB b A := by simp [ftB]
      refine ⟨_, rfl, b, CB, A.dx, _, _, rfl, B3.ob, T.cl, T.nU, bf_used, _, rfl, A.u, _, rfl, DPut.k (k := (.inr x : Key)) B3.used ?_, ?_⟩
      · unfold kvS
        rw [List.length_map]
        exact Nat.lt_of_le_of_lt ule (by decide)
      rw [putK_new_S xnu]
      have B4 := B3.setUsed (s.used ++ [(x, 0)])
      generalize hG4 : upd H3 A.u (.dK (kvS (s.used ++ [(x, 0)]))) = G4 at B4
      have o4 : OffL (ftB b A) G4 = OffL (ftB b A) H := by rw [← hG4, offL_upd um]; exact o3
      refine ⟨_, rfl, b, CB, A.dx, _, _, rfl, B4.ob, T.cl, T.nA, bf_ran, _, rfl, A.n, _, rfl, DPut.k (k := (.inr x : Key)) B4.ran ?_, ?_⟩
      · unfold kvS
        rw [List.length_map]
        exact Nat.lt_trans small (by decide)
      rw [putK_new_S nx]
      refine k _ ?_ (by rw [offL_upd rm, o4]; exact Same.refl _)
      unfold Bd.enter
      rw [hlv, gns]
      exact B4.setRan (s.ran ++ [(x, 0)])
end
end Vk
set_option maxHeartbeats 8000000
/-! where a quantum ends -/
namespace Vk
open PySem PySem.Spec PyProof.Rows L2
theorem Bd.quanta_len {r : Rl} {s : Bd} {x : Str} : (s.quanta1 r x).lines.length = s.lines.length := by
  unfold Bd.quanta1
  split
  · show ((s.lines.set _ _).set _ _).length = _
    rw [List.length_set, List.length_set]
  · rfl
theorem Bd.Ok0.quantas {r : Rl} : ∀ {xs : List Str} {s : Bd}, s.Ok0 → (∀ x ∈ xs, x ∈ s.order) → (xs.foldl (Bd.quanta1 r) s).Ok0 ∧ (xs.foldl (Bd.quanta1 r) s).order.Perm s.order ∧ (xs.foldl (Bd.quanta1 r) s).lines.length = s.lines.length
  | [], s, h, _ => ⟨h, List.Perm.refl _, rfl⟩
  | x :: xs, s, h, hx => by
    have h0 := hx x (List.mem_cons_self ..)
    have p := Bd.quanta_order (r := r) h.lines1 h0
    obtain ⟨a1, a2, a3⟩ := Bd.Ok0.quantas (r := r) (xs := xs) (h.quanta1 (r := r) h0) fun y hy => p.mem_iff.mpr (hx y (List.mem_cons_of_mem _ hy))
    exact ⟨a1, a2.trans p, a3.trans Bd.quanta_len⟩
section
variable {P : Program} {w : World} {K : PySem.W.Frag} {mg : Str → Option Value} {base : Heap} {CB : Addr}
def spQuanta (K : PySem.W.Frag) (CB : Addr) : Sp := fun vs H Q _ => ∃ (b : Addr) (rv : V) (c : Int) (A : BdA) (s : Bd) (r : Rl) (ln : Addr) (xs : List Str), vs = [.ref b, .ref ln] ∧ BdR K CB H b rv c A s r ∧ OffL (ftB b A) H ln = some (.lst (xs.map V.str)) ∧ (∀ x ∈ xs, x ∈ s.order) ∧
  ∀ H', BdAt CB K H' b rv c A (xs.foldl (Bd.quanta1 r) s) → Same (OffL (ftB b A) H) (OffL (ftB b A) H') → Q .non H'
theorem scQuanta : FnScope ["self", "names", "name", "level"] ["self", "names"] (defScope sBdEndQuanta) := ⟨rfl, rfl, rfl, by decide +kernel, rfl, by decide +kernel, by decide +kernel⟩
theorem ok_quanta (D : MDf K CB "end_quanta" "Board.end_quanta" sBdEndQuanta ["self", "names"]) (T : BdC K CB) (B : Blt mg) (mn : mg "min" = none) (LO : MCl P w K mg base CX0 1 CB "level_of" ["self", "name"] (spLevelOf K CB)) : MCl P w K mg base CX0 2 CB "end_quanta" ["self", "names"] (spQuanta K CB) := by
  refine mcl0 D scQuanta (fun vs H Q E h => ?_) (fun f cdv Ar outer s0 H vs Q E hr h => ?_)
  · obtain ⟨b, rv, c, A, s, r, ln, xs, rfl, _⟩ := h
    rfl
  · obtain ⟨b, rv, c, A, s, r, ln, xs, rfl, ⟨BA, ok, dr, lev⟩, hln, sub, k⟩ := h
    obtain ⟨fO, fdO, MO, bO, FO⟩ := LO.ex
    refine ⟨_, pss_one (ps_for PassesOwn.never rfl (pi_list (pv 1)) (pg_name (i := 2) scQuanta.nd rfl (Or.inl rfl))
      (pss_cons (ps_set (i := 3) scQuanta.nd rfl (Or.inl rfl) (pe_meth (pv 0) T.cl MO FO hr bO .nil pass0 (pa_cons (pv 2) pa_nil)))
      (pss_one (ps_if (pt_cmpR op_eq (pe_dget (hu_of hr) (pe_fld (pv 0) rfl) (pv 2) (fun _ _ => rfl)) (pe_ix ix_tup (pe_ix ix_tup (pe_ix ix_tup (pe_fld (pv 0) rfl) pe_int (fun _ _ => rfl)) (pv 3) (fun _ _ => rfl)) pe_int (fun _ _ => rfl)) (nomark _))
        (pss_cons (ps_expr (pe_bm PySem.F.plainAttrs_list PySem.F.slot_list_remove PySem.F.type_list_remove mt_removeS (pe_ix ix_list (pe_fld (pv 0) rfl) (pv 3) (fun _ _ => rfl)) (pa_cons (pv 2) pa_nil)))
        (pss_cons (ps_expr (pe_bm PySem.F.plainAttrs_list PySem.F.slot_list_append PySem.F.type_list_append mt_append (pe_ix ix_list (pe_fld (pv 0) rfl) (pe_callB (call_min2 rfl) (by rfl) mn (by decide +kernel) (pa_cons (pe_op op_add (pv 3) pe_int) (pa_cons (pe_op op_sub (pe_callB call_len_seq (by rfl) B.len PySem.boot_len (pa_cons (pe_fld (pv 0) rfl) pa_nil)) pe_int) pa_nil))) (fun _ _ => rfl)) (pa_cons (pv 2) pa_nil)))
        (pss_one (ps_asg pe_int (pg_sub (pe_fld (pv 0) rfl) (pv 2) (set_dict (hu_of hr)))))))
        pss_nil)))), ?_⟩
    have hl0 : H ln = some (.lst (xs.map V.str)) := (offL_sub (ftB b A) H).at hln
    refine ⟨_, rfl, ln, rfl, ⟨_, SqL.of hl0⟩, ?_⟩
    refine for_it (D := { nx := _, rt := _ }) (walk_list (K := K) (a := ln) (xs := xs.map V.str)) (fun i σ G => ∃ (u2 u3 : Option V), σ = [some (.ref b), some (.ref ln), u2, u3] ∧ BdAt CB K G b rv c A ((xs.take i).foldl (Bd.quanta1 r) s) ∧ Same (OffL (ftB b A) H) (OffL (ftB b A) G))
      ⟨none, none, rfl, BA, Same.refl _⟩ (fun i σ G _ ⟨_, _, _, _, sG⟩ => SqL.of ((offL_sub (ftB b A) G).at (sG.at hln))) ?_ ?_
    · rintro i y σ G0 G hi ⟨u2, u3, rfl, BG, sG⟩ ⟨rfl, hy⟩
      rw [List.getElem?_map] at hy
      obtain ⟨x, hx, rfl⟩ := Option.map_eq_some_iff.mp hy
      have sub1 : ∀ z ∈ xs.take i, z ∈ s.order := fun z hz => sub z (List.mem_of_mem_take hz)
      obtain ⟨ok1, pm, ll⟩ := ok.quantas (r := r) sub1
      have ef : (xs.take (i + 1)).foldl (Bd.quanta1 r) s = Bd.quanta1 r ((xs.take i).foldl (Bd.quanta1 r) s) x := by
        rw [List.take_add_one, hx, List.foldl_append]
        rfl
      rw [ef]
      have xo := pm.mem_iff.mpr (sub x (List.mem_of_getElem? hx))
      generalize (xs.take i).foldl (Bd.quanta1 r) s = s1 at BG ok1 ll xo ⊢
      refine ⟨_, rfl, b, A.dx, _, rfl, BG.ob, by kernel_rfl, _, rfl, b, rv, c, A, s1, x, rfl, BG, ok1, xo, fun G1 sG1 => ?_⟩
      have B1 := BG.same sG1
      have sH1 := sG.trans (offL_mono (ft := ftB b A) sG1)
      have dr1 := dp_same sH1 dr
      obtain ⟨ns, hns, xns⟩ := Bd.level_at xo
      have gns : s1.lines.getD (s1.level x) [] = ns := getD_at hns
      generalize hlv : s1.level x = lv at hns gns
      have lvl : lv < s1.lines.length := (List.getElem?_eq_some_iff.mp hns).1
      obtain ⟨p, pl, pe, x0, y0, ys, erv, qp, rfl, ql, lxs, hxs, qe, _⟩ := rule_level dr1 (i := lv) (by omega)
      obtain ⟨l, hl⟩ : ∃ l, A.ls[lv]? = some l := ⟨_, List.getElem?_eq_getElem (by rw [B1.len]; exact lvl)⟩
      have hln1 := B1.line lv l ns hl hns
      have xu : x ∈ s1.used.map (·.1) := (ok1.here x).mpr xo
      refine ⟨_, rfl, b, CB, A.dx, _, _, rfl, B1.ob, T.cl, T.nU, bf_used, _, rfl, A.u, .int (getS s1.used x), rfl, ?_, ?_⟩
      · have z := DGet.k (k := (.inr x : Key)) B1.used
        rw [valS, lookS xu] at z
        exact z
      refine ⟨_, rfl, b, CB, A.dx, _, _, rfl, B1.ob, T.cl, T.nR, bf_rule, p, _, _, _, erv, rfl, qp, rfl, _, rfl, pl, _, _, _, rfl, rfl, ql, atI_nat hxs, pe, _, _, _, rfl, rfl, qe, rfl, by cases r.quantAt lv <;> rfl, ?_⟩
      have dq : decide (V.int (getS s1.used x) = bOptW (r.quantAt lv)) = decide (r.quantAt lv = some (getS s1.used x)) := by
        cases r.quantAt lv with
        | none => rfl
        | some q =>
          show decide (V.int _ = V.int q) = _
          by_cases z : getS s1.used x = q
          · rw [z]; simp
          · rw [decide_eq_false (fun e => z (V.int.inj e)), decide_eq_false (fun e => z (Option.some.inj e).symm)]
      refine ⟨_, rfl, ?_⟩
      rw [dq]
      have l1 := ok1.lines1
      have l6 := ok1.lines6
      have ule := ok1.used_le
      have ole := ok1.order_le
      by_cases hq : r.quantAt lv = some (getS s1.used x)
      · rw [decide_eq_true hq]
        refine iteT ?_
        have hz : ∀ n : Nat, n ≤ 1000 → n < sizeLine := fun n hn => Nat.lt_of_le_of_lt hn (by decide)
        have hvl : (A.ls.map V.ref)[lv]? = some (.ref l) := by rw [List.getElem?_map, hl]; rfl
        have lm : l ∈ ftB b A := by simp [ftB, List.mem_of_getElem? hl]
        have um : A.u ∈ ftB b A := by simp [ftB]
        refine ⟨_, rfl, b, CB, A.dx, _, _, rfl, B1.ob, T.cl, T.nL, bf_lines, _, rfl, A.L, _, _, _, rfl, rfl, SqL.of B1.lines, atI_nat hvl, .inl ⟨rfl, _, SqL.of hln1⟩, _, rfl, l, ns, x, rfl, rfl, hln1, xns, ?_⟩
        have B2 := B1.setLine (ns := ns.erase x) hl
        have o2 : OffL (ftB b A) (upd G1 l (.lst ((ns.erase x).map V.str))) = OffL (ftB b A) G1 := offL_upd lm
        generalize upd G1 l (.lst ((ns.erase x).map V.str)) = G2 at B2 o2 ⊢
        have enl : (if ((A.ls.map V.ref).length : Int) - 1 < (lv : Int) + 1 then ((A.ls.map V.ref).length : Int) - 1 else (lv : Int) + 1) = ((min (lv + 1) (s1.lines.length - 1) : Nat) : Int) := by
          rw [List.length_map, B1.len]
          split <;> omega
        have ll2 : (s1.lines.set lv (ns.erase x)).length = s1.lines.length := List.length_set
        generalize hnl : min (lv + 1) (s1.lines.length - 1) = nl at enl
        have nll : nl < (s1.lines.set lv (ns.erase x)).length := by omega
        obtain ⟨l2, hl2⟩ : ∃ l2, A.ls[nl]? = some l2 := ⟨_, List.getElem?_eq_getElem (by rw [B1.len, ← ll2]; exact nll)⟩
        have hms : (s1.lines.set lv (ns.erase x))[nl]? = some (s1.lines.set lv (ns.erase x))[nl] := List.getElem?_eq_getElem nll
        have gms : (s1.lines.set lv (ns.erase x)).getD nl [] = (s1.lines.set lv (ns.erase x))[nl] := getD_at hms
        generalize (s1.lines.set lv (ns.erase x))[nl] = ms at hms gms
        have hvl2 : (A.ls.map V.ref)[nl]? = some (.ref l2) := by rw [List.getElem?_map, hl2]; rfl
        have hl2G := B2.line nl l2 ms hl2 hms
        have mle : ms.length ≤ 1000 := by
          have z1 : ms.Sublist (s1.lines.set lv (ns.erase x)).flatten := List.sublist_flatten_of_mem (List.mem_of_getElem? hms)
          have z2 := (Bd.out_order xo).length_eq
          have z3 : (s1.out x).order = (s1.lines.set lv (ns.erase x)).flatten := by
            show (s1.lines.set (s1.level x) ((s1.lines.getD (s1.level x) []).erase x)).flatten = _
            rw [hlv, gns]
          rw [z3, List.length_cons] at z2
          have := z1.length_le
          omega
        refine ⟨_, rfl, b, CB, A.dx, _, _, rfl, B2.ob, T.cl, T.nL, bf_lines, _, rfl, _, _, rfl, rfl, _, rfl, b, CB, A.dx, _, _, rfl, B2.ob, T.cl, T.nL, bf_lines, A.L, _, rfl, .inl (SqL.of B2.lines), _, _, rfl, rfl, _, _, rfl, ?_⟩
        rw [enl]
        refine ⟨A.L, _, _, _, rfl, rfl, SqL.of B2.lines, atI_nat hvl2, .inl ⟨rfl, _, SqL.of hl2G⟩, _, rfl, l2, _, _, rfl, rfl, hl2G, by rw [List.length_map]; exact hz _ mle, ?_⟩
        have B3 := B2.setLine (ns := ms ++ [x]) hl2
        rw [List.map_append] at B3
        have o3 : OffL (ftB b A) (upd G2 l2 (.lst (ms.map V.str ++ [V.str x]))) = OffL (ftB b A) G1 := by
          rw [offL_upd (by simp [ftB, List.mem_of_getElem? hl2])]
          exact o2
        replace B3 : BdAt CB K (upd G2 l2 (.lst (ms.map V.str ++ [V.str x]))) b rv c A { s1 with lines := (s1.lines.set lv (ns.erase x)).set nl (ms ++ [x]) } := B3
        generalize upd G2 l2 (.lst (ms.map V.str ++ [V.str x])) = G3 at B3 o3 ⊢
        refine ⟨_, rfl, b, CB, A.dx, _, _, rfl, B3.ob, T.cl, T.nU, bf_used, _, rfl, A.u, _, rfl, DPut.k (k := (.inr x : Key)) B3.used ?_, ?_⟩
        · unfold kvS
          rw [List.length_map]
          exact hz _ ule
        rw [putK_S xu]
        refine ⟨_, _, rfl, ?_, by rw [offL_upd um, o3]; exact sH1⟩
        have eq : Bd.quanta1 r s1 x = { s1 with lines := (s1.lines.set lv (ns.erase x)).set nl (ms ++ [x]), used := putS s1.used x 0 } := by
          have z3 : (s1.out x).lines = s1.lines.set lv (ns.erase x) := by
            show s1.lines.set (s1.level x) ((s1.lines.getD (s1.level x) []).erase x) = _
            rw [hlv, gns]
          unfold Bd.quanta1
          rw [hlv, if_pos hq, z3, hnl, gms]
        rw [eq]
        exact B3.setUsed (putS s1.used x 0)
      · rw [decide_eq_false hq]
        refine iteF ?_
        refine ⟨_, _, rfl, ?_, sH1⟩
        unfold Bd.quanta1
        rw [hlv, if_neg hq]
        exact B1
    · rintro σ G ⟨u2, u3, rfl, BG, sG⟩
      rw [List.length_map, List.take_length] at BG
      exact k G BG sG
end
end Vk
set_option maxHeartbeats 4000000
/-! a field of a board gets a new object -/
namespace Vk
open PySem PySem.Spec PyProof.Rows L2
section
variable {CB : Addr} {K : PySem.W.Frag} {H0 H : Hp} {b : Addr} {rv : V} {c : Int} {A : BdA} {s : Bd}
theorem BdAt.here (B : BdAt CB K H0 b rv c A s) {x : Addr} (h : x ∈ ftB b A) : H0 x ≠ none := by
  obtain ⟨xs, f1, _⟩ := B.fins
  simp only [ftB, List.mem_cons] at h
  rcases h with rfl | rfl | rfl | rfl | rfl | h
  · rw [B.ob]; simp
  · rw [B.lines]; simp
  · rw [B.used]; simp
  · rw [B.ran]; simp
  · rw [f1]; simp
  · obtain ⟨_, _, _, _, e⟩ := B.at_line h
    rw [e]; simp
theorem BdAt.newLines (B : BdAt CB K H0 b rv c A s) (k : Same H0 H) {L' : Addr} {ls : List Addr} {lines : List (List Str)} (hL : H L' = some (.lst (ls.map V.ref))) (nL : H0 L' = none) (nl : ∀ l ∈ ls, H0 l = none) (len : ls.length = lines.length)
    (line : ∀ (i : Nat) l ns, ls[i]? = some l → lines[i]? = some ns → H l = some (.lst (ns.map V.str))) (nd : (L' :: ls).Nodup) :
    BdAt CB K (upd H b (.ins CB A.dx (bf rv c s.now { A with L := L', ls := ls }))) b rv c { A with L := L', ls := ls } { s with lines := lines } ∧
    Same (OffL (ftB b A) H0) (OffL (ftB b { A with L := L', ls := ls }) (upd H b (.ins CB A.dx (bf rv c s.now { A with L := L', ls := ls })))) := by
  obtain ⟨xs, f1, f2⟩ := B.fins
  have ne : ∀ {x y : Addr}, H0 x ≠ none → H0 y = none → y ≠ x := fun h1 h2 e => h1 (by rw [← e]; exact h2)
  have mb : b ∈ ftB b { A with L := L', ls := ls } := by simp [ftB]
  have sw : Same (OffL (ftB b A) H0) (OffL (ftB b { A with L := L', ls := ls }) H0) := offL_swap fun x hx => by
    simp only [ftB, List.mem_cons] at hx ⊢
    rcases hx with rfl | rfl | rfl | rfl | rfl | h
    · exact .inl (.inl rfl)
    · exact .inr nL
    · exact .inl (.inr (.inr (.inl rfl)))
    · exact .inl (.inr (.inr (.inr (.inl rfl))))
    · exact .inl (.inr (.inr (.inr (.inr (.inl rfl)))))
    · exact .inr (nl x h)
  have sm := sw.trans (offL_mono (ft := ftB b { A with L := L', ls := ls }) k)
  have hb := B.here (x := b) (by simp [ftB])
  have hF := B.here (x := A.F) (by simp [ftB])
  refine ⟨⟨upd_same, by rw [upd_ne (ne hb nL)]; exact hL, len, fun i l ns h1 h2 => by rw [upd_ne (ne hb (nl l (List.mem_of_getElem? h1)))]; exact line i l ns h1 h2, by rw [upd_ne B.bu.symm]; exact k.at B.used, by rw [upd_ne B.bn.symm]; exact k.at B.ran,
    ⟨xs, by rw [upd_ne B.bF.symm]; exact k.at f1, by rw [offL_upd mb]; exact dps_same sm f2⟩, ?_, B.un⟩, by rw [offL_upd mb]; exact sm⟩
  obtain ⟨n1, n2⟩ := List.nodup_cons.mp nd
  refine List.nodup_cons.mpr ⟨?_, List.nodup_cons.mpr ⟨fun h => ne hF (nl _ h) rfl, n2⟩⟩
  simp only [List.mem_cons, not_or]
  exact ⟨ne hF nL, n1⟩
theorem BdAt.newUsed (B : BdAt CB K H0 b rv c A s) (k : Same H0 H) {u' : Addr} {us : List (Str × Int)} (hu : H u' = some (.dK (kvS us))) (nu : H0 u' = none) :
    BdAt CB K (upd H b (.ins CB A.dx (bf rv c s.now { A with u := u' }))) b rv c { A with u := u' } { s with used := us } ∧
    Same (OffL (ftB b A) H0) (OffL (ftB b { A with u := u' }) (upd H b (.ins CB A.dx (bf rv c s.now { A with u := u' })))) := by
  obtain ⟨xs, f1, f2⟩ := B.fins
  have ne : ∀ {x y : Addr}, H0 x ≠ none → H0 y = none → y ≠ x := fun h1 h2 e => h1 (by rw [← e]; exact h2)
  have mb : b ∈ ftB b { A with u := u' } := by simp [ftB]
  have sw : Same (OffL (ftB b A) H0) (OffL (ftB b { A with u := u' }) H0) := offL_swap fun x hx => by
    simp only [ftB, List.mem_cons] at hx ⊢
    rcases hx with rfl | rfl | rfl | rfl | rfl | h
    · exact .inl (.inl rfl)
    · exact .inl (.inr (.inl rfl))
    · exact .inr nu
    · exact .inl (.inr (.inr (.inr (.inl rfl))))
    · exact .inl (.inr (.inr (.inr (.inr (.inl rfl)))))
    · exact .inl (.inr (.inr (.inr (.inr (.inr h)))))
  have sm := sw.trans (offL_mono (ft := ftB b { A with u := u' }) k)
  have hb := B.here (x := b) (by simp [ftB])
  have hn := B.here (x := A.n) (by simp [ftB])
  exact ⟨⟨upd_same, by rw [upd_ne B.bL.symm]; exact k.at B.lines, B.len, fun i l ns h1 h2 => by rw [upd_ne (B.bl (List.mem_of_getElem? h1))]; exact k.at (B.line i l ns h1 h2), by rw [upd_ne (ne hb nu)]; exact hu, by rw [upd_ne B.bn.symm]; exact k.at B.ran,
    ⟨xs, by rw [upd_ne B.bF.symm]; exact k.at f1, by rw [offL_upd mb]; exact dps_same sm f2⟩, B.nd, ne hn nu⟩, by rw [offL_upd mb]; exact sm⟩
theorem BdAt.newRan (B : BdAt CB K H0 b rv c A s) (k : Same H0 H) {u' : Addr} {us : List (Str × Int)} (hu : H u' = some (.dK (kvS us))) (nu : H0 u' = none) :
    BdAt CB K (upd H b (.ins CB A.dx (bf rv c s.now { A with n := u' }))) b rv c { A with n := u' } { s with ran := us } ∧
    Same (OffL (ftB b A) H0) (OffL (ftB b { A with n := u' }) (upd H b (.ins CB A.dx (bf rv c s.now { A with n := u' })))) := by
  obtain ⟨xs, f1, f2⟩ := B.fins
  have ne : ∀ {x y : Addr}, H0 x ≠ none → H0 y = none → y ≠ x := fun h1 h2 e => h1 (by rw [← e]; exact h2)
  have mb : b ∈ ftB b { A with n := u' } := by simp [ftB]
  have sw : Same (OffL (ftB b A) H0) (OffL (ftB b { A with n := u' }) H0) := offL_swap fun x hx => by
    simp only [ftB, List.mem_cons] at hx ⊢
    rcases hx with rfl | rfl | rfl | rfl | rfl | h
    · exact .inl (.inl rfl)
    · exact .inl (.inr (.inl rfl))
    · exact .inl (.inr (.inr (.inl rfl)))
    · exact .inr nu
    · exact .inl (.inr (.inr (.inr (.inr (.inl rfl)))))
    · exact .inl (.inr (.inr (.inr (.inr (.inr h)))))
  have sm := sw.trans (offL_mono (ft := ftB b { A with n := u' }) k)
  have hb := B.here (x := b) (by simp [ftB])
  have hn := B.here (x := A.u) (by simp [ftB])
  exact ⟨⟨upd_same, by rw [upd_ne B.bL.symm]; exact k.at B.lines, B.len, fun i l ns h1 h2 => by rw [upd_ne (B.bl (List.mem_of_getElem? h1))]; exact k.at (B.line i l ns h1 h2), by rw [upd_ne B.bu.symm]; exact k.at B.used, by rw [upd_ne (ne hb nu)]; exact hu,
    ⟨xs, by rw [upd_ne B.bF.symm]; exact k.at f1, by rw [offL_upd mb]; exact dps_same sm f2⟩, B.nd, (ne hn nu).symm⟩, by rw [offL_upd mb]; exact sm⟩
theorem BdAt.newFins (B : BdAt CB K H0 b rv c A s) (k : Same H0 H) {F' : Addr} {fs : List (Int × List Str × List Str)} {xs : List V} (hF : H F' = some (.lst xs)) (nF : H0 F' = none) (d : DpAll K (OffL (ftB b A) H0) xs (fs.map finD)) :
    BdAt CB K (upd H b (.ins CB A.dx (bf rv c s.now { A with F := F' }))) b rv c { A with F := F' } { s with fins := fs } ∧
    Same (OffL (ftB b A) H0) (OffL (ftB b { A with F := F' }) (upd H b (.ins CB A.dx (bf rv c s.now { A with F := F' })))) := by
  have ne : ∀ {x y : Addr}, H0 x ≠ none → H0 y = none → y ≠ x := fun h1 h2 e => h1 (by rw [← e]; exact h2)
  have mb : b ∈ ftB b { A with F := F' } := by simp [ftB]
  have sw : Same (OffL (ftB b A) H0) (OffL (ftB b { A with F := F' }) H0) := offL_swap fun x hx => by
    simp only [ftB, List.mem_cons] at hx ⊢
    rcases hx with rfl | rfl | rfl | rfl | rfl | h
    · exact .inl (.inl rfl)
    · exact .inl (.inr (.inl rfl))
    · exact .inl (.inr (.inr (.inl rfl)))
    · exact .inl (.inr (.inr (.inr (.inl rfl))))
    · exact .inr nF
    · exact .inl (.inr (.inr (.inr (.inr (.inr h)))))
  have sm := sw.trans (offL_mono (ft := ftB b { A with F := F' }) k)
  have hb := B.here (x := b) (by simp [ftB])
  have hL := B.here (x := A.L) (by simp [ftB])
  refine ⟨⟨upd_same, by rw [upd_ne B.bL.symm]; exact k.at B.lines, B.len, fun i l ns h1 h2 => by rw [upd_ne (B.bl (List.mem_of_getElem? h1))]; exact k.at (B.line i l ns h1 h2), by rw [upd_ne B.bu.symm]; exact k.at B.used, by rw [upd_ne B.bn.symm]; exact k.at B.ran,
    ⟨xs, by rw [upd_ne (ne hb nF)]; exact hF, by rw [offL_upd mb]; exact dps_same sm d⟩, ?_, B.un⟩, by rw [offL_upd mb]; exact sm⟩
  have nd := B.nd
  simp only [List.nodup_cons, List.mem_cons, not_or] at nd ⊢
  exact ⟨⟨(ne hL nF).symm, nd.1.2⟩, fun h => ne (B.here (x := F') (by simp [ftB, h])) nF rfl, nd.2.2⟩
end
end Vk
set_option maxHeartbeats 8000000
/-! the boost -/
namespace Vk
open PySem PySem.Spec PyProof.Rows L2
section
variable {P : Program} {w : World} {K : PySem.W.Frag} {mg : Str → Option Value} {base : Heap} {CB : Addr}
/-- as many new empty lists, one behind the other, in the list at D -/
def Fresh (H0 : Hp) (D : Addr) (n : Nat) (H : Hp) : Prop := ∃ ls : List Addr, ls.length = n ∧ H D = some (.lst (ls.map V.ref)) ∧ (∀ l ∈ ls, H l = some (.lst []) ∧ H0 l = none ∧ l ≠ D) ∧ ls.Nodup ∧ Same H0 (Off D H)
theorem Fresh.zero {H0 : Hp} {D : Addr} (h : H0 D = none) : Fresh H0 D 0 (upd H0 D (.lst [])) := ⟨[], rfl, upd_same, fun l hl => absurd hl (by simp), List.nodup_nil, off_newB h⟩
theorem Fresh.next {H0 H : Hp} {D L : Addr} {n : Nat} (f : Fresh H0 D n H) (hD : H0 D = none) (nL : H L = none) : ∃ acc, upd H L (.lst []) D = some (.lst acc) ∧ acc.length = n ∧ Fresh H0 D (n + 1) (upd (upd H L (.lst [])) D (.lst (acc ++ [V.ref L]))) := by
  obtain ⟨ls, h1, h2, h3, h4, h5⟩ := f
  have LD : L ≠ D := fun e => by rw [e, h2] at nL; cases nL
  have n0 : H0 L = none := by
    by_cases z : H0 L = none
    · exact z
    · have y := h5.has L z
      rw [off_ne LD, nL] at y
      exact absurd rfl y
  refine ⟨ls.map V.ref, by rw [upd_ne (Ne.symm LD)]; exact h2, by rw [List.length_map]; exact h1, ls ++ [L], by rw [List.length_append, h1]; rfl, by rw [upd_same, List.map_append]; rfl, fun l hl => ?_, ?_, ?_⟩
  · rcases List.mem_append.mp hl with hl | hl
    · obtain ⟨a1, a2, a3⟩ := h3 l hl
      have lL : l ≠ L := fun e => by rw [e, nL] at a1; cases a1
      exact ⟨by rw [upd_ne a3, upd_ne lL]; exact a1, a2, a3⟩
    · rw [List.mem_singleton.mp hl]
      exact ⟨by rw [upd_ne LD, upd_same], n0, LD⟩
  · refine List.nodup_append.mpr ⟨h4, by simp, fun a ha b hb e => ?_⟩
    rw [List.mem_singleton.mp hb] at e
    have z := (h3 a ha).1
    rw [e, nL] at z
    cases z
  · rw [off_upd]
    exact h5.trans (off_mono (a := D) (same_new nL))
def spLift (K : PySem.W.Frag) (CB : Addr) : Sp := fun vs H Q _ => ∃ (b : Addr) (rv : V) (c : Int) (A : BdA) (s : Bd) (r : Rl), vs = [.ref b] ∧ BdR K CB H b rv c A s r ∧
  ∀ (A' : BdA) (H' : Hp), BdAt CB K H' b rv c A' s.lift → Same (OffL (ftB b A) H) (OffL (ftB b A') H') → Q .non H'
theorem scLift : FnScope ["self", "_", "name"] ["self"] (defScope sBdLift) := ⟨rfl, rfl, rfl, by decide +kernel, rfl, by decide +kernel, by decide +kernel⟩
theorem ok_lift (D : MDf K CB "lift" "Board.lift" sBdLift ["self"]) (T : BdC K CB) (OR : MCl P w K mg base CX0 1 CB "order" ["self"] (spOrder K CB)) : MCl P w K mg base CX0 2 CB "lift" ["self"] (spLift K CB) := by
  refine mcl0 D scLift (fun vs H Q E h => ?_) (fun f cdv Ar outer s0 H vs Q E hr h => ?_)
  · obtain ⟨b, rv, c, A, s, r, rfl, _⟩ := h
    rfl
  · obtain ⟨b, rv, c, A, s, r, rfl, ⟨BA, ok, dr, lev⟩, k⟩ := h
    obtain ⟨fO, fdO, MO, bO, FO⟩ := OR.ex
    have l1 := ok.lines1
    have l6 := ok.lines6
    refine ⟨_, pss_cons (ps_fld (pv 0) (pe_op op_cat (pe_lst (pa_cons (pe_meth0 (pv 0) T.cl MO FO hr bO .nil pass0) pa_nil))
        (pe_lc (own := [("_", 1)]) (g := gName 1) (tt := tYes) (te := tLst tNil) (by rfl) scLift.nd (pi_tup (pe_slice sl_tupA (pe_ix ix_tup (pe_fld (pv 0) rfl) pe_int (fun _ _ => rfl)) (po_some pe_int) po_none))
          (blkOk_by (own := [("_", 1)]) (N := ["self", "_", "name"]) (sc := defScope sBdLift) (by decide +kernel)) (fun _ _ _ _ _ => pg_name (i := 1) scLift.nd rfl (Or.inl rfl)) (fun _ _ _ _ _ => pts_nil) (fun _ _ _ _ _ => pe_lst pa_nil))) (by rfl))
      (pss_one (ps_fld (pv 0) (pe_lock (pe_dc (own := [("name", 2)]) (g := gName 2) (tt := tYes) (tk := tVar 2) (tv := tC (.int 0)) (by rfl) scLift.nd (pi_keys (pe_fld (pv 0) rfl))
          (blkOk_by (own := [("name", 2)]) (N := ["self", "_", "name"]) (sc := defScope sBdLift) (by decide +kernel)) (fun _ _ _ _ _ => pg_name (i := 2) scLift.nd rfl (Or.inl rfl)) (fun _ _ _ _ _ => pts_nil) (fun _ _ _ _ _ => pv 2) (fun _ _ _ _ _ => pe_int))) (by rfl))), ?_⟩
    refine ⟨_, rfl, b, A.dx, _, rfl, BA.ob, by kernel_rfl, b, rv, c, A, s, rfl, BA, ok, fun D0 H1 nD s1 hD => ?_⟩
    obtain ⟨p, pl, pe, x0, y0, xs, erv, qp, rfl, ql, lxs, hxs, qe, _⟩ := rule_level dr (i := 0) (by omega)
    refine ⟨by show 1 ≤ sizeLine; decide, fun L1 nL1 => ?_⟩
    have sA := same_new (o := .lst [V.ref D0]) nL1
    have qlA := same_seqT (s1.trans sA) ql
    refine ⟨_, rfl, b, CB, A.dx, _, _, rfl, (s1.trans sA).at BA.ob, T.cl, T.nR, bf_rule, p, _, _, _, erv, rfl, same_seqT (s1.trans sA) qp, rfl, _, rfl, ?_⟩
    dsimp only [tNoPart]
    have h1lo : HT.sIx xs.length 0 (some (1 : Int)) = min 1 xs.length := HT.sIx_nat xs.length 0 1
    refine ⟨pl, xs, rfl, qlA, fun z => absurd (h1lo ▸ z.1) (by omega), fun _ p2 np2 => ?_⟩
    have lcut : (cutV xs (some 1) none).length = xs.length - 1 := by
      unfold cutV
      rw [h1lo, HT.sIx_none, List.length_take, List.length_drop]
      omega
    have sB := same_new (o := .tup (cutV xs (some 1) none)) np2
    have hpB : upd (upd H1 L1 (.lst [V.ref D0])) p2 (.tup (cutV xs (some 1) none)) p2 = some (.tup (cutV xs (some 1) none)) := upd_same
    generalize hHB : upd (upd H1 L1 (.lst [V.ref D0])) p2 (.tup (cutV xs (some 1) none)) = HB at sB hpB ⊢
    have hL1B : HB L1 = some (.lst [V.ref D0]) := sB.at upd_same
    have hDB : HB D0 = some (.lst (s.order.map V.str)) := (sA.trans sB).at hD
    refine ⟨p2, rfl, ⟨_, SqT.of hpB⟩, fun D2 nD2 => ?_⟩
    refine lc_it (walk_tup (K := K) (a := p2) (xs := cutV xs (some 1) none)) (fun i Hc => Fresh HB D2 i Hc) (Fresh.zero nD2) (fun i Hc _ ⟨_, _, _, _, _, sc⟩ => SqT.of ((sc.trans (off_sub D2 Hc)).at hpB)) ?_ ?_
    · rintro i y Hc0 Hc hi fr ⟨rfl, hy⟩
      refine ⟨rfl, Nat.zero_le _, fun L nL => ?_⟩
      obtain ⟨acc, a1, a2, a3⟩ := fr.next nD2 nL
      refine ⟨acc, a1, ?_, a3⟩
      rw [a2]
      exact Nat.lt_of_lt_of_le (show i < 1000 by omega) (by decide)
    · intro HC fr
      rw [lcut] at fr
      obtain ⟨ls, c1, c2, c3, c4, c5⟩ := fr
      have sC := c5.trans (off_sub D2 HC)
      refine ⟨L1, D2, _, _, rfl, rfl, sC.at hL1B, c2, ?_, fun L' nL' => ?_⟩
      · rw [List.length_map, c1]
        exact Nat.le_trans (show 1 + (xs.length - 1) ≤ 1000 by omega) (by decide)
      have sL := same_new (o := .lst ([V.ref D0] ++ ls.map V.ref)) nL'
      have sHB := s1.trans (sA.trans sB)
      have sAll := sHB.trans (sC.trans sL)
      refine ⟨_, rfl, b, CB, A.dx, _, rfl, sAll.at BA.ob, T.cl, T.nL, by show 7 < 1000; decide, ?_⟩
      rw [bf_setLines]
      have lD : ∀ l ∈ ls, l ≠ D0 := fun l hl e => by
        have z := (c3 l hl).2.1
        rw [e, hDB] at z
        cases z
      have lL : ∀ l ∈ ls, l ≠ L' := fun l hl e => by
        have z := (c3 l hl).1
        rw [e, nL'] at z
        cases z
      have DL : L' ≠ D0 := fun e => by
        have z := sC.at hDB
        rw [← e, nL'] at z
        cases z
      obtain ⟨B2, S2⟩ := BA.newLines sAll (L' := L') (ls := D0 :: ls) (lines := s.order :: List.replicate (s.lines.length - 1) []) upd_same ((sHB.trans sC).free nL')
        (fun l hl => by
          rcases List.mem_cons.mp hl with rfl | hl
          · exact nD
          · exact sHB.free (c3 l hl).2.1)
        (by rw [List.length_cons, List.length_cons, List.length_replicate, c1, lxs, lev])
        (fun i l ns h1 h2 => by
          cases i with
          | zero =>
            cases h1
            cases h2
            exact (sC.trans sL).at hDB
          | succ i =>
            have h1' : ls[i]? = some l := h1
            have h2' : (List.replicate (s.lines.length - 1) ([] : List Str))[i]? = some ns := h2
            have hl := List.mem_of_getElem? h1'
            have e := List.eq_of_mem_replicate (List.mem_of_getElem? h2')
            subst e
            rw [upd_ne (lL l hl)]
            exact (c3 l hl).1)
        (List.nodup_cons.mpr ⟨by
          simp only [List.mem_cons, not_or]
          exact ⟨DL, fun h => lL L' h rfl⟩, List.nodup_cons.mpr ⟨fun h => lD D0 h rfl, c4⟩⟩)
      replace B2 : BdAt CB K (upd (upd HC L' (.lst ([V.ref D0] ++ ls.map V.ref))) b (.ins CB A.dx (bf rv c s.now { A with L := L' }))) b rv c { A with L := L', ls := D0 :: ls } { s with lines := s.order :: List.replicate (s.lines.length - 1) [] } := B2
      replace S2 : Same (OffL (ftB b A) H) (OffL (ftB b { A with L := L', ls := D0 :: ls }) (upd (upd HC L' (.lst ([V.ref D0] ++ ls.map V.ref))) b (.ins CB A.dx (bf rv c s.now { A with L := L' })))) := S2
      generalize upd (upd HC L' (.lst ([V.ref D0] ++ ls.map V.ref))) b (.ins CB A.dx (bf rv c s.now { A with L := L' })) = G2 at B2 S2 ⊢
      have hu2 := B2.used
      refine ⟨A.u, .dK (kvS s.used), hu2, trivial, fun od => ?_⟩
      have hb3 : upd G2 A.u (.frz od (.dK (kvS s.used))) b = some (.ins CB A.dx (bf rv c s.now { A with L := L' })) := by
        rw [upd_ne B2.bu]
        exact B2.ob
      refine ⟨_, rfl, b, CB, A.dx, _, _, rfl, hb3, T.cl, T.nU, bf_used, A.u, od, rfl, .inl ⟨kvS s.used, upd_same, fun D3 nD3 => ?_⟩⟩
      have D3u : D3 ≠ A.u := fun e => by
        rw [e, upd_same] at nD3
        cases nD3
      have nD2' : G2 D3 = none := by
        rw [upd_ne D3u] at nD3
        exact nD3
      have ule := ok.used_le
      refine dc_it (walk_keys (d := A.u) (o := od) (kvs := kvS s.used)) (fun i Hc => Hc = upd (upd G2 A.u (.frz od (.dK (kvS s.used)))) D3 (.dK (kvS ((s.used.take i).map fun p => (p.1, (0 : Int)))))) rfl (fun i Hc _ e => by rw [e, upd_ne (Ne.symm D3u), upd_same]) ?_ ?_
      · rintro i y Hc0 Hc hi rfl ⟨rfl, k0, v0, hk, rfl⟩
        unfold kvS at hk
        rw [List.getElem?_map] at hk
        obtain ⟨q, hq, e⟩ := Option.map_eq_some_iff.mp hk
        cases e
        have nq : q.1 ∉ ((s.used.take i).map fun p => (p.1, (0 : Int))).map (·.1) := by
          rw [List.map_map]
          intro h
          have h2 : q.1 ∈ (s.used.map (·.1)).take i := by
            rw [← List.map_take]
            exact h
          have h3 : (s.used.map (·.1))[i]? = some q.1 := by rw [List.getElem?_map, hq]; rfl
          obtain ⟨j1, j2⟩ := List.getElem?_eq_some_iff.mp h3
          have nd := ok.ndu
          rw [← List.take_append_drop i (s.used.map (·.1)), List.drop_eq_getElem_cons j1, j2] at nd
          exact (List.nodup_append.mp nd).2.2 _ h2 _ (List.mem_cons_self ..) rfl
        refine ⟨rfl, _, rfl, _, .inr q.1, rfl, upd_same, ?_, ?_⟩
        · unfold kvS
          rw [List.length_map, List.length_map, List.length_take]
          exact Nat.lt_of_le_of_lt (show min i s.used.length ≤ 1000 by omega) (by decide)
        · rw [upd_upd, putK_new_S nq, List.take_add_one, hq, List.map_append]
          rfl
      · rintro Hc rfl
        have lk : (kvS s.used).length = s.used.length := List.length_map ..
        rw [lk, List.take_length]
        refine ⟨by rw [upd_ne (Ne.symm D3u), upd_same], ?_⟩
        have back : upd (upd (upd G2 A.u (.frz od (.dK (kvS s.used)))) D3 (.dK (kvS (s.used.map fun p => (p.1, (0 : Int)))))) A.u (.dK (kvS s.used)) = upd G2 D3 (.dK (kvS (s.used.map fun p => (p.1, (0 : Int))))) := by
          funext z
          by_cases z1 : z = A.u
          · rw [z1, upd_same, upd_ne (Ne.symm D3u)]
            exact hu2.symm
          · rw [upd_ne z1]
            by_cases z2 : z = D3
            · rw [z2, upd_same, upd_same]
            · rw [upd_ne z2, upd_ne z1, upd_ne z2]
        rw [back]
        have sD := same_new (o := .dK (kvS (s.used.map fun p => (p.1, (0 : Int))))) nD2'
        obtain ⟨B3, S3⟩ := B2.newUsed sD (u' := D3) upd_same nD2'
        refine ⟨_, rfl, b, CB, A.dx, _, rfl, sD.at B2.ob, T.cl, T.nU, by show 7 < 1000; decide, ?_⟩
        rw [bf_setUsed]
        exact k _ _ B3 (S2.trans S3)
end
end Vk
set_option maxHeartbeats 4000000
/-! the units of a board, the leaving -/
namespace Vk
open PySem PySem.Spec PyProof.Rows L2
theorem Bd.ticks (d : Int) : ∀ (xs : List Str) (s : Bd), (xs.foldl (fun t x => t.tick1 d x) s).lines = s.lines ∧ (xs.foldl (fun t x => t.tick1 d x) s).fins = s.fins ∧ (xs.foldl (fun t x => t.tick1 d x) s).now = s.now ∧
    (xs.foldl (fun t x => t.tick1 d x) s).ran.map (·.1) = s.ran.map (·.1) ∧ (xs.foldl (fun t x => t.tick1 d x) s).used.map (·.1) = s.used.map (·.1)
  | [], s => ⟨rfl, rfl, rfl, rfl, rfl⟩
  | x :: xs, s => by
    obtain ⟨h1, h2, h3, h4, h5⟩ := Bd.ticks d xs (s.tick1 d x)
    exact ⟨h1, h2, h3, h4.trans (addS_keys _ _ _), h5.trans (addS_keys _ _ _)⟩
theorem Bd.Ok0.ticks {s : Bd} (h : s.Ok0) (d : Int) (xs : List Str) : (xs.foldl (fun t x => t.tick1 d x) s).Ok0 := by
  obtain ⟨h1, h2, h3, h4, h5⟩ := Bd.ticks d xs s
  refine h.perm ?_ (by rw [h1]) h5 h4
  unfold Bd.order
  rw [h1]
theorem Bd.Ok0.at_ {s : Bd} (h : s.Ok0) (t : Int) : ({ s with now := t } : Bd).Ok0 := ⟨h.small, h.ndr, h.ndu, h.ndo, h.sub, h.here, h.lines1, h.lines6⟩
theorem Bd.Ok0.fin {s : Bd} (h : s.Ok0) (f : List (Int × List Str × List Str)) : ({ s with fins := f } : Bd).Ok0 := ⟨h.small, h.ndr, h.ndu, h.ndo, h.sub, h.here, h.lines1, h.lines6⟩
theorem Bd.leave_mem {s : Bd} (h : s.Ok0) {x : Str} (hx : x ∈ s.order) (y : Str) : y ∈ (s.leave x).order ↔ y ∈ s.order ∧ y ≠ x := by
  have p : (x :: (s.leave x).order).Perm s.order := Bd.out_order hx
  have nd := p.nodup_iff.mpr h.ndo
  obtain ⟨nx, _⟩ := List.nodup_cons.mp nd
  rw [← p.mem_iff, List.mem_cons]
  constructor
  · intro m
    exact ⟨.inr m, fun e => by subst e; exact nx m⟩
  · rintro ⟨e | m, ne⟩
    · exact absurd e ne
    · exact m
theorem Bd.leave_len {s : Bd} {x : Str} : (s.leave x).lines.length = s.lines.length := List.length_set
theorem Bd.Ok0.leaves : ∀ {xs : List Str} {s : Bd}, s.Ok0 → xs.Nodup → (∀ x ∈ xs, x ∈ s.order) → (xs.foldl Bd.leave s).Ok0 ∧ (∀ y, y ∈ (xs.foldl Bd.leave s).order ↔ y ∈ s.order ∧ y ∉ xs) ∧ (xs.foldl Bd.leave s).lines.length = s.lines.length
  | [], s, h, _, _ => ⟨h, fun y => ⟨fun m => ⟨m, by simp⟩, fun m => m.1⟩, rfl⟩
  | x :: xs, s, h, nd, hx => by
    obtain ⟨n1, n2⟩ := List.nodup_cons.mp nd
    have h0 := hx x (List.mem_cons_self ..)
    have lm := Bd.leave_mem h h0
    obtain ⟨a1, a2, a3⟩ := Bd.Ok0.leaves (xs := xs) (h.leave h0) n2 fun y hy => (lm y).mpr ⟨hx y (List.mem_cons_of_mem _ hy), fun e => n1 (by rw [← e]; exact hy)⟩
    refine ⟨a1, fun y => ?_, a3.trans Bd.leave_len⟩
    show y ∈ (xs.foldl Bd.leave (s.leave x)).order ↔ _
    rw [a2 y, lm y, List.mem_cons, not_or]
    constructor
    · rintro ⟨⟨b1, b2⟩, b3⟩
      exact ⟨b1, b2, b3⟩
    · rintro ⟨b1, b2, b3⟩
      exact ⟨⟨b1, b2⟩, b3⟩
theorem Bd.run_sub {s : Bd} {c : Int} : ∀ x ∈ s.run c, x ∈ s.order := fun x h => List.mem_of_mem_take h
theorem Bd.run_nd {s : Bd} (h : s.Ok0) {c : Int} : (s.run c).Nodup := h.ndo.sublist (List.take_sublist ..)
theorem Bd.run_le {s : Bd} (h : s.Ok0) {c : Int} : (s.run c).length ≤ 1000 := by
  have z := h.order_le
  unfold Bd.run
  rw [List.length_take]
  omega
theorem all_flatS2 (l : List Str) : (l.map V.str).all flatV = true := all_flatS l
end Vk
set_option maxHeartbeats 8000000
/-! units on a board -/
namespace Vk
open PySem PySem.Spec PyProof.Rows L2
theorem dps_strs {K : PySem.W.Frag} {H : Hp} : ∀ (l : List Str), DpAll K H (l.map V.str) (l.map PyData.str)
  | [] => .nil
  | x :: l => .cons (.str x) (dps_strs l)
theorem flt_take {p : Str → Bool} {l : List Str} {i : Nat} {x : Str} (h : l[i]? = some x) : (l.take (i + 1)).filter p = (l.take i).filter p ++ (if p x = true then [x] else []) := by
  rw [List.take_add_one, h, List.filter_append]
  congr 1
  by_cases hp : p x = true
  · simp [hp]
  · simp [hp]
section
variable {P : Program} {w : World} {K : PySem.W.Frag} {mg : Str → Option Value} {base : Heap} {CB : Addr}
theorem same_seqLq {K : PySem.W.Frag} {H H' : Hp} {a : Addr} {xs : List V} (e : Same H H') (h : SqL K H a xs) : SqL K H' a xs := by
  rcases h with (h | ⟨o, h⟩) | h
  · exact .inl (.inl (e.at h))
  · exact .inl (.inr ⟨o, e.at h⟩)
  · exact .inr h
def spUnits (K : PySem.W.Frag) (CB : Addr) : Sp := fun vs H Q _ => ∃ (b : Addr) (rv : V) (c : Int) (A : BdA) (s : Bd) (r : Rl) (d : Int) (fa : Addr) (fin : List Str), vs = [.ref b, .int d, .ref fa] ∧ BdR K CB H b rv c A s r ∧ 0 ≤ c ∧ (SqL K (OffL (ftB b A) H) fa (fin.map V.str) ∨ SqT K (OffL (ftB b A) H) fa (fin.map V.str)) ∧
  s.fins.length < 100000 ∧ (∀ q, r.boost = some q → q ≠ 0) ∧
  ∀ (A' : BdA) (H' : Hp), BdAt CB K H' b rv c A' (s.endUnits r c d fin) → Same (OffL (ftB b A) H) (OffL (ftB b A') H') → Q .non H'
theorem scUnits : FnScope ["self", "units", "finishing", "running", "name", "leaving", "boost"] ["self", "units", "finishing"] (defScope sBdEndUnits) := ⟨rfl, rfl, rfl, by decide +kernel, rfl, by decide +kernel, by decide +kernel⟩
theorem ok_units (D : MDf K CB "end_units" "Board.end_units" sBdEndUnits ["self", "units", "finishing"]) (T : BdC K CB) (mt : mg "tuple" = none) (RU : MCl P w K mg base CX0 2 CB "running" ["self"] (spRun K CB)) (LO : MCl P w K mg base CX0 1 CB "level_of" ["self", "name"] (spLevelOf K CB))
    (EQ : MCl P w K mg base CX0 2 CB "end_quanta" ["self", "names"] (spQuanta K CB)) (LI : MCl P w K mg base CX0 2 CB "lift" ["self"] (spLift K CB)) : MCl P w K mg base CX0 3 CB "end_units" ["self", "units", "finishing"] (spUnits K CB) := by
  refine mcl0 D scUnits (fun vs H Q E h => ?_) (fun f cdv Ar outer s0 H vs Q E hr h => ?_)
  · obtain ⟨b, rv, c, A, s, r, d, fa, fin, rfl, _⟩ := h
    rfl
  · obtain ⟨b, rv, c, A, s, r, d, fa, fin, rfl, ⟨BA, ok, dr, lev⟩, c0, hfa, small, bq, k⟩ := h
    obtain ⟨fR, fdR, MR, bR, FR⟩ := RU.ex
    obtain ⟨fO, fdO, MO, bO, FO⟩ := LO.ex
    obtain ⟨fE, fdE, ME, bE, FE⟩ := EQ.ex
    obtain ⟨fL, fdL, ML, bL, FL⟩ := LI.ex
    refine ⟨_, pss_cons (ps_set (i := 3) scUnits.nd rfl (Or.inl rfl) (pe_meth0 (pv 0) T.cl MR FR hr bR .nil pass0))
      (pss_cons (ps_fldaug (pv 0) (pv 1) in_add)
      (pss_cons (ps_for PassesOwn.never rfl (pi_tup (pv 3)) (pg_name (i := 4) scUnits.nd rfl (Or.inl rfl))
        (pss_cons (ps_daug (hu_of hr) (pe_fld (pv 0) rfl) (pv 4) (pv 1) in_add (by intros; rfl))
        (pss_one (ps_daug (hu_of hr) (pe_fld (pv 0) rfl) (pv 4) (pv 1) in_add (by intros; rfl)))))
      (pss_cons (ps_set (i := 5) scUnits.nd rfl (Or.inr rfl) (pe_callTy call_tuple_of (by rfl) mt (by decide +kernel) (pa_cons (pe_lc (own := [("name", 4)]) (g := gName 4) (tt := tTest (tOp (rIn K false) (tVar 4) (tVar 2))) (te := tVar 4) (by rfl) scUnits.nd (pi_tup (pv 3))
          (blkOk_by (own := [("name", 4)]) (N := ["self", "units", "finishing", "running", "name", "leaving", "boost"]) (sc := defScope sBdEndUnits) (by decide +kernel)) (fun _ _ _ _ _ => pg_name (i := 4) scUnits.nd rfl (Or.inl rfl)) (fun _ _ _ _ _ => pts_one (pt_cmpR op_in_seq (pv 4) (pv 2) (by rfl))) (fun _ _ _ _ _ => pv 4)) pa_nil)))
      (pss_cons (ps_if (pt_truth (pv 5) (fun _ => rfl))
        (pss_one (ps_expr (pe_bm PySem.F.plainAttrs_list PySem.F.slot_list_append PySem.F.type_list_append mt_append (pe_fld (pv 0) rfl) (pa_cons (pe_tup (pa_cons (pe_fld (pv 0) rfl) (pa_cons (pv 3) (pa_cons (pv 5) pa_nil)))) pa_nil)))) pss_nil)
      (pss_cons (ps_for PassesOwn.never rfl (pi_tup (pv 5)) (pg_name (i := 4) scUnits.nd rfl (Or.inl rfl))
        (pss_cons (ps_expr (pe_bm PySem.F.plainAttrs_list PySem.F.slot_list_remove PySem.F.type_list_remove mt_removeS (pe_ix ix_list (pe_fld (pv 0) rfl) (pe_meth (pv 0) T.cl MO FO (hr.mono (by decide)) bO .nil pass0 (pa_cons (pv 4) pa_nil)) (fun _ _ => rfl)) (pa_cons (pv 4) pa_nil)))
        (pss_one (ps_ddel (pe_fld (pv 0) rfl) (pv 4)))))
      (pss_cons (ps_expr (pe_meth (pv 0) T.cl ME FE hr bE .nil pass0 (pa_cons (pe_lc (own := [("name", 4)]) (g := gName 4) (tt := tTest (tOp (rIn K true) (tVar 4) (tVar 5))) (te := tVar 4) (by rfl) scUnits.nd (pi_tup (pv 3))
          (blkOk_by (own := [("name", 4)]) (N := ["self", "units", "finishing", "running", "name", "leaving", "boost"]) (sc := defScope sBdEndUnits) (by decide +kernel)) (fun _ _ _ _ _ => pg_name (i := 4) scUnits.nd rfl (Or.inl rfl)) (fun _ _ _ _ _ => pts_one (pt_cmpR op_notIn_seq (pv 4) (pv 5) (by rfl))) (fun _ _ _ _ _ => pv 4)) pa_nil)))
      (pss_cons (ps_set (i := 6) scUnits.nd rfl (Or.inl rfl) (pe_ix ix_tup (pe_fld (pv 0) rfl) pe_int (fun _ _ => rfl)))
      (pss_one (ps_if (PW.pt (pw_and (pt_cmpR op_notN (pv 6) pe_non (nomark _)) (pw_and1 (pt_cmpR op_eq (pe_op op_modN (pe_fld (pv 0) rfl) (pv 6)) pe_int (nomark _)))))
        (pss_one (ps_expr (pe_meth0 (pv 0) T.cl ML FL hr bL .nil pass0))) pss_nil))))))))), ?_⟩
    have out : ∀ {G : Hp} {x : Addr}, H x = none → OffL (ftB b A) G x = G x := fun {G x} h => offL_out fun m => BA.here m h
    refine ⟨_, rfl, b, A.dx, _, rfl, BA.ob, by kernel_rfl, b, rv, c, A, s, rfl, BA, ok, c0, fun DR H1 nDR s1 hDR => ?_⟩
    have B1 := BA.same s1
    have S1 := offL_mono (ft := ftB b A) s1
    have mb : b ∈ ftB b A := by simp [ftB]
    have mn : A.n ∈ ftB b A := by simp [ftB]
    have mu : A.u ∈ ftB b A := by simp [ftB]
    have mF : A.F ∈ ftB b A := by simp [ftB]
    refine ⟨_, rfl, b, CB, A.dx, _, _, rfl, B1.ob, T.cl, T.nN, bf_now, _, rfl, _, _, rfl, rfl, A.dx, _, B1.ob, by show 7 < 1000; decide, ?_⟩
    rw [bf_setNow]
    have B2 := B1.setNow (s.now + d)
    have S2 : Same (OffL (ftB b A) H) (OffL (ftB b A) (upd H1 b (.ins CB A.dx (bf rv c (s.now + d) A)))) := by
      rw [offL_upd mb]
      exact S1
    have hDR2 : OffL (ftB b A) (upd H1 b (.ins CB A.dx (bf rv c (s.now + d) A))) DR = some (.tup ((s.run c).map V.str)) := by
      rw [offL_upd mb, out nDR]
      exact hDR
    generalize upd H1 b (.ins CB A.dx (bf rv c (s.now + d) A)) = H2 at B2 S2 hDR2 ⊢
    have rle := Bd.run_le ok (c := c)
    have hz : ∀ n : Nat, n ≤ 1000 → n < sizeLine := fun n hn => Nat.lt_of_le_of_lt hn (by decide)
    have sq : ∀ {G : Hp}, Same (OffL (ftB b A) H2) (OffL (ftB b A) G) → SqT K G DR ((s.run c).map V.str) := fun {G} z => SqT.of ((offL_sub (ftB b A) G).at (z.at hDR2))
    have sf : ∀ {G : Hp}, Same (OffL (ftB b A) H2) (OffL (ftB b A) G) → SqL K G fa (fin.map V.str) ∨ SqT K G fa (fin.map V.str) := fun {G} z => hfa.imp (fun q => same_seqLq (offL_sub (ftB b A) G) (same_seqLq (S2.trans z) q)) (fun q => same_seqT (offL_sub (ftB b A) G) (same_seqT (S2.trans z) q))
    have ok1 : ({ s with now := s.now + d } : Bd).Ok0 := ok.at_ _
    refine ⟨_, rfl, DR, rfl, ⟨_, sq (Same.refl _)⟩, ?_⟩
    refine for_it (D := { nx := _, rt := _ }) (walk_tup (K := K) (a := DR) (xs := (s.run c).map V.str)) (fun i σ G => ∃ (u4 : Option V), σ = [some (.ref b), some (.int d), some (.ref fa), some (.ref DR), u4, none, none] ∧ BdAt CB K G b rv c A (((s.run c).take i).foldl (fun t x => t.tick1 d x) { s with now := s.now + d }) ∧ OffL (ftB b A) G = OffL (ftB b A) H2)
      ⟨none, rfl, B2, rfl⟩ (fun i σ G _ ⟨_, _, _, oG⟩ => sq (by rw [oG]; exact Same.refl _)) ?_ ?_
    · rintro i y σ G0 G hi ⟨u4, rfl, BG, oG⟩ ⟨rfl, hy⟩
      rw [List.getElem?_map] at hy
      obtain ⟨x, hx, rfl⟩ := Option.map_eq_some_iff.mp hy
      have ef : ((s.run c).take (i + 1)).foldl (fun t x => t.tick1 d x) ({ s with now := s.now + d } : Bd) = Bd.tick1 (((s.run c).take i).foldl (fun t x => t.tick1 d x) { s with now := s.now + d }) d x := by
        rw [List.take_add_one, hx, List.foldl_append]
        rfl
      rw [ef]
      obtain ⟨t1, t2, t3, t4, t5⟩ := Bd.ticks d ((s.run c).take i) { s with now := s.now + d }
      have oki := ok1.ticks d ((s.run c).take i)
      generalize ((s.run c).take i).foldl (fun t x => t.tick1 d x) ({ s with now := s.now + d } : Bd) = si at BG t1 t2 t3 t4 t5 oki ⊢
      have xo := Bd.run_sub x (List.mem_of_getElem? hx)
      have xr : x ∈ si.ran.map (·.1) := by rw [t4]; exact ok.sub x xo
      have xu : x ∈ si.used.map (·.1) := by rw [t5]; exact (ok.here x).mpr xo
      refine ⟨_, rfl, b, CB, A.dx, _, _, rfl, BG.ob, T.cl, T.nA, bf_ran, _, rfl, A.n, .int (getS si.ran x), rfl, ?_, _, rfl, _, _, rfl, rfl, _, DPut.k (k := (.inr x : Key)) BG.ran ?_, ?_⟩
      · have z := DGet.k (k := (.inr x : Key)) BG.ran
        rw [valS, lookS xr] at z
        exact z
      · unfold kvS
        rw [List.length_map]
        exact hz _ oki.small
      rw [putK_S xr, put_add oki.ndr]
      have B3 := BG.setRan (addS si.ran x d)
      have o3 : OffL (ftB b A) (upd G A.n (.dK (kvS (addS si.ran x d)))) = OffL (ftB b A) H2 := by rw [offL_upd mn, oG]
      generalize upd G A.n (.dK (kvS (addS si.ran x d))) = G3 at B3 o3 ⊢
      refine ⟨_, rfl, b, CB, A.dx, _, _, rfl, B3.ob, T.cl, T.nU, bf_used, _, rfl, A.u, .int (getS si.used x), rfl, ?_, _, rfl, _, _, rfl, rfl, _, DPut.k (k := (.inr x : Key)) B3.used ?_, ?_⟩
      · have z := DGet.k (k := (.inr x : Key)) B3.used
        rw [valS, lookS xu] at z
        exact z
      · unfold kvS
        rw [List.length_map]
        exact hz _ oki.used_le
      rw [putK_S xu, put_add oki.ndu]
      exact ⟨_, rfl, B3.setUsed (addS si.used x d), by rw [offL_upd mu, o3]⟩
    rintro σ G ⟨u4, rfl, BG, oG⟩
    rw [List.length_map, List.take_length] at BG
    obtain ⟨t1, t2, t3, t4, t5⟩ := Bd.ticks d (s.run c) { s with now := s.now + d }
    have okT := ok1.ticks d (s.run c)
    have hmid : s.mid c d fin = (if (s.run c).filter (fun x => decide (x ∈ fin)) = [] then ((s.run c).foldl (fun t x => t.tick1 d x) { s with now := s.now + d }) else { (s.run c).foldl (fun t x => t.tick1 d x) ({ s with now := s.now + d } : Bd) with fins := s.fins ++ [(s.now + d, s.run c, (s.run c).filter fun x => decide (x ∈ fin))] }) := by
      unfold Bd.mid
      generalize (s.run c).foldl (fun t x => t.tick1 d x) ({ s with now := s.now + d } : Bd) = sT at t2 t3 ⊢
      have e : ({ sT with now := s.now + d } : Bd) = sT := by
        cases sT
        cases t3
        rfl
      rw [e]
      show (if (s.run c).filter (fun x => decide (x ∈ fin)) = [] then sT else { sT with fins := sT.fins ++ [(s.now + d, s.run c, (s.run c).filter fun x => decide (x ∈ fin))] }) = _
      rw [t2]
    have hunits : s.endUnits r c d fin = (match r.boost with
      | some q => if ((((s.run c).filter fun x => decide (x ∉ (s.run c).filter fun x => decide (x ∈ fin))).foldl (Bd.quanta1 r) (((s.run c).filter fun x => decide (x ∈ fin)).foldl Bd.leave (s.mid c d fin)))).now.fmod q = 0 then Bd.lift (((s.run c).filter fun x => decide (x ∉ (s.run c).filter fun x => decide (x ∈ fin))).foldl (Bd.quanta1 r) (((s.run c).filter fun x => decide (x ∈ fin)).foldl Bd.leave (s.mid c d fin))) else ((s.run c).filter fun x => decide (x ∉ (s.run c).filter fun x => decide (x ∈ fin))).foldl (Bd.quanta1 r) (((s.run c).filter fun x => decide (x ∈ fin)).foldl Bd.leave (s.mid c d fin))
      | none => ((s.run c).filter fun x => decide (x ∉ (s.run c).filter fun x => decide (x ∈ fin))).foldl (Bd.quanta1 r) (((s.run c).filter fun x => decide (x ∈ fin)).foldl Bd.leave (s.mid c d fin))) := rfl
    generalize hsT : (s.run c).foldl (fun t x => t.tick1 d x) ({ s with now := s.now + d } : Bd) = sT at BG t1 t2 t3 t4 t5 okT hmid
    -- who leaves
    refine ⟨_, rfl, DR, rfl, ⟨_, sq (by rw [oG]; exact Same.refl _)⟩, fun D4 nD4 => ?_⟩
    have D4R : DR ≠ D4 := fun e => by
      have z := sq (G := G) (by rw [oG]; exact Same.refl _)
      have y := (offL_sub (ftB b A) G).at (o := .tup ((s.run c).map V.str)) (by rw [oG]; exact hDR2)
      rw [e, nD4] at y
      cases y
    have sD4 : ∀ {o : HO}, Same (OffL (ftB b A) H2) (OffL (ftB b A) (upd G D4 o)) := fun {o} => by
      rw [← oG]
      exact offL_mono (same_new nD4)
    refine lc_it (walk_tup (K := K) (a := DR) (xs := (s.run c).map V.str)) (fun i Hc => Hc = upd G D4 (.lst ((((s.run c).take i).filter fun x => decide (x ∈ fin)).map V.str))) rfl (fun i Hc _ e => by rw [e]; exact sq sD4) ?_ ?_
    · rintro i y Hc0 Hc hi rfl ⟨rfl, hy⟩
      rw [List.getElem?_map] at hy
      obtain ⟨x, hx, rfl⟩ := Option.map_eq_some_iff.mp hy
      refine ⟨rfl, _, rfl, _, rfl, fa, _, rfl, sf sD4, rfl, all_flatS fin, _, rfl, ?_⟩
      rw [if_neg Bool.false_ne_true, inV_S, flt_take hx]
      by_cases m : x ∈ fin
      · rw [decide_eq_true m]
        refine iteT ?_
        refine ⟨_, rfl, _, upd_same, ?_, ?_⟩
        · rw [List.length_map]
          have z := List.length_filter_le (fun x => decide (x ∈ fin)) ((s.run c).take i)
          rw [List.length_take] at z
          exact hz _ (by omega)
        · rw [upd_upd, if_pos rfl, List.map_append]
          rfl
      · rw [decide_eq_false m]
        refine iteF ?_
        rw [if_neg Bool.false_ne_true, List.append_nil]
    rintro Hc rfl
    rw [List.length_map, List.take_length]
    generalize hlv : (s.run c).filter (fun x => decide (x ∈ fin)) = lv at hmid hunits ⊢
    have lvs : lv.Sublist (s.run c) := by rw [← hlv]; exact List.filter_sublist
    have lvn : lv.Nodup := (Bd.run_nd ok).sublist lvs
    have lvl : lv.length ≤ 1000 := Nat.le_trans lvs.length_le rle
    refine ⟨D4, _, rfl, .inl ⟨SqL.of upd_same, fun t5 nt5 => ?_⟩⟩
    have s6 := (same_new (o := .lst (lv.map V.str)) nD4).trans (same_new (o := .tup (lv.map V.str)) nt5)
    have B6 := BG.same s6
    have nt5G : G t5 = none := (same_new (o := .lst (lv.map V.str)) nD4).free nt5
    have o5 : t5 ∉ ftB b A := fun m => BG.here m nt5G
    have ht5 : OffL (ftB b A) (upd (upd G D4 (.lst (lv.map V.str))) t5 (.tup (lv.map V.str))) t5 = some (.tup (lv.map V.str)) := by
      rw [offL_out o5, upd_same]
    have S6 : Same (OffL (ftB b A) H2) (OffL (ftB b A) (upd (upd G D4 (.lst (lv.map V.str))) t5 (.tup (lv.map V.str)))) := by
      rw [← oG]
      exact offL_mono s6
    generalize upd (upd G D4 (.lst (lv.map V.str))) t5 (.tup (lv.map V.str)) = H6 at B6 ht5 S6 ⊢
    refine ⟨_, rfl, _, .inr (.inl ⟨_, SqT.of ((offL_sub (ftB b A) H6).at ht5), rfl⟩), ?_⟩
    apply cutR (α := L2.St → Hp → Prop) (F := fun R => ∀ H7, BdAt CB K H7 b rv c A (s.mid c d fin) → Same (OffL (ftB b A) H6) (OffL (ftB b A) H7) → R [some (.ref b), some (.int d), some (.ref fa), some (.ref DR), u4, some (.ref t5), none] H7)
    · intro cont
      by_cases he : lv = []
      · have z : (!(lv.map V.str).isEmpty) = false := by rw [he]; rfl
        rw [z]
        refine iteF ?_
        refine cont _ ?_ (Same.refl _)
        rw [hmid, if_pos he]
        exact B6
      · have z : (!(lv.map V.str).isEmpty) = true := by
          cases lv with
          | nil => exact absurd rfl he
          | cons _ _ => rfl
        rw [z]
        refine iteT ?_
        obtain ⟨xs, f1, f2⟩ := B6.fins
        refine ⟨_, rfl, b, CB, A.dx, _, _, rfl, B6.ob, T.cl, T.nF, bf_fins, .inl ⟨rfl, _, SqL.of f1⟩, _, rfl, b, CB, A.dx, _, _, rfl, B6.ob, T.cl, T.nN, bf_now, _, rfl, _, rfl, by show 3 ≤ sizeLine; decide, fun q nq => ?_⟩
        have sQ := same_new (o := .tup [V.int sT.now, .ref DR, .ref t5]) nq
        have B7 := B6.same sQ
        have oq : q ∉ ftB b A := fun m => B6.here m nq
        have dQ : Dp K (OffL (ftB b A) (upd H6 q (.tup [V.int sT.now, .ref DR, .ref t5]))) (.ref q) (finD (s.now + d, s.run c, lv)) := by
          have w := offL_mono (ft := ftB b A) sQ
          refine .tup (SqT.of (by rw [offL_out oq, upd_same])) (.cons ?_ (.cons (.tup (SqT.of ((S6.trans w).at hDR2)) (dps_strs _)) (.cons (.tup (SqT.of (w.at ht5)) (dps_strs _)) .nil)))
          rw [t3]
          exact .int _
        have lf := dps_len f2
        rw [List.length_map, t2] at lf
        refine ⟨A.F, xs, .ref q, rfl, rfl, sQ.at f1, ?_, ?_⟩
        · rw [lf]
          exact Nat.lt_trans small (by decide)
        refine cont _ ?_ (by rw [offL_upd mF]; exact offL_mono sQ)
        rw [hmid, if_neg he]
        refine B7.setFins ?_
        rw [List.map_append, ← t2]
        exact dps_app (dps_same (offL_mono sQ) f2) (.cons dQ .nil)
    intro H7 B7 S7
    have S27 := S6.trans S7
    have ht7 := S7.at ht5
    have okM : (s.mid c d fin).Ok0 := by
      rw [hmid]
      split
      · exact okT
      · exact okT.fin _
    have orM : (s.mid c d fin).order = s.order := by
      have z : (s.mid c d fin).lines = s.lines := by
        rw [hmid]
        split
        · exact t1
        · exact t1
      unfold Bd.order
      rw [z]
    have subL : ∀ x ∈ lv, x ∈ (s.mid c d fin).order := fun x hx => by
      rw [orM]
      exact Bd.run_sub x (lvs.subset hx)
    have llM : (s.mid c d fin).lines.length = s.lines.length := by
      rw [hmid]
      split
      · show sT.lines.length = _
        rw [t1]
      · show sT.lines.length = _
        rw [t1]
    generalize hsM : s.mid c d fin = sM at B7 okM orM subL llM hunits
    -- they leave
    refine ⟨_, rfl, t5, rfl, ⟨_, SqT.of ((offL_sub (ftB b A) H7).at ht7)⟩, ?_⟩
    refine for_it (D := { nx := _, rt := _ }) (walk_tup (K := K) (a := t5) (xs := lv.map V.str)) (fun i σ G => ∃ (u4 : Option V), σ = [some (.ref b), some (.int d), some (.ref fa), some (.ref DR), u4, some (.ref t5), none] ∧ BdAt CB K G b rv c A ((lv.take i).foldl Bd.leave sM) ∧ Same (OffL (ftB b A) H7) (OffL (ftB b A) G))
      ⟨u4, rfl, B7, Same.refl _⟩ (fun i σ G _ ⟨_, _, _, sG⟩ => SqT.of ((offL_sub (ftB b A) G).at (sG.at ht7))) ?_ ?_
    · rintro i y σ G0 G8 hi ⟨v4, rfl, BG8, sG⟩ ⟨rfl, hy⟩
      rw [List.getElem?_map] at hy
      obtain ⟨x, hx, rfl⟩ := Option.map_eq_some_iff.mp hy
      have ef : (lv.take (i + 1)).foldl Bd.leave sM = Bd.leave ((lv.take i).foldl Bd.leave sM) x := by
        rw [List.take_add_one, hx, List.foldl_append]
        rfl
      rw [ef]
      have tn : (lv.take i).Nodup := lvn.sublist (List.take_sublist ..)
      obtain ⟨oki, omi, lli⟩ := okM.leaves tn fun z hz => subL z (List.mem_of_mem_take hz)
      have xo : x ∈ ((lv.take i).foldl Bd.leave sM).order := (omi x).mpr ⟨subL x (List.mem_of_getElem? hx), fun h => by
        obtain ⟨j1, j2⟩ := List.getElem?_eq_some_iff.mp hx
        have nd := lvn
        rw [← List.take_append_drop i lv, List.drop_eq_getElem_cons j1, j2] at nd
        exact (List.nodup_append.mp nd).2.2 _ h _ (List.mem_cons_self ..) rfl⟩
      generalize (lv.take i).foldl Bd.leave sM = si at BG8 oki omi lli xo ⊢
      refine ⟨_, rfl, b, CB, A.dx, _, _, rfl, BG8.ob, T.cl, T.nL, bf_lines, _, rfl, b, A.dx, _, rfl, BG8.ob, by kernel_rfl, _, rfl, b, rv, c, A, si, x, rfl, BG8, oki, xo, fun G1 sG1 => ?_⟩
      have B1' := BG8.same sG1
      have sH1 := sG.trans (offL_mono (ft := ftB b A) sG1)
      obtain ⟨ns, hns, xns⟩ := Bd.level_at xo
      have gns : si.lines.getD (si.level x) [] = ns := getD_at hns
      generalize hle : si.level x = le at hns gns
      have lel : le < si.lines.length := (List.getElem?_eq_some_iff.mp hns).1
      obtain ⟨l, hl⟩ : ∃ l, A.ls[le]? = some l := ⟨_, List.getElem?_eq_getElem (by rw [B1'.len]; exact lel)⟩
      have hln1 := B1'.line le l ns hl hns
      have xu : x ∈ si.used.map (·.1) := (oki.here x).mpr xo
      have hvl : (A.ls.map V.ref)[le]? = some (.ref l) := by rw [List.getElem?_map, hl]; rfl
      have lm : l ∈ ftB b A := by simp [ftB, List.mem_of_getElem? hl]
      refine ⟨A.L, _, _, _, rfl, rfl, SqL.of B1'.lines, atI_nat hvl, .inl ⟨rfl, _, SqL.of hln1⟩, _, rfl, l, ns, x, rfl, rfl, hln1, xns, ?_⟩
      have B2' := B1'.setLine (ns := ns.erase x) hl
      have o2 : OffL (ftB b A) (upd G1 l (.lst ((ns.erase x).map V.str))) = OffL (ftB b A) G1 := offL_upd lm
      generalize upd G1 l (.lst ((ns.erase x).map V.str)) = G2 at B2' o2 ⊢
      refine ⟨_, rfl, b, CB, A.dx, _, _, rfl, B2'.ob, T.cl, T.nU, bf_used, _, rfl, A.u, kvS si.used, .inr x, rfl, B2'.used, rfl, by rw [valS, lookS xu]; rfl, ?_⟩
      rw [dropK_S]
      refine ⟨_, rfl, ?_, by rw [offL_upd mu, o2]; exact sH1⟩
      have eq : Bd.leave si x = { si with lines := si.lines.set le (ns.erase x), used := dropS si.used x } := by
        unfold Bd.leave
        rw [hle, gns]
      rw [eq]
      exact B2'.setUsed (dropS si.used x)
    rintro σ G8 ⟨v4, rfl, B8, S8⟩
    rw [List.length_map, List.take_length] at B8
    obtain ⟨ok8, om8, ll8⟩ := okM.leaves lvn subL
    generalize lv.foldl Bd.leave sM = s8 at B8 ok8 om8 ll8 hunits
    have S28 := S27.trans S8
    have ht8 := S8.at ht7
    -- the others
    refine ⟨_, rfl, b, A.dx, _, rfl, B8.ob, by kernel_rfl, _, rfl, DR, rfl, ⟨_, sq S28⟩, fun D9 nD9 => ?_⟩
    have o9 : D9 ∉ ftB b A := fun m => B8.here m nD9
    have S9 : ∀ {o : HO}, Same (OffL (ftB b A) G8) (OffL (ftB b A) (upd G8 D9 o)) := fun {o} => offL_mono (same_new nD9)
    refine lc_it (walk_tup (K := K) (a := DR) (xs := (s.run c).map V.str)) (fun i Hc => Hc = upd G8 D9 (.lst ((((s.run c).take i).filter fun x => decide (x ∉ lv)).map V.str))) rfl (fun i Hc _ e => by rw [e]; exact sq (S28.trans S9)) ?_ ?_
    · rintro i y Hc0 Hc hi rfl ⟨rfl, hy⟩
      rw [List.getElem?_map] at hy
      obtain ⟨x, hx, rfl⟩ := Option.map_eq_some_iff.mp hy
      refine ⟨rfl, _, rfl, _, rfl, t5, _, rfl, .inr (SqT.of ((offL_sub (ftB b A) _).at (S9.at ht8))), rfl, all_flatS lv, _, rfl, ?_⟩
      rw [if_pos rfl, inV_S, flt_take hx]
      by_cases m : x ∈ lv
      · rw [decide_eq_true m, decide_eq_false (fun z => z m)]
        refine iteF ?_
        rw [if_neg Bool.false_ne_true, List.append_nil]
      · rw [decide_eq_false m, decide_eq_true (show x ∉ lv from m)]
        refine iteT ?_
        refine ⟨_, rfl, _, upd_same, ?_, ?_⟩
        · rw [List.length_map]
          have z := List.length_filter_le (fun x => decide (x ∉ lv)) ((s.run c).take i)
          rw [List.length_take] at z
          exact hz _ (by omega)
        · rw [upd_upd, if_pos rfl, List.map_append]
          rfl
    rintro Hc rfl
    rw [List.length_map, List.take_length]
    have dr8 := dp_same (S2.trans (S28.trans (S9 (o := .lst (((s.run c).filter fun x => decide (x ∉ lv)).map V.str))))) dr
    have B9 := B8.same (same_new (o := .lst (((s.run c).filter fun x => decide (x ∉ lv)).map V.str)) nD9)
    refine ⟨b, rv, c, A, s8, r, D9, (s.run c).filter fun x => decide (x ∉ lv), rfl, ⟨B9, ok8, dr8, by rw [lev, ll8, llM]⟩, by rw [offL_out o9, upd_same], fun x hx => ?_, fun G10 B10 S10 => ?_⟩
    · obtain ⟨x1, x2⟩ := List.mem_filter.mp hx
      exact (om8 x).mpr ⟨by rw [orM]; exact Bd.run_sub x x1, of_decide_eq_true x2⟩
    have sub9 : ∀ x ∈ (s.run c).filter (fun x => decide (x ∉ lv)), x ∈ s8.order := fun x hx => by
      obtain ⟨x1, x2⟩ := List.mem_filter.mp hx
      exact (om8 x).mpr ⟨by rw [orM]; exact Bd.run_sub x x1, of_decide_eq_true x2⟩
    obtain ⟨ok10, pm10, ll10⟩ := ok8.quantas (r := r) sub9
    have dr10 := dp_same S10 dr8
    have S210 := S2.trans (S28.trans (S9.trans S10))
    generalize ((s.run c).filter fun x => decide (x ∉ lv)).foldl (Bd.quanta1 r) s8 = sX at B10 ok10 ll10 hunits
    have l1 := ok.lines1
    obtain ⟨p, pl, pe, x0, y0, ys, erv, qp, _, ql, lxs, hxs, qe, ey⟩ := rule_level dr10 (i := 0) (by omega)
    subst ey
    refine ⟨_, rfl, b, CB, A.dx, _, _, rfl, B10.ob, T.cl, T.nR, bf_rule, p, _, _, _, erv, rfl, qp, rfl, ?_⟩
    cases hb : r.boost with
    | none =>
      refine ⟨_, rfl, rfl, _, rfl, ?_⟩
      refine iteF ?_
      refine iteF ?_
      rw [hb] at hunits
      exact k A _ (by rw [hunits]; exact B10) S210
    | some q =>
      have q0 := bq q hb
      rw [hb] at hunits
      refine ⟨_, rfl, rfl, _, rfl, ?_⟩
      refine iteT ?_
      refine ⟨_, rfl, b, CB, A.dx, _, _, rfl, B10.ob, T.cl, T.nN, bf_now, _, rfl, _, _, rfl, rfl, q0, rfl, _, rfl, ?_⟩
      have ed : decide (V.int (sX.now.fmod q) = V.int 0) = decide (sX.now.fmod q = 0) := by
        by_cases z : sX.now.fmod q = 0
        · rw [z]; rfl
        · rw [decide_eq_false z, decide_eq_false (fun e => z (V.int.inj e))]
      rw [ed]
      by_cases hm : sX.now.fmod q = 0
      · rw [decide_eq_true hm]
        refine iteT ?_
        refine ⟨_, rfl, b, A.dx, _, rfl, B10.ob, by kernel_rfl, b, rv, c, A, sX, r, rfl, ⟨B10, ok10, dr10, by rw [lev, ll10, ll8, llM]⟩, fun A' G11 B11 S11 => ?_⟩
        refine k A' _ ?_ (S210.trans S11)
        rw [hunits]
        show BdAt CB K G11 b rv c A' (if sX.now.fmod q = 0 then sX.lift else sX)
        rw [if_pos hm]
        exact B11
      · rw [decide_eq_false hm]
        refine iteF ?_
        refine k A _ ?_ S210
        rw [hunits]
        show BdAt CB K _ b rv c A (if sX.now.fmod q = 0 then sX.lift else sX)
        rw [if_neg hm]
        exact B10
end
end Vk
set_option maxHeartbeats 4000000
/-! a board keeps to what it kept to -/
namespace Vk
open PySem PySem.Spec PyProof.Rows L2
theorem Bd.leaves_same : ∀ (xs : List Str) (s : Bd), (xs.foldl Bd.leave s).now = s.now ∧ (xs.foldl Bd.leave s).fins = s.fins ∧ (xs.foldl Bd.leave s).ran = s.ran
  | [], s => ⟨rfl, rfl, rfl⟩
  | x :: xs, s => Bd.leaves_same xs (s.leave x)
theorem Bd.quanta_same {r : Rl} {s : Bd} {x : Str} : (s.quanta1 r x).now = s.now ∧ (s.quanta1 r x).fins = s.fins ∧ (s.quanta1 r x).ran = s.ran := by
  unfold Bd.quanta1
  split <;> exact ⟨rfl, rfl, rfl⟩
theorem Bd.quantas_same {r : Rl} : ∀ (xs : List Str) (s : Bd), (xs.foldl (Bd.quanta1 r) s).now = s.now ∧ (xs.foldl (Bd.quanta1 r) s).fins = s.fins ∧ (xs.foldl (Bd.quanta1 r) s).ran = s.ran
  | [], s => ⟨rfl, rfl, rfl⟩
  | x :: xs, s => by
    obtain ⟨h1, h2, h3⟩ := Bd.quantas_same (r := r) xs (s.quanta1 r x)
    obtain ⟨g1, g2, g3⟩ := Bd.quanta_same (r := r) (s := s) (x := x)
    exact ⟨h1.trans g1, h2.trans g2, h3.trans g3⟩
/-- who leaves -/
def Bd.lv (s : Bd) (c : Int) (fin : List Str) : List Str := (s.run c).filter fun x => decide (x ∈ fin)
structure Bd.After (s t : Bd) (c d : Int) (fin : List Str) : Prop where
  ok : t.Ok0
  now : t.now = s.now + d
  fins : t.fins = if s.lv c fin = [] then s.fins else s.fins ++ [(s.now + d, s.run c, s.lv c fin)]
  ran : t.ran.map (·.1) = s.ran.map (·.1)
  mem : ∀ y, y ∈ t.order ↔ y ∈ s.order ∧ y ∉ s.lv c fin
  len : t.lines.length = s.lines.length
theorem Bd.mid_after {s : Bd} (h : s.Ok0) (c d : Int) (fin : List Str) : (s.mid c d fin).Ok0 ∧ (s.mid c d fin).now = s.now + d ∧ (s.mid c d fin).fins = (if s.lv c fin = [] then s.fins else s.fins ++ [(s.now + d, s.run c, s.lv c fin)]) ∧
    (s.mid c d fin).ran.map (·.1) = s.ran.map (·.1) ∧ (s.mid c d fin).lines = s.lines := by
  obtain ⟨t1, t2, t3, t4, t5⟩ := Bd.ticks d (s.run c) { s with now := s.now + d }
  have ok := (h.at_ (s.now + d)).ticks d (s.run c)
  unfold Bd.mid Bd.lv
  generalize (s.run c).foldl (fun t x => t.tick1 d x) ({ s with now := s.now + d } : Bd) = sT at t1 t2 t3 t4 t5 ok ⊢
  by_cases e : (s.run c).filter (fun x => decide (x ∈ fin)) = []
  · rw [if_pos e, if_pos e]
    exact ⟨ok.at_ _, rfl, t2, t4, t1⟩
  · rw [if_neg e, if_neg e]
    exact ⟨(ok.at_ _).fin _, rfl, by show sT.fins ++ _ = _; rw [t2], t4, t1⟩
theorem Bd.units_after {r : Rl} {s : Bd} (h : s.Ok0) (c d : Int) (fin : List Str) : Bd.After s (s.endUnits r c d fin) c d fin := by
  obtain ⟨m1, m2, m3, m4, m5⟩ := Bd.mid_after h c d fin
  have lvs : (s.lv c fin).Sublist (s.run c) := List.filter_sublist
  have om : (s.mid c d fin).order = s.order := by unfold Bd.order; rw [m5]
  have subL : ∀ x ∈ s.lv c fin, x ∈ (s.mid c d fin).order := fun x hx => by rw [om]; exact Bd.run_sub x (lvs.subset hx)
  obtain ⟨l1, l2, l3⟩ := m1.leaves ((Bd.run_nd h).sublist lvs) subL
  obtain ⟨s1, s2, s3⟩ := Bd.leaves_same (s.lv c fin) (s.mid c d fin)
  have sub9 : ∀ x ∈ (s.run c).filter (fun x => decide (x ∉ s.lv c fin)), x ∈ ((s.lv c fin).foldl Bd.leave (s.mid c d fin)).order := fun x hx => by
    obtain ⟨x1, x2⟩ := List.mem_filter.mp hx
    exact (l2 x).mpr ⟨by rw [om]; exact Bd.run_sub x x1, of_decide_eq_true x2⟩
  obtain ⟨q1, q2, q3⟩ := l1.quantas (r := r) sub9
  obtain ⟨u1, u2, u3⟩ := Bd.quantas_same (r := r) ((s.run c).filter fun x => decide (x ∉ s.lv c fin)) ((s.lv c fin).foldl Bd.leave (s.mid c d fin))
  have base : Bd.After s (((s.run c).filter fun x => decide (x ∉ s.lv c fin)).foldl (Bd.quanta1 r) ((s.lv c fin).foldl Bd.leave (s.mid c d fin))) c d fin :=
    ⟨q1, by rw [u1, s1, m2], by rw [u2, s2, m3], by rw [u3, s3, m4], fun y => by rw [q2.mem_iff, l2 y, om], by rw [q3, l3, m5]⟩
  show Bd.After s (match r.boost with
    | some q => if (((s.run c).filter fun x => decide (x ∉ s.lv c fin)).foldl (Bd.quanta1 r) ((s.lv c fin).foldl Bd.leave (s.mid c d fin))).now.fmod q = 0 then Bd.lift (((s.run c).filter fun x => decide (x ∉ s.lv c fin)).foldl (Bd.quanta1 r) ((s.lv c fin).foldl Bd.leave (s.mid c d fin))) else ((s.run c).filter fun x => decide (x ∉ s.lv c fin)).foldl (Bd.quanta1 r) ((s.lv c fin).foldl Bd.leave (s.mid c d fin))
    | none => ((s.run c).filter fun x => decide (x ∉ s.lv c fin)).foldl (Bd.quanta1 r) ((s.lv c fin).foldl Bd.leave (s.mid c d fin))) c d fin
  generalize ((s.run c).filter fun x => decide (x ∉ s.lv c fin)).foldl (Bd.quanta1 r) ((s.lv c fin).foldl Bd.leave (s.mid c d fin)) = t at base ⊢
  cases r.boost with
  | none => exact base
  | some q =>
    show Bd.After s (if t.now.fmod q = 0 then t.lift else t) c d fin
    split
    · refine ⟨base.ok.lift, base.now, base.fins, base.ran, fun y => by rw [Bd.lift_order]; exact base.mem y, ?_⟩
      rw [← base.len]
      show (t.order :: List.replicate (t.lines.length - 1) []).length = _
      have := base.ok.lines1
      rw [List.length_cons, List.length_replicate]
      omega
    · exact base
theorem Bd.Ok.units {r : Rl} {s : Bd} (h : s.Ok) (c d : Int) (fin : List Str) (small : s.fins.length < 100000) : (s.endUnits r c d fin).Ok := by
  have a := Bd.units_after (r := r) h.toOk0 c d fin
  have lvs : (s.lv c fin).Sublist (s.run c) := List.filter_sublist
  have lo : ∀ x ∈ s.lv c fin, x ∈ s.order := fun x hx => Bd.run_sub x (lvs.subset hx)
  by_cases e : s.lv c fin = []
  · have ef := a.fins
    rw [if_pos e] at ef
    exact { a.ok with
      flen := by rw [ef]; exact h.flen
      fst := fun f hf => by
        rw [ef] at hf
        obtain ⟨x1, x2, x3⟩ := h.fst f hf
        exact ⟨x1, x2, fun x hx => by rw [a.ran]; exact x3 x hx⟩
      ndf := by rw [ef]; exact h.ndf
      gone := fun x hx m => by
        rw [ef] at hx
        exact h.gone x hx ((a.mem x).mp m).1 }
  · have ef := a.fins
    rw [if_neg e] at ef
    have fl : (s.endUnits r c d fin).fins.flatMap (fun f => f.2.2) = s.fins.flatMap (fun f => f.2.2) ++ s.lv c fin := by
      rw [ef, List.flatMap_append]
      simp
    exact { a.ok with
      flen := by
        rw [ef, List.length_append]
        show s.fins.length + 1 ≤ 100000
        omega
      fst := fun f hf => by
        rw [ef] at hf
        rcases List.mem_append.mp hf with hf | hf
        · obtain ⟨x1, x2, x3⟩ := h.fst f hf
          exact ⟨x1, x2, fun x hx => by rw [a.ran]; exact x3 x hx⟩
        · rw [List.mem_singleton.mp hf]
          refine ⟨Bd.run_le h.toOk0, Nat.le_trans lvs.length_le (Bd.run_le h.toOk0), fun x hx => ?_⟩
          rw [a.ran]
          exact h.sub x (lo x hx)
      ndf := by
        rw [fl]
        exact List.nodup_append.mpr ⟨h.ndf, (Bd.run_nd h.toOk0).sublist lvs, fun x hx y hy z => h.gone x hx (by rw [z]; exact lo y hy)⟩
      gone := fun x hx m => by
        rw [fl] at hx
        obtain ⟨m1, m2⟩ := (a.mem x).mp m
        rcases List.mem_append.mp hx with hx | hx
        · exact h.gone x hx m1
        · exact m2 hx }
theorem Bd.enter_order {r : Rl} {s : Bd} (h : s.Ok0) (x : Str) (e : Nat) : (s.enter r x e).order.Perm (x :: s.order) := by
  have l1 := h.lines1
  have lt : min e (s.lines.length - 1) < s.lines.length := by omega
  have hh := List.getElem?_eq_getElem lt
  show ((s.lines.set _ _).flatten).Perm (x :: s.lines.flatten)
  refine flat_add hh ?_
  rw [getD_at hh]
  split
  · exact List.Perm.refl _
  · exact List.perm_append_singleton _ _
theorem Bd.Ok.enter {r : Rl} {s : Bd} (h : s.Ok) {x : Str} {e : Nat} (nx : x ∉ s.ran.map (·.1)) (small : s.ran.length < 1000) : (s.enter r x e).Ok := by
  have p := Bd.enter_order (r := r) h.toOk0 x e
  have no : x ∉ s.order := fun m => nx (h.sub x m)
  have nu : x ∉ s.used.map (·.1) := fun m => no ((h.here x).mp m)
  have ll : (s.enter r x e).lines.length = s.lines.length := List.length_set
  have kr : (s.enter r x e).ran.map (·.1) = s.ran.map (·.1) ++ [x] := by
    show (s.ran ++ [(x, (0 : Int))]).map (·.1) = _
    rw [List.map_append]
    rfl
  have ku : (s.enter r x e).used.map (·.1) = s.used.map (·.1) ++ [x] := by
    show (s.used ++ [(x, (0 : Int))]).map (·.1) = _
    rw [List.map_append]
    rfl
  have nda : ∀ {l : List Str}, l.Nodup → x ∉ l → (l ++ [x]).Nodup := fun {l} n m => List.nodup_append.mpr ⟨n, by simp, fun a ha b hb z => m (by rw [List.mem_singleton.mp hb] at z; rw [← z]; exact ha)⟩
  exact {
    small := by
      show (s.ran ++ [(x, (0 : Int))]).length ≤ 1000
      rw [List.length_append]
      show s.ran.length + 1 ≤ 1000
      omega
    ndr := by rw [kr]; exact nda h.ndr nx
    ndu := by rw [ku]; exact nda h.ndu nu
    ndo := p.nodup_iff.mpr (List.nodup_cons.mpr ⟨no, h.ndo⟩)
    sub := fun y hy => by
      rw [kr, List.mem_append]
      rcases List.mem_cons.mp (p.mem_iff.mp hy) with e | m
      · exact .inr (by rw [e]; simp)
      · exact .inl (h.sub y m)
    here := fun y => by
      rw [ku, List.mem_append, h.here y, p.mem_iff, List.mem_singleton, List.mem_cons]
      exact Or.comm
    lines1 := by rw [ll]; exact h.lines1
    lines6 := by rw [ll]; exact h.lines6
    flen := h.flen
    fst := fun f hf => by
      obtain ⟨x1, x2, x3⟩ := h.fst f hf
      exact ⟨x1, x2, fun y hy => by rw [kr]; exact List.mem_append_left _ (x3 y hy)⟩
    ndf := h.ndf
    gone := fun y hy m => by
      rcases List.mem_cons.mp (p.mem_iff.mp m) with z | m
      · obtain ⟨f, hf, hy⟩ := List.mem_flatMap.mp hy
        exact nx (by rw [← z]; exact (h.fst f hf).2.2 y hy)
      · exact h.gone y hy m }
theorem Bd.Ok.new {r : Rl} (l1 : 1 ≤ r.levels.length) (l6 : r.levels.length ≤ 6) : (⟨0, List.replicate r.levels.length [], [], [], []⟩ : Bd).Ok := by
  have eo : (⟨0, List.replicate r.levels.length [], [], [], []⟩ : Bd).order = [] := by
    show (List.replicate r.levels.length ([] : List Str)).flatten = []
    simp
  exact {
    small := Nat.zero_le _
    ndr := List.nodup_nil
    ndu := List.nodup_nil
    ndo := by rw [eo]; exact List.nodup_nil
    sub := fun y hy => by rw [eo] at hy; cases hy
    here := fun y => by rw [eo]; exact ⟨fun h => (nomatch h), fun h => (nomatch h)⟩
    lines1 := by rw [List.length_replicate]; exact l1
    lines6 := by rw [List.length_replicate]; exact l6
    flen := Nat.zero_le _
    fst := fun f hf => (nomatch hf)
    ndf := List.nodup_nil
    gone := fun y hy => (nomatch hy) }
end Vk
set_option maxHeartbeats 4000000
/-! the law's line and the board, as mathematics -/
namespace Vk
open PySem PySem.Spec PyProof.Rows L2
theorem getS_cons {p : Str × Int} {l : List (Str × Int)} {y : Str} : getS (p :: l) y = if y = p.1 then p.2 else getS l y := by
  unfold getS
  obtain ⟨a, b⟩ := p
  rw [List.lookup_cons]
  by_cases e : y = a
  · rw [if_pos e, show (y == a) = true from beq_iff_eq.mpr e]
    rfl
  · rw [if_neg e, show (y == a) = false from beq_eq_false_iff_ne.mpr e]
theorem getS_addS {x y : Str} {d : Int} : ∀ {l : List (Str × Int)}, y ∈ l.map (·.1) → getS (addS l x d) y = getS l y + if y = x then d else 0
  | [], h => by simp at h
  | p :: l, h => by
    have e0 : addS (p :: l) x d = (if p.1 = x then (p.1, p.2 + d) else p) :: addS l x d := rfl
    rw [e0, getS_cons, getS_cons]
    have e1 : (if p.1 = x then (p.1, p.2 + d) else p).1 = p.1 := by split <;> rfl
    rw [e1]
    by_cases e : y = p.1
    · rw [if_pos e, if_pos e]
      by_cases z : p.1 = x
      · rw [if_pos z, if_pos (e.trans z)]
      · rw [if_neg z, if_neg (fun w => z (e ▸ w)), Int.add_zero]
    · rw [if_neg e, if_neg e]
      rw [List.map_cons] at h
      exact getS_addS ((List.mem_cons.mp h).resolve_left e)
theorem getS_putS {x y : Str} {v : Int} : ∀ {l : List (Str × Int)}, y ∈ l.map (·.1) → getS (putS l x v) y = if y = x then v else getS l y
  | [], h => by simp at h
  | p :: l, h => by
    have e0 : putS (p :: l) x v = (if p.1 = x then (p.1, v) else p) :: putS l x v := rfl
    rw [e0, getS_cons, getS_cons]
    have e1 : (if p.1 = x then (p.1, v) else p).1 = p.1 := by split <;> rfl
    rw [e1]
    by_cases e : y = p.1
    · rw [if_pos e, if_pos e]
      by_cases z : p.1 = x
      · rw [if_pos z, if_pos (e.trans z)]
      · rw [if_neg z, if_neg (fun w => z (e ▸ w))]
    · rw [if_neg e, if_neg e]
      rw [List.map_cons] at h
      exact getS_putS ((List.mem_cons.mp h).resolve_left e)
theorem getS_dropS {x y : Str} (h : y ≠ x) : ∀ {l : List (Str × Int)}, getS (dropS l x) y = getS l y
  | [] => rfl
  | p :: l => by
    have ih := getS_dropS h (l := l)
    unfold dropS at ih ⊢
    by_cases z : p.1 = x
    · rw [List.filter_cons_of_neg (by simpa using z), ih, getS_cons, if_neg (fun e => h (e.trans z))]
    · rw [List.filter_cons_of_pos (by simpa using z), getS_cons, getS_cons, ih]
theorem getS_zero {y : Str} : ∀ {l : List (Str × Int)}, getS (l.map fun p => (p.1, (0 : Int))) y = 0
  | [] => rfl
  | p :: l => by
    rw [List.map_cons, getS_cons, getS_zero]
    split <;> rfl
theorem getS_app {x y : Str} {v : Int} : ∀ {l : List (Str × Int)}, y ∈ l.map (·.1) → getS (l ++ [(x, v)]) y = getS l y
  | [], h => by simp at h
  | p :: l, h => by
    rw [List.cons_append, getS_cons, getS_cons]
    by_cases e : y = p.1
    · rw [if_pos e, if_pos e]
    · rw [if_neg e, if_neg e]
      rw [List.map_cons] at h
      exact getS_app ((List.mem_cons.mp h).resolve_left e)
theorem getS_app_new {x : Str} {v : Int} : ∀ {l : List (Str × Int)}, x ∉ l.map (·.1) → getS (l ++ [(x, v)]) x = v
  | [], _ => by
    rw [List.nil_append, getS_cons, if_pos rfl]
  | p :: l, h => by
    rw [List.map_cons] at h
    rw [List.cons_append, getS_cons, if_neg (fun e => h (List.mem_cons.mpr (.inl e)))]
    exact getS_app_new fun m => h (List.mem_cons_of_mem _ m)
/-- the units of a step -/
theorem ticks_vals {d : Int} : ∀ {xs : List Str} {s : Bd}, xs.Nodup → (∀ y ∈ s.ran.map (·.1), getS (xs.foldl (fun t x => t.tick1 d x) s).ran y = getS s.ran y + if y ∈ xs then d else 0) ∧ (∀ y ∈ s.used.map (·.1), getS (xs.foldl (fun t x => t.tick1 d x) s).used y = getS s.used y + if y ∈ xs then d else 0)
  | [], s, _ => ⟨fun y _ => by simp, fun y _ => by simp⟩
  | x :: xs, s, nd => by
    obtain ⟨n1, n2⟩ := List.nodup_cons.mp nd
    obtain ⟨a, b⟩ := ticks_vals (d := d) (xs := xs) (s := s.tick1 d x) n2
    have k1 : (s.tick1 d x).ran.map (·.1) = s.ran.map (·.1) := addS_keys _ _ _
    have k2 : (s.tick1 d x).used.map (·.1) = s.used.map (·.1) := addS_keys _ _ _
    have fin : ∀ (g : Int) (y : Str), g + (if y = x then d else 0) + (if y ∈ xs then d else 0) = g + if y ∈ x :: xs then d else 0 := fun g y => by
      by_cases e : y = x
      · subst e
        rw [if_pos rfl, if_neg n1, if_pos (List.mem_cons_self ..), Int.add_zero]
      · rw [if_neg e, Int.add_zero]
        by_cases m : y ∈ xs
        · rw [if_pos m, if_pos (List.mem_cons_of_mem _ m)]
        · rw [if_neg m, if_neg (fun z => (List.mem_cons.mp z).elim e m)]
    refine ⟨fun y hy => ?_, fun y hy => ?_⟩
    · show getS (xs.foldl (fun t x => t.tick1 d x) (s.tick1 d x)).ran y = _
      rw [a y (by rw [k1]; exact hy), show (s.tick1 d x).ran = addS s.ran x d from rfl, getS_addS hy, fin]
    · show getS (xs.foldl (fun t x => t.tick1 d x) (s.tick1 d x)).used y = _
      rw [b y (by rw [k2]; exact hy), show (s.tick1 d x).used = addS s.used x d from rfl, getS_addS hy, fin]
theorem mid_vals {s : Bd} (ok : s.Ok0) {c d : Int} {fin : List Str} : (∀ y ∈ s.ran.map (·.1), getS (s.mid c d fin).ran y = getS s.ran y + if y ∈ s.run c then d else 0) ∧ (∀ y ∈ s.used.map (·.1), getS (s.mid c d fin).used y = getS s.used y + if y ∈ s.run c then d else 0) ∧ (s.mid c d fin).used.map (·.1) = s.used.map (·.1) := by
  obtain ⟨a, b⟩ := ticks_vals (d := d) (xs := s.run c) (s := { s with now := s.now + d }) (Bd.run_nd ok)
  obtain ⟨_, _, _, _, t5⟩ := Bd.ticks d (s.run c) { s with now := s.now + d }
  unfold Bd.mid
  generalize (s.run c).foldl (fun t x => t.tick1 d x) ({ s with now := s.now + d } : Bd) = sT at a b t5 ⊢
  by_cases e : (s.run c).filter (fun x => decide (x ∈ fin)) = []
  · rw [if_pos e]
    exact ⟨a, b, t5⟩
  · rw [if_neg e]
    exact ⟨a, b, t5⟩
theorem units_ran {r : Rl} {s : Bd} {c d : Int} {fin : List Str} : (s.endUnits r c d fin).ran = (s.mid c d fin).ran := by
  obtain ⟨_, _, n1⟩ := Bd.leaves_same (s.lv c fin) (s.mid c d fin)
  obtain ⟨_, _, n2⟩ := Bd.quantas_same (r := r) ((s.run c).filter fun x => decide (x ∉ s.lv c fin)) ((s.lv c fin).foldl Bd.leave (s.mid c d fin))
  show Bd.ran (match r.boost with
    | some q' => if (((s.run c).filter fun x => decide (x ∉ s.lv c fin)).foldl (Bd.quanta1 r) ((s.lv c fin).foldl Bd.leave (s.mid c d fin))).now.fmod q' = 0 then Bd.lift (((s.run c).filter fun x => decide (x ∉ s.lv c fin)).foldl (Bd.quanta1 r) ((s.lv c fin).foldl Bd.leave (s.mid c d fin))) else ((s.run c).filter fun x => decide (x ∉ s.lv c fin)).foldl (Bd.quanta1 r) ((s.lv c fin).foldl Bd.leave (s.mid c d fin))
    | none => ((s.run c).filter fun x => decide (x ∉ s.lv c fin)).foldl (Bd.quanta1 r) ((s.lv c fin).foldl Bd.leave (s.mid c d fin))) = _
  have e := n2.trans n1
  generalize ((s.run c).filter fun x => decide (x ∉ s.lv c fin)).foldl (Bd.quanta1 r) ((s.lv c fin).foldl Bd.leave (s.mid c d fin)) = T at e ⊢
  cases r.boost with
  | none => exact e
  | some q =>
    show Bd.ran (if T.now.fmod q = 0 then T.lift else T) = _
    split
    · exact e
    · exact e
theorem flat_units {r : Rl} {s : Bd} (ok : s.Ok0) {c d : Int} {fin : List Str} : (s.endUnits r c d fin).fins.flatMap (fun f => f.2.2) = s.fins.flatMap (fun f => f.2.2) ++ s.lv c fin := by
  have a := (Bd.units_after (r := r) ok c d fin).fins
  by_cases e : s.lv c fin = []
  · rw [if_pos e] at a
    rw [a, e, List.append_nil]
  · rw [if_neg e] at a
    rw [a, List.flatMap_append]
    simp
end Vk
set_option maxHeartbeats 8000000
/-! what a board is asked: its log, its lengths -/
namespace Vk
open PySem PySem.Spec PyProof.Rows L2
theorem dp_threeB {K : PySem.W.Frag} {H : Hp} {v : V} {a b c : PyData} (h : Dp K H v (.tuple [a, b, c])) : ∃ p x y z, v = .ref p ∧ SqT K H p [x, y, z] ∧ Dp K H x a ∧ Dp K H y b ∧ Dp K H z c := by
  obtain ⟨p, xs, rfl, q, r⟩ := dp_tuple h
  obtain _ | ⟨h1, r⟩ := r
  obtain _ | ⟨h2, r⟩ := r
  obtain _ | ⟨h3, r⟩ := r
  cases r
  exact ⟨p, _, _, _, rfl, q, h1, h2, h3⟩
theorem strs_dps {K : PySem.W.Frag} {H : Hp} : ∀ {vs : List V} {l : List Str}, DpAll K H vs (l.map PyData.str) → vs = l.map V.str
  | _, [], h => by
    cases h
    rfl
  | _, x :: r, h => by
    obtain _ | ⟨h1, h2⟩ := h
    rw [strs_dps h2, dp_str h1]
    rfl
def logD (s : Bd) : List PyData := s.fins.map fun f => .tuple [.int f.1, .int (f.2.2.length : Nat)]
def lensS (s : Bd) : List (Str × Int) := (s.fins.flatMap fun f => f.2.2).map fun x => (x, getS s.ran x)
def rLenQ (K : PySem.W.Frag) : List V → Hp → VK → Prop := fun xs H Q => ∃ p ys, xs = [.ref p] ∧ (SqL K H p ys ∨ SqT K H p ys) ∧ Q (.int ys.length) H
section
variable {P : Program} {w : World} {K : PySem.W.Frag} {mg : Str → Option Value} {base : Heap} {CB : Addr}
def spLogB (K : PySem.W.Frag) (CB : Addr) : Sp := fun vs H Q _ => ∃ (b : Addr) (rv : V) (c : Int) (A : BdA) (s : Bd), vs = [.ref b] ∧ BdAt CB K H b rv c A s ∧ s.Ok ∧ ∀ (t : Addr) (H' : Hp), Same H H' → Dp K H' (.ref t) (.tuple (logD s)) → Q (.ref t) H'
theorem scLogB : FnScope ["self", "unit", "_", "leaving"] ["self"] (defScope sBdLog) := ⟨rfl, rfl, rfl, by decide +kernel, rfl, by decide +kernel, by decide +kernel⟩
def spLens (K : PySem.W.Frag) (CB : Addr) : Sp := fun vs H Q _ => ∃ (b : Addr) (rv : V) (c : Int) (A : BdA) (s : Bd), vs = [.ref b] ∧ BdAt CB K H b rv c A s ∧ s.Ok ∧ ∀ (t : Addr) (H' : Hp), H t = none → Same H H' → H' t = some (.dK (kvS (lensS s))) → Q (.ref t) H'
theorem scLens : FnScope ["self", "_", "leaving", "name"] ["self"] (defScope sBdLengths) := ⟨rfl, rfl, rfl, by decide +kernel, rfl, by decide +kernel, by decide +kernel⟩
end
end Vk
set_option maxHeartbeats 8000000
/-! a new board, a copy -/
namespace Vk
open PySem PySem.Spec PyProof.Rows L2
def Bd.new (r : Rl) : Bd := ⟨0, List.replicate r.levels.length [], [], [], []⟩
theorem offL_one {x : Addr} {H : Hp} : OffL [x] H = Off x H := by
  funext z
  by_cases e : z = x
  · rw [e, off_same, offL_in (by simp)]
  · rw [off_ne e, offL_out (by simpa using e)]
/-- what is kept while the board at x is made -/
structure Grow (x : Addr) (H G : Hp) : Prop where
  up : ∀ z, H z ≠ none → G z ≠ none
  sm : ∀ ft : List Addr, x ∈ ft → Same (OffL ft H) (OffL ft G)
theorem Grow.at {x : Addr} {H G : Hp} (g : Grow x H G) {z : Addr} {o : HO} (n : z ≠ x) (h : H z = some o) (nt : NoTbl o := by exact True.intro) : G z = some o := by
  have y := (g.sm [x] (by simp)).at_ z o (by rw [offL_out (by simpa using n)]; exact h) nt
  exact (offL_some y).2
theorem Grow.put {x : Addr} {H G : Hp} (g : Grow x H G) {o : HO} : Grow x H (upd G x o) := ⟨fun z h => by
  by_cases e : z = x
  · rw [e, upd_same]; simp
  · rw [upd_ne e]; exact g.up z h, fun ft m => by rw [offL_upd m]; exact g.sm ft m⟩
theorem Grow.same {x : Addr} {H G G' : Hp} (g : Grow x H G) (s : Same G G') : Grow x H G' := ⟨fun z h => s.has z (g.up z h), fun ft m => (g.sm ft m).trans (offL_mono s)⟩
theorem Grow.free0 {x : Addr} {H G : Hp} (g : Grow x H G) {z : Addr} (h : G z = none) : H z = none := by
  by_cases e : H z = none
  · exact e
  · exact absurd h (g.up z e)
theorem Grow.refl {x : Addr} {H : Hp} : Grow x H H := ⟨fun _ h => h, fun _ _ => Same.refl _⟩
section
variable {P : Program} {w : World} {K : PySem.W.Frag} {mg : Str → Option Value} {base : Heap} {CB : Addr}
def spBInit (K : PySem.W.Frag) (CB : Addr) : Sp := fun vs H Q _ => ∃ (x dx : Addr) (rv : V) (c : Int) (r : Rl), vs = [.ref x, rv, .int c] ∧ H x = some (.ins CB dx []) ∧ Dp K (Off x H) rv (bRulD r) ∧ 1 ≤ r.levels.length ∧ r.levels.length ≤ 6 ∧
  ∀ (A : BdA) (H' : Hp), A.dx = dx → BdAt CB K H' x rv c A (Bd.new r) → (∀ z ∈ ftB x A, z = x ∨ H z = none) → Same (Off x H) (OffL (ftB x A) H') → Q .non H'
theorem scBInit : FnScope ["self", "rule", "processors", "_"] ["self", "rule", "processors"] (defScope sBdInit) := ⟨rfl, rfl, rfl, by decide +kernel, rfl, by decide +kernel, by decide +kernel⟩
theorem ok_binit {fI : Addr} {fd : FuncData} (F : Fun K "__init__" "Board.__init__" sBdInit fI fd) (T : BdC K CB) : FnOk P w K mg base CX0 1 fI fd ["self", "rule", "processors"] (spBInit K CB) := by
  refine F.ok scBInit (fun vs H Q E h => ?_) (fun cdv Ar outer s0 H vs Q E hr h => ?_)
  · obtain ⟨x, dx, rv, c, r, rfl, _⟩ := h
    rfl
  · obtain ⟨x, dx, rv, c, r, rfl, hx, hd, l1, l6, k⟩ := h
    refine ⟨_, pss_cons (ps_fld (pv 0) (pv 1) rfl) (pss_cons (ps_fld (pv 0) (pv 2) rfl) (pss_cons (ps_fld (pv 0) pe_int rfl)
      (pss_cons (ps_fld (pv 0) (pe_lc (own := [("_", 3)]) (g := gName 3) (tt := tYes) (te := tLst tNil) (by rfl) scBInit.nd (pi_tup (pe_ix ix_tup (pv 1) pe_int (fun _ _ => rfl)))
          (blkOk_by (own := [("_", 3)]) (N := ["self", "rule", "processors", "_"]) (sc := defScope sBdInit) (by decide +kernel)) (fun _ _ _ _ _ => pg_name (i := 3) scBInit.nd rfl (Or.inl rfl)) (fun _ _ _ _ _ => pts_nil) (fun _ _ _ _ _ => pe_lst pa_nil)) rfl)
      (pss_cons (ps_fld (pv 0) pe_dnewK rfl) (pss_cons (ps_fld (pv 0) pe_dnewK rfl) (pss_one (ps_fld (pv 0) (pe_lst pa_nil) rfl))))))), ?_⟩
    refine ⟨_, rfl, _, rfl, x, CB, dx, _, rfl, hx, T.cl, T.nR, by show 0 < 1000; decide, ?_⟩
    refine ⟨_, rfl, _, rfl, x, CB, dx, _, rfl, upd_same, T.cl, T.nP, by show 1 < 1000; decide, ?_⟩
    refine ⟨_, rfl, x, CB, dx, _, rfl, upd_same, T.cl, T.nN, by show 2 < 1000; decide, ?_⟩
    rw [upd_upd, upd_upd]
    have g3 : Grow x H (upd H x (.ins CB dx (putF "now" (.int 0) (putF "processors" (.int c) (putF "rule" rv []))))) := Grow.refl.put
    have hx3 : upd H x (.ins CB dx (putF "now" (.int 0) (putF "processors" (.int c) (putF "rule" rv [])))) x = some (.ins CB dx (putF "now" (.int 0) (putF "processors" (.int c) (putF "rule" rv [])))) := upd_same
    have hd3 : Dp K (upd H x (.ins CB dx (putF "now" (.int 0) (putF "processors" (.int c) (putF "rule" rv []))))) rv (bRulD r) := by
      have y := dp_same (off_sub x (upd H x (.ins CB dx (putF "now" (.int 0) (putF "processors" (.int c) (putF "rule" rv [])))))) (v := rv) (d := bRulD r) (by rw [off_upd]; exact hd)
      exact y
    generalize upd H x (.ins CB dx (putF "now" (.int 0) (putF "processors" (.int c) (putF "rule" rv [])))) = H3 at g3 hx3 hd3 ⊢
    obtain ⟨p, x0, y0, erv, q, dx0, dy0⟩ := dp_two hd3
    obtain ⟨pl, xs, rfl, ql, rl⟩ := dp_tuple dx0
    have lxs := dps_len rl
    rw [List.length_map] at lxs
    refine ⟨_, rfl, p, _, _, _, erv, rfl, q, rfl, pl, rfl, ⟨_, ql⟩, fun D2 nD2 => ?_⟩
    refine lc_it (walk_tup (K := K) (a := pl) (xs := xs)) (fun i Hc => Fresh H3 D2 i Hc) (Fresh.zero nD2) (fun i Hc _ ⟨_, _, _, _, _, sc⟩ => same_seqT (sc.trans (off_sub D2 Hc)) ql) ?_ ?_
    · rintro i y Hc0 Hc hi fr ⟨rfl, hy⟩
      refine ⟨rfl, Nat.zero_le _, fun L nL => ?_⟩
      obtain ⟨acc, a1, a2, a3⟩ := fr.next nD2 nL
      refine ⟨acc, a1, ?_, a3⟩
      rw [a2]
      exact Nat.lt_of_lt_of_le (show i < 1000 by omega) (by decide)
    · rintro HC ⟨ls, c1, c2, c3, c4, c5⟩
      have sC := c5.trans (off_sub D2 HC)
      have gC := g3.same sC
      have hxC := sC.at hx3
      have D2x : D2 ≠ x := fun e => by rw [e, hx3] at nD2; cases nD2
      have lx : ∀ l ∈ ls, l ≠ x := fun l hl e => by
        have z := (c3 l hl).2.1
        rw [e, hx3] at z
        cases z
      have nD : H D2 = none := g3.free0 nD2
      have nl : ∀ l ∈ ls, H l = none := fun l hl => g3.free0 (c3 l hl).2.1
      refine ⟨_, rfl, x, CB, dx, _, rfl, hxC, T.cl, T.nL, by show 3 < 1000; decide, ?_⟩
      have g4 := gC.put (o := .ins CB dx (putF "lines" (.ref D2) (putF "now" (.int 0) (putF "processors" (.int c) (putF "rule" rv [])))))
      have d4 : upd HC x (.ins CB dx (putF "lines" (.ref D2) (putF "now" (.int 0) (putF "processors" (.int c) (putF "rule" rv []))))) D2 = some (.lst (ls.map V.ref)) := by rw [upd_ne D2x]; exact c2
      have f4 : ∀ l ∈ ls, upd HC x (.ins CB dx (putF "lines" (.ref D2) (putF "now" (.int 0) (putF "processors" (.int c) (putF "rule" rv []))))) l = some (.lst []) := fun l hl => by rw [upd_ne (lx l hl)]; exact (c3 l hl).1
      have x4 : upd HC x (.ins CB dx (putF "lines" (.ref D2) (putF "now" (.int 0) (putF "processors" (.int c) (putF "rule" rv []))))) x = some (.ins CB dx (putF "lines" (.ref D2) (putF "now" (.int 0) (putF "processors" (.int c) (putF "rule" rv []))))) := upd_same
      generalize upd HC x (.ins CB dx (putF "lines" (.ref D2) (putF "now" (.int 0) (putF "processors" (.int c) (putF "rule" rv []))))) = H4 at g4 d4 f4 x4 ⊢
      refine fun u nu => ?_
      have s5 := same_new (o := .dK []) nu
      have ux : u ≠ x := fun e => by rw [e, x4] at nu; cases nu
      refine ⟨_, rfl, x, CB, dx, _, rfl, s5.at x4, T.cl, T.nU, by show 4 < 1000; decide, ?_⟩
      have g5 := (g4.same s5).put (o := .ins CB dx (putF "used" (.ref u) (putF "lines" (.ref D2) (putF "now" (.int 0) (putF "processors" (.int c) (putF "rule" rv []))))))
      have nu0 := g4.free0 nu
      have u5 : upd (upd H4 u (.dK [])) x (.ins CB dx (putF "used" (.ref u) (putF "lines" (.ref D2) (putF "now" (.int 0) (putF "processors" (.int c) (putF "rule" rv [])))))) u = some (.dK []) := by rw [upd_ne ux, upd_same]
      have d5 : upd (upd H4 u (.dK [])) x (.ins CB dx (putF "used" (.ref u) (putF "lines" (.ref D2) (putF "now" (.int 0) (putF "processors" (.int c) (putF "rule" rv [])))))) D2 = some (.lst (ls.map V.ref)) := by rw [upd_ne D2x]; exact s5.at d4
      have f5 : ∀ l ∈ ls, upd (upd H4 u (.dK [])) x (.ins CB dx (putF "used" (.ref u) (putF "lines" (.ref D2) (putF "now" (.int 0) (putF "processors" (.int c) (putF "rule" rv [])))))) l = some (.lst []) := fun l hl => by rw [upd_ne (lx l hl)]; exact s5.at (f4 l hl)
      have x5 : upd (upd H4 u (.dK [])) x (.ins CB dx (putF "used" (.ref u) (putF "lines" (.ref D2) (putF "now" (.int 0) (putF "processors" (.int c) (putF "rule" rv [])))))) x = some (.ins CB dx (putF "used" (.ref u) (putF "lines" (.ref D2) (putF "now" (.int 0) (putF "processors" (.int c) (putF "rule" rv [])))))) := upd_same
      generalize upd (upd H4 u (.dK [])) x (.ins CB dx (putF "used" (.ref u) (putF "lines" (.ref D2) (putF "now" (.int 0) (putF "processors" (.int c) (putF "rule" rv [])))))) = H5 at g5 u5 d5 f5 x5 ⊢
      refine fun n nn => ?_
      have s6 := same_new (o := .dK []) nn
      have nx : n ≠ x := fun e => by rw [e, x5] at nn; cases nn
      have nu' : u ≠ n := fun e => by rw [← e, u5] at nn; cases nn
      refine ⟨_, rfl, x, CB, dx, _, rfl, s6.at x5, T.cl, T.nA, by show 5 < 1000; decide, ?_⟩
      have g6 := (g5.same s6).put (o := .ins CB dx (putF "ran" (.ref n) (putF "used" (.ref u) (putF "lines" (.ref D2) (putF "now" (.int 0) (putF "processors" (.int c) (putF "rule" rv [])))))))
      have nn0 := g5.free0 nn
      have n6 : upd (upd H5 n (.dK [])) x (.ins CB dx (putF "ran" (.ref n) (putF "used" (.ref u) (putF "lines" (.ref D2) (putF "now" (.int 0) (putF "processors" (.int c) (putF "rule" rv []))))))) n = some (.dK []) := by rw [upd_ne nx, upd_same]
      have u6 : upd (upd H5 n (.dK [])) x (.ins CB dx (putF "ran" (.ref n) (putF "used" (.ref u) (putF "lines" (.ref D2) (putF "now" (.int 0) (putF "processors" (.int c) (putF "rule" rv []))))))) u = some (.dK []) := by rw [upd_ne ux]; exact s6.at u5
      have d6 : upd (upd H5 n (.dK [])) x (.ins CB dx (putF "ran" (.ref n) (putF "used" (.ref u) (putF "lines" (.ref D2) (putF "now" (.int 0) (putF "processors" (.int c) (putF "rule" rv []))))))) D2 = some (.lst (ls.map V.ref)) := by rw [upd_ne D2x]; exact s6.at d5
      have f6 : ∀ l ∈ ls, upd (upd H5 n (.dK [])) x (.ins CB dx (putF "ran" (.ref n) (putF "used" (.ref u) (putF "lines" (.ref D2) (putF "now" (.int 0) (putF "processors" (.int c) (putF "rule" rv []))))))) l = some (.lst []) := fun l hl => by rw [upd_ne (lx l hl)]; exact s6.at (f5 l hl)
      have x6 : upd (upd H5 n (.dK [])) x (.ins CB dx (putF "ran" (.ref n) (putF "used" (.ref u) (putF "lines" (.ref D2) (putF "now" (.int 0) (putF "processors" (.int c) (putF "rule" rv []))))))) x = some (.ins CB dx (putF "ran" (.ref n) (putF "used" (.ref u) (putF "lines" (.ref D2) (putF "now" (.int 0) (putF "processors" (.int c) (putF "rule" rv []))))))) := upd_same
      generalize upd (upd H5 n (.dK [])) x (.ins CB dx (putF "ran" (.ref n) (putF "used" (.ref u) (putF "lines" (.ref D2) (putF "now" (.int 0) (putF "processors" (.int c) (putF "rule" rv []))))))) = H6 at g6 n6 u6 d6 f6 x6 ⊢
      refine ⟨Nat.zero_le _, fun F nF => ?_⟩
      have s7 := same_new (o := .lst []) nF
      have Fx : F ≠ x := fun e => by rw [e, x6] at nF; cases nF
      have FD : D2 ≠ F := fun e => by rw [← e, d6] at nF; cases nF
      have Fl : ∀ l ∈ ls, l ≠ F := fun l hl e => by
        have z := f6 l hl
        rw [e, nF] at z
        cases z
      have nF0 := g6.free0 nF
      refine ⟨_, rfl, x, CB, dx, _, rfl, s7.at x6, T.cl, T.nF, by show 6 < 1000; decide, ?_⟩
      have g7 := (g6.same s7).put (o := .ins CB dx (bf rv c 0 ⟨dx, D2, u, n, F, ls⟩))
      have eb : putF "finishes" (.ref F) (putF "ran" (.ref n) (putF "used" (.ref u) (putF "lines" (.ref D2) (putF "now" (.int 0) (putF "processors" (.int c) (putF "rule" rv [])))))) = bf rv c 0 ⟨dx, D2, u, n, F, ls⟩ := bf_make D2 u n F dx
      rw [eb]
      have mem : ∀ z ∈ ftB x ⟨dx, D2, u, n, F, ls⟩, z = x ∨ H z = none := fun z hz => by
        simp only [ftB, List.mem_cons] at hz
        rcases hz with rfl | rfl | rfl | rfl | rfl | h
        · exact .inl rfl
        · exact .inr nD
        · exact .inr nu0
        · exact .inr nn0
        · exact .inr nF0
        · exact .inr (nl z h)
      refine k ⟨dx, D2, u, n, F, ls⟩ _ rfl ⟨upd_same, by rw [upd_ne D2x]; exact s7.at d6, ?_, fun i l ns h1 h2 => ?_, by rw [upd_ne ux]; exact s7.at u6, by rw [upd_ne nx]; exact s7.at n6, ⟨[], by rw [upd_ne Fx, upd_same], .nil⟩, ?_, nu'⟩ mem ?_
      · show ls.length = (List.replicate r.levels.length []).length
        rw [List.length_replicate, c1, lxs]
      · have hl := List.mem_of_getElem? h1
        have e : ns = [] := List.eq_of_mem_replicate (List.mem_of_getElem? (show (List.replicate r.levels.length ([] : List Str))[i]? = some ns from h2))
        subst e
        rw [upd_ne (lx l hl)]
        exact s7.at (f6 l hl)
      · refine List.nodup_cons.mpr ⟨?_, List.nodup_cons.mpr ⟨fun h => Fl F h rfl, c4⟩⟩
        simp only [List.mem_cons, not_or]
        exact ⟨FD, fun h => (c3 D2 h).2.2 rfl⟩
      · have y := g7.sm (ftB x ⟨dx, D2, u, n, F, ls⟩) (by simp [ftB])
        refine Same.trans ?_ y
        rw [← offL_one]
        exact offL_swap fun z hz => (mem z hz).imp (fun e => by simp [e]) id
end
end Vk
set_option maxHeartbeats 4000000
/-! levels, as mathematics: where a job stands, what its quantum leaves, the law's levels and the board's -/
namespace Vk
open PySem PySem.Spec PyProof.Rows L2
def Bd.At (s : Bd) (y : Str) (i : Nat) : Prop := ∃ l, s.lines[i]? = some l ∧ y ∈ l
theorem flat_nd_at : ∀ {L : List (List Str)} {i j : Nat} {l m : List Str} {y : Str}, L.flatten.Nodup → L[i]? = some l → y ∈ l → L[j]? = some m → y ∈ m → i = j
  | [], _, _, _, _, _, _, h, _, _, _ => by simp at h
  | a :: L, 0, 0, _, _, _, _, _, _, _, _ => rfl
  | a :: L, 0, j + 1, l, m, y, nd, h1, y1, h2, y2 => by
    cases Option.some.inj h1
    exact absurd rfl ((List.nodup_append.mp nd).2.2 y y1 y (List.mem_flatten.mpr ⟨m, List.mem_of_getElem? h2, y2⟩))
  | a :: L, i + 1, 0, l, m, y, nd, h1, y1, h2, y2 => by
    cases Option.some.inj h2
    exact absurd rfl ((List.nodup_append.mp nd).2.2 y y2 y (List.mem_flatten.mpr ⟨l, List.mem_of_getElem? h1, y1⟩))
  | a :: L, i + 1, j + 1, l, m, y, nd, h1, y1, h2, y2 => congrArg (· + 1) (flat_nd_at (L := L) (List.nodup_append.mp nd).2.1 h1 y1 h2 y2)
section
variable {s t : Bd} {x y : Str} {i k : Nat} {r : Rl}
theorem Bd.At.mem (h : s.At y i) : y ∈ s.order := by
  obtain ⟨l, h1, h2⟩ := h
  exact List.mem_flatten.mpr ⟨l, List.mem_of_getElem? h1, h2⟩
theorem Bd.at_level (h : y ∈ s.order) : s.At y (s.level y) := Bd.level_at h
theorem Bd.At.uniq (nd : s.order.Nodup) (h1 : s.At y i) (h2 : s.At y k) : i = k := by
  obtain ⟨l, a, b⟩ := h1
  obtain ⟨m, c, d⟩ := h2
  exact flat_nd_at nd a b c d
theorem Bd.At.level (nd : s.order.Nodup) (h : s.At y i) : s.level y = i := (Bd.at_level h.mem).uniq nd h
theorem Bd.At.lt (h : s.At y i) : i < s.lines.length := by
  obtain ⟨l, a, _⟩ := h
  exact (List.getElem?_eq_some_iff.mp a).1
theorem Bd.at_set {l : List Str} (ht : t.lines = s.lines.set i l) (hi : i < s.lines.length) : t.At y k ↔ if k = i then y ∈ l else s.At y k := by
  unfold Bd.At
  rw [ht]
  by_cases e : k = i
  · rw [if_pos e, e, List.getElem?_set_self hi]
    constructor
    · rintro ⟨m, h, hy⟩
      cases h
      exact hy
    · intro h
      exact ⟨l, rfl, h⟩
  · rw [if_neg e, List.getElem?_set_ne (Ne.symm e)]
theorem Bd.out_at (nd : s.order.Nodup) (hx : x ∈ s.order) : (s.out x).At y k ↔ s.At y k ∧ y ≠ x := by
  obtain ⟨l, h1, h2⟩ := Bd.at_level hx
  have lt := (Bd.at_level hx).lt
  have hl : (s.out x).lines = s.lines.set (s.level x) (l.erase x) := by
    show s.lines.set (s.level x) ((s.lines.getD (s.level x) []).erase x) = _
    rw [getD_at h1]
  have ndl : l.Nodup := nd.sublist (List.sublist_flatten_of_mem (List.mem_of_getElem? h1))
  rw [Bd.at_set hl lt]
  by_cases e : k = s.level x
  · rw [if_pos e]
    constructor
    · intro h
      exact ⟨⟨l, by rw [e]; exact h1, List.mem_of_mem_erase h⟩, fun z => by rw [z] at h; exact (List.Nodup.not_mem_erase ndl) h⟩
    · rintro ⟨⟨m, h3, h4⟩, ne⟩
      rw [e, h1] at h3
      cases h3
      exact (List.mem_erase_of_ne ne).mpr h4
  · rw [if_neg e]
    exact ⟨fun h => ⟨h, fun z => e (h.uniq nd (by rw [z]; exact Bd.at_level hx))⟩, fun h => h.1⟩
theorem Bd.leave_at (nd : s.order.Nodup) (hx : x ∈ s.order) : (s.leave x).At y k ↔ s.At y k ∧ y ≠ x := Bd.out_at (s := s) nd hx
theorem Bd.quanta_if : s.quanta1 r x = if r.quantAt (s.level x) = some (getS s.used x) then
    { s with lines := (s.out x).lines.set (min (s.level x + 1) (s.lines.length - 1)) ((s.out x).lines.getD (min (s.level x + 1) (s.lines.length - 1)) [] ++ [x]), used := putS s.used x 0 } else s := rfl
theorem Bd.quanta_at (ok : s.Ok0) (hx : x ∈ s.order) (hq : r.quantAt (s.level x) = some (getS s.used x)) : (s.quanta1 r x).At y k ↔ (s.At y k ∧ y ≠ x) ∨ (y = x ∧ k = min (s.level x + 1) (s.lines.length - 1)) := by
  have l1 := ok.lines1
  have lt : min (s.level x + 1) (s.lines.length - 1) < (s.out x).lines.length := by
    show _ < (s.lines.set _ _).length
    rw [List.length_set]
    omega
  have e := List.getElem?_eq_getElem lt
  have hl : (s.quanta1 r x).lines = (s.out x).lines.set (min (s.level x + 1) (s.lines.length - 1)) ((s.out x).lines[min (s.level x + 1) (s.lines.length - 1)] ++ [x]) := by
    rw [Bd.quanta_if, if_pos hq]
    show (s.out x).lines.set _ _ = _
    rw [getD_at e]
  rw [Bd.at_set hl lt]
  by_cases z : k = min (s.level x + 1) (s.lines.length - 1)
  · rw [if_pos z, List.mem_append, List.mem_singleton, ← Bd.out_at ok.ndo hx]
    constructor
    · rintro (h | h)
      · exact .inl ⟨_, by rw [z]; exact e, h⟩
      · exact .inr ⟨h, z⟩
    · rintro (⟨m, h1, h2⟩ | ⟨h, _⟩)
      · rw [z, e] at h1
        cases h1
        exact .inl h2
      · exact .inr h
  · rw [if_neg z, Bd.out_at ok.ndo hx]
    exact ⟨fun h => .inl h, fun h => h.elim id fun w => absurd w.2 z⟩
/-! ### quanta -/
def Bd.UQ (r : Rl) (s : Bd) : Prop := ∀ y k q, s.At y k → r.quantAt k = some q → getS s.used y < q
def Bd.UQ1 (r : Rl) (s : Bd) (xs : List Str) : Prop := ∀ y k q, s.At y k → r.quantAt k = some q → getS s.used y ≤ q ∧ (y ∉ xs → getS s.used y < q)
theorem Rl.Ok.quant (ok : r.Ok) {k : Nat} {q : Int} (h : r.quantAt k = some q) : 1 ≤ q := by
  unfold Rl.quantAt at h
  by_cases lt : k < r.levels.length
  · rw [List.getD_eq_getElem?_getD, List.getElem?_eq_getElem lt] at h
    exact ok.quanta _ (List.getElem_mem lt) q h
  · rw [List.getD_eq_getElem?_getD, List.getElem?_eq_none (by omega)] at h
    cases h
theorem Bd.UQ1.quanta (rok : r.Ok) (ok : s.Ok0) {xs : List Str} (hx : x ∈ s.order) (u : s.UQ1 r (x :: xs)) : (s.quanta1 r x).UQ1 r xs := by
  by_cases hq : r.quantAt (s.level x) = some (getS s.used x)
  · intro y k q h1 h2
    have eu : (s.quanta1 r x).used = putS s.used x 0 := by
      rw [Bd.quanta_if, if_pos hq]
    rw [eu]
    rcases (Bd.quanta_at ok hx hq).mp h1 with ⟨a, ne⟩ | ⟨rfl, _⟩
    · rw [getS_putS ((ok.here _).mpr a.mem), if_neg ne]
      obtain ⟨u1, u2⟩ := u y k q a h2
      exact ⟨u1, fun m => u2 fun w => (List.mem_cons.mp w).elim ne m⟩
    · rw [getS_putS ((ok.here _).mpr hx), if_pos rfl]
      have := rok.quant h2
      exact ⟨by omega, fun _ => by omega⟩
  · have e : s.quanta1 r x = s := by rw [Bd.quanta_if, if_neg hq]
    rw [e]
    intro y k q h1 h2
    obtain ⟨u1, u2⟩ := u y k q h1 h2
    refine ⟨u1, fun m => ?_⟩
    by_cases z : y = x
    · subst z
      rw [h1.level ok.ndo] at hq
      have : q ≠ getS s.used y := fun w => hq (by rw [h2, w])
      omega
    · exact u2 fun w => (List.mem_cons.mp w).elim z m
theorem Bd.UQ1.quantas (rok : r.Ok) : ∀ {xs : List Str} {s : Bd}, s.Ok0 → (∀ x ∈ xs, x ∈ s.order) → s.UQ1 r xs → (xs.foldl (Bd.quanta1 r) s).UQ r
  | [], s, _, _, u => fun y k q h1 h2 => (u y k q h1 h2).2 (by simp)
  | x :: xs, s, ok, hx, u => by
    have h0 := hx x (List.mem_cons_self ..)
    exact Bd.UQ1.quantas rok (xs := xs) (ok.quanta1 h0) (fun y hy => (Bd.quanta_order ok.lines1 h0).mem_iff.mpr (hx y (List.mem_cons_of_mem _ hy))) (u.quanta rok ok h0)
theorem Bd.leaves_at : ∀ {xs : List Str} {s : Bd}, s.Ok0 → xs.Nodup → (∀ x ∈ xs, x ∈ s.order) → ∀ y k, (xs.foldl Bd.leave s).At y k ↔ s.At y k ∧ y ∉ xs
  | [], s, _, _, _, y, k => by simp
  | x :: xs, s, ok, nd, hx, y, k => by
    obtain ⟨n1, n2⟩ := List.nodup_cons.mp nd
    have h0 := hx x (List.mem_cons_self ..)
    have lm := Bd.leave_mem ok h0
    show (xs.foldl Bd.leave (s.leave x)).At y k ↔ _
    rw [Bd.leaves_at (ok.leave h0) n2 (fun z hz => (lm z).mpr ⟨hx z (List.mem_cons_of_mem _ hz), fun e => n1 (by rw [← e]; exact hz)⟩) y k, Bd.leave_at ok.ndo h0, List.mem_cons, not_or, and_assoc]
theorem Bd.leaves_used : ∀ {xs : List Str} {s : Bd} {y : Str}, y ∉ xs → getS (xs.foldl Bd.leave s).used y = getS s.used y
  | [], s, y, _ => rfl
  | x :: xs, s, y, h => by
    show getS (xs.foldl Bd.leave (s.leave x)).used y = _
    rw [Bd.leaves_used (fun m => h (List.mem_cons_of_mem _ m)), show (s.leave x).used = dropS s.used x from rfl, getS_dropS (fun e => h (by rw [e]; exact List.mem_cons_self ..))]
/-- the quanta hold behind units that end none of them in between -/
theorem Bd.UQ.units (rok : r.Ok) (ok : s.Ok0) {c d : Int} {fin : List Str} (d0 : 0 < d) (u : s.UQ r) (room : ∀ y ∈ s.run c, ∀ k q, s.At y k → r.quantAt k = some q → getS s.used y + d ≤ q) : (s.endUnits r c d fin).UQ r := by
  obtain ⟨m1, m2, m3, m4, m5⟩ := Bd.mid_after ok c d fin
  obtain ⟨_, v2, _⟩ := mid_vals ok (c := c) (d := d) (fin := fin)
  have atM : ∀ y k, (s.mid c d fin).At y k ↔ s.At y k := fun y k => by unfold Bd.At; rw [m5]
  have om : (s.mid c d fin).order = s.order := by unfold Bd.order; rw [m5]
  have lvs : (s.lv c fin).Sublist (s.run c) := List.filter_sublist
  have subL : ∀ x ∈ s.lv c fin, x ∈ (s.mid c d fin).order := fun x hx => by rw [om]; exact Bd.run_sub x (lvs.subset hx)
  obtain ⟨l1, l2, l3⟩ := m1.leaves ((Bd.run_nd ok).sublist lvs) subL
  have atL := Bd.leaves_at m1 ((Bd.run_nd ok).sublist lvs) subL
  have sub9 : ∀ x ∈ (s.run c).filter (fun x => decide (x ∉ s.lv c fin)), x ∈ ((s.lv c fin).foldl Bd.leave (s.mid c d fin)).order := fun x hx => by
    obtain ⟨x1, x2⟩ := List.mem_filter.mp hx
    exact (l2 x).mpr ⟨by rw [om]; exact Bd.run_sub x x1, of_decide_eq_true x2⟩
  have u1 : ((s.lv c fin).foldl Bd.leave (s.mid c d fin)).UQ1 r ((s.run c).filter fun x => decide (x ∉ s.lv c fin)) := fun y k q h1 h2 => by
    obtain ⟨a1, a2⟩ := (atL y k).mp h1
    have a3 := (atM y k).mp a1
    rw [Bd.leaves_used a2, v2 y ((ok.here _).mpr a3.mem)]
    have z := u y k q a3 h2
    by_cases m : y ∈ s.run c
    · rw [if_pos m]
      exact ⟨room y m k q a3 h2, fun w => absurd (List.mem_filter.mpr ⟨m, decide_eq_true a2⟩) w⟩
    · rw [if_neg m]
      exact ⟨by omega, fun _ => by omega⟩
  have uF := Bd.UQ1.quantas rok l1 sub9 u1
  have okF := (l1.quantas (r := r) sub9).1
  show Bd.UQ r (match r.boost with
    | some q => if (((s.run c).filter fun x => decide (x ∉ s.lv c fin)).foldl (Bd.quanta1 r) ((s.lv c fin).foldl Bd.leave (s.mid c d fin))).now.fmod q = 0 then Bd.lift (((s.run c).filter fun x => decide (x ∉ s.lv c fin)).foldl (Bd.quanta1 r) ((s.lv c fin).foldl Bd.leave (s.mid c d fin))) else ((s.run c).filter fun x => decide (x ∉ s.lv c fin)).foldl (Bd.quanta1 r) ((s.lv c fin).foldl Bd.leave (s.mid c d fin))
    | none => ((s.run c).filter fun x => decide (x ∉ s.lv c fin)).foldl (Bd.quanta1 r) ((s.lv c fin).foldl Bd.leave (s.mid c d fin)))
  generalize ((s.run c).filter fun x => decide (x ∉ s.lv c fin)).foldl (Bd.quanta1 r) ((s.lv c fin).foldl Bd.leave (s.mid c d fin)) = T at uF okF ⊢
  cases r.boost with
  | none => exact uF
  | some b =>
    show Bd.UQ r (if T.now.fmod b = 0 then T.lift else T)
    split
    · intro y k q _ h2
      have := rok.quant h2
      rw [show (T.lift).used = T.used.map fun p => (p.1, (0 : Int)) from rfl, getS_zero]
      omega
    · exact uF
theorem Bd.UQ.one (rok : r.Ok) (ok : s.Ok0) {c : Int} {fin : List Str} (u : s.UQ r) : (s.endUnits r c 1 fin).UQ r :=
  u.units rok ok (by decide) fun y _ k q h1 h2 => by have := u y k q h1 h2; omega
theorem Bd.UQ.enter (rok : r.Ok) (ok : s.Ok0) {e : Nat} (nx : x ∉ s.ran.map (·.1)) (u : s.UQ r) : (s.enter r x e).UQ r := by
  have l1 := ok.lines1
  have lt : min e (s.lines.length - 1) < s.lines.length := by omega
  have hh := List.getElem?_eq_getElem lt
  have nu : x ∉ s.used.map (·.1) := fun m => nx (ok.sub x ((ok.here x).mp m))
  intro y k q h1 h2
  show getS (s.used ++ [(x, 0)]) y < q
  by_cases z : y = x
  · rw [z, getS_app_new nu]
    have := rok.quant h2
    omega
  · have a : s.At y k := by
      rw [Bd.at_set (s := s) (t := s.enter r x e) rfl lt] at h1
      by_cases w : k = min e (s.lines.length - 1)
      · rw [if_pos w, getD_at hh] at h1
        refine ⟨_, by rw [w]; exact hh, ?_⟩
        split at h1
        · exact (List.mem_cons.mp h1).resolve_left z
        · exact (List.mem_append.mp h1).resolve_right fun m => z (List.mem_singleton.mp m)
      · rw [if_neg w] at h1
        exact h1
    rw [getS_app ((ok.here _).mpr a.mem)]
    exact u y k q a h2
theorem Bd.UQ.new : (Bd.new r).UQ r := fun y k q h1 _ => by
  obtain ⟨l, a, b⟩ := h1
  have : l = [] := List.eq_of_mem_replicate (List.mem_of_getElem? a)
  rw [this] at b
  cases b
end
end Vk
set_option maxHeartbeats 4000000
/-! the law's levels say what the board says -/
namespace Vk
open PySem PySem.Spec PyProof.Rows L2
abbrev Jb := Str × Int × Int
def jv (j : Jb) : HO := .lst [.str j.1, .int j.2.1, .int j.2.2]
def bumpJ (j : Jb) : Jb := (j.1, j.2.1 + 1, j.2.2 + 1)
def zeroJ (j : Jb) : Jb := (j.1, 0, j.2.2)
structure RelL (s : Bd) (J : List (List Jb)) : Prop where
  names : s.lines = J.map fun l => l.map (·.1)
  vals : ∀ l ∈ J, ∀ j ∈ l, getS s.used j.1 = j.2.1 ∧ getS s.ran j.1 = j.2.2
section
variable {s : Bd} {J : List (List Jb)} {x : Str} {r : Rl}
theorem RelL.len (R : RelL s J) : s.lines.length = J.length := by rw [R.names, List.length_map]
theorem RelL.order (R : RelL s J) : s.order = J.flatten.map (·.1) := by
  unfold Bd.order
  rw [R.names, List.map_flatten]
theorem RelL.at_ (R : RelL s J) {i : Nat} {l : List Jb} {j : Jb} (h : J[i]? = some l) (hj : j ∈ l) : s.At j.1 i :=
  ⟨l.map (·.1), by rw [R.names, List.getElem?_map, h]; rfl, List.mem_map.mpr ⟨j, hj, rfl⟩⟩
theorem RelL.line (R : RelL s J) {i : Nat} {l : List Jb} (h : J[i]? = some l) : s.lines[i]? = some (l.map (·.1)) := by rw [R.names, List.getElem?_map, h]; rfl
theorem RelL.inO (R : RelL s J) {l : List Jb} {j : Jb} (h : l ∈ J) (hj : j ∈ l) : j.1 ∈ s.order := by
  rw [R.order]
  exact List.mem_map.mpr ⟨j, List.mem_flatten.mpr ⟨l, h, hj⟩, rfl⟩
theorem getDJ {J : List (List Jb)} {i : Nat} {l : List Jb} (h : J[i]? = some l) : J.getD i [] = l := by
  rw [List.getD_eq_getElem?_getD, h]
  rfl
theorem mem_set_or {α : Type} {J : List α} {i : Nat} {a b : α} (h : a ∈ J.set i b) : (∃ k, k ≠ i ∧ J[k]? = some a) ∨ a = b := by
  obtain ⟨k, hk, e⟩ := List.mem_iff_getElem.mp h
  by_cases z : k = i
  · subst z
    right
    rw [List.getElem_set_self] at e
    exact e.symm
  · left
    rw [List.getElem_set_ne (Ne.symm z)] at e
    rw [List.length_set] at hk
    exact ⟨k, z, by rw [List.getElem?_eq_getElem hk, e]⟩
/-- without x -/
def noX (x : Str) (l : List Jb) : List Jb := l.filter fun j => decide (j.1 ≠ x)
theorem noX_names {l : List Jb} {x : Str} (nd : (l.map (·.1)).Nodup) : (noX x l).map (·.1) = (l.map (·.1)).erase x := by
  rw [List.Nodup.erase_eq_filter nd, List.filter_map]
  unfold noX
  congr 1
  refine List.filter_congr fun j _ => ?_
  by_cases z : j.1 = x <;> simp [z, bne]
theorem RelL.out_vals (R : RelL s J) (nd : s.order.Nodup) {i : Nat} {l : List Jb} (h : J[i]? = some l) (hx : s.At x i) : ∀ m ∈ J.set i (noX x l), ∀ j ∈ m, j.1 ≠ x ∧ ∃ m' ∈ J, j ∈ m' := fun m hm j hj => by
  rcases mem_set_or hm with ⟨k, ne, hk⟩ | rfl
  · exact ⟨fun e => ne ((R.at_ hk hj).uniq nd (by rw [e]; exact hx)), m, List.mem_of_getElem? hk, hj⟩
  · obtain ⟨a, b⟩ := List.mem_filter.mp hj
    exact ⟨of_decide_eq_true b, l, List.mem_of_getElem? h, a⟩
theorem RelL.out_lines (R : RelL s J) (nd : s.order.Nodup) {i : Nat} {l : List Jb} (h : J[i]? = some l) (hx : s.At x i) : (s.out x).lines = (J.set i (noX x l)).map fun l => l.map (·.1) := by
  have e := hx.level nd
  have hl := R.line h
  have ndl : (l.map (·.1)).Nodup := nd.sublist (List.sublist_flatten_of_mem (List.mem_of_getElem? hl))
  show s.lines.set (s.level x) ((s.lines.getD (s.level x) []).erase x) = _
  rw [e, getD_at hl, List.map_set, noX_names ndl, ← R.names]
theorem RelL.leave (R : RelL s J) (nd : s.order.Nodup) {i : Nat} {l : List Jb} (h : J[i]? = some l) (hx : s.At x i) : RelL (s.leave x) (J.set i (noX x l)) := by
  refine ⟨R.out_lines nd h hx, fun m hm j hj => ?_⟩
  obtain ⟨ne, m', h1, h2⟩ := R.out_vals nd h hx m hm j hj
  obtain ⟨a, b⟩ := R.vals m' h1 j h2
  exact ⟨by rw [show (s.leave x).used = dropS s.used x from rfl, getS_dropS ne]; exact a, b⟩
/-- a quantum ends -/
theorem RelL.quanta (R : RelL s J) (ok : s.Ok0) {i : Nat} {l lb : List Jb} (h : J[i]? = some l) (hx : s.At x i) (hq : r.quantAt i = some (getS s.used x)) (hb : (J.set i (noX x l))[min (i + 1) (J.length - 1)]? = some lb) :
    RelL (s.quanta1 r x) ((J.set i (noX x l)).set (min (i + 1) (J.length - 1)) (lb ++ [(x, 0, getS s.ran x)])) := by
  have e := hx.level ok.ndo
  have q1 : s.quanta1 r x = { s with lines := (s.out x).lines.set (min (s.level x + 1) (s.lines.length - 1)) ((s.out x).lines.getD (min (s.level x + 1) (s.lines.length - 1)) [] ++ [x]), used := putS s.used x 0 } := by
    rw [Bd.quanta_if, if_pos (by rw [e]; exact hq)]
  have ol := R.out_lines ok.ndo h hx
  have ku : x ∈ s.used.map (·.1) := (ok.here _).mpr hx.mem
  have eu : (s.quanta1 r x).used = putS s.used x 0 := by rw [q1]
  have er : (s.quanta1 r x).ran = s.ran := by rw [q1]
  refine ⟨?_, fun m hm j hj => ?_⟩
  · rw [q1]
    show (s.out x).lines.set _ _ = _
    have hb' : ((J.set i (noX x l)).map fun l => l.map (·.1))[min (i + 1) (J.length - 1)]? = some (lb.map (·.1)) := by rw [List.getElem?_map, hb]; rfl
    rw [e, R.len, ol, getD_at hb']
    symm
    rw [List.map_set, List.map_append]
    rfl
  · rw [eu, er]
    have old : ∀ m ∈ J.set i (noX x l), ∀ j ∈ m, getS (putS s.used x 0) j.1 = j.2.1 ∧ getS s.ran j.1 = j.2.2 := fun m hm j hj => by
      obtain ⟨ne, m', h1, h2⟩ := R.out_vals ok.ndo h hx m hm j hj
      obtain ⟨a, b⟩ := R.vals m' h1 j h2
      rw [getS_putS ((ok.here _).mpr (R.inO h1 h2)), if_neg ne]
      exact ⟨a, b⟩
    rcases mem_set_or hm with ⟨k, _, hk⟩ | rfl
    · exact old m (List.mem_of_getElem? hk) j hj
    · rcases List.mem_append.mp hj with hj | hj
      · exact old lb (List.mem_of_getElem? hb) j hj
      · rw [List.mem_singleton.mp hj]
        show getS (putS s.used x 0) x = 0 ∧ getS s.ran x = getS s.ran x
        rw [getS_putS ku, if_pos rfl]
        exact ⟨rfl, rfl⟩
theorem RelL.lift (R : RelL s J) : RelL s.lift (J.flatten.map zeroJ :: List.replicate (J.length - 1) []) := by
  refine ⟨?_, fun m hm j hj => ?_⟩
  · show s.order :: List.replicate (s.lines.length - 1) [] = _
    rw [R.order, R.len, List.map_cons, List.map_map, List.map_replicate]
    rfl
  · rcases List.mem_cons.mp hm with rfl | hm
    · obtain ⟨i, hi, rfl⟩ := List.mem_map.mp hj
      obtain ⟨l, hl, hi⟩ := List.mem_flatten.mp hi
      exact ⟨getS_zero, (R.vals l hl i hi).2⟩
    · rw [List.eq_of_mem_replicate hm] at hj
      cases hj
theorem RelL.enter (R : RelL s J) (ok : s.Ok0) {e : Nat} {l : List Jb} (h : J[min e (J.length - 1)]? = some l) (nx : x ∉ s.ran.map (·.1)) :
    RelL (s.enter r x e) (J.set (min e (J.length - 1)) (if r.stackAt (min e (J.length - 1)) = true then (x, 0, 0) :: l else l ++ [(x, 0, 0)])) := by
  have nu : x ∉ s.used.map (·.1) := fun m => nx (ok.sub x ((ok.here x).mp m))
  have hl := R.line h
  refine ⟨?_, fun m hm j hj => ?_⟩
  · show s.lines.set (min e (s.lines.length - 1)) (if r.stackAt (min e (s.lines.length - 1)) = true then x :: s.lines.getD (min e (s.lines.length - 1)) [] else s.lines.getD (min e (s.lines.length - 1)) [] ++ [x]) = _
    rw [R.len, getD_at hl, List.map_set, ← R.names]
    congr 1
    split
    · rfl
    · rw [List.map_append]
      rfl
  · have old : ∀ m ∈ J, ∀ j ∈ m, getS (s.used ++ [(x, 0)]) j.1 = j.2.1 ∧ getS (s.ran ++ [(x, 0)]) j.1 = j.2.2 := fun m hm j hj => by
      have jo := R.inO hm hj
      rw [getS_app ((ok.here _).mpr jo), getS_app (ok.sub _ jo)]
      exact R.vals m hm j hj
    have new : getS (s.used ++ [(x, 0)]) x = 0 ∧ getS (s.ran ++ [(x, 0)]) x = 0 := ⟨getS_app_new nu, getS_app_new nx⟩
    rcases mem_set_or hm with ⟨k, _, hk⟩ | rfl
    · exact old m (List.mem_of_getElem? hk) j hj
    · split at hj
      · rcases List.mem_cons.mp hj with rfl | hj
        · exact new
        · exact old l (List.mem_of_getElem? h) j hj
      · rcases List.mem_append.mp hj with hj | hj
        · exact old l (List.mem_of_getElem? h) j hj
        · rw [List.mem_singleton.mp hj]
          exact new
/-- the units of the running ones -/
def bumpIf (xs : List Str) (j : Jb) : Jb := if j.1 ∈ xs then bumpJ j else j
theorem bumpIf_fst {xs : List Str} {j : Jb} : (bumpIf xs j).1 = j.1 := by
  unfold bumpIf
  split <;> rfl
theorem RelL.mid (R : RelL s J) (ok : s.Ok0) {c : Int} {fin : List Str} : RelL (s.mid c 1 fin) (J.map fun l => l.map (bumpIf (s.run c))) := by
  obtain ⟨_, _, _, _, m5⟩ := Bd.mid_after ok c 1 fin
  obtain ⟨v1, v2, _⟩ := mid_vals ok (c := c) (d := 1) (fin := fin)
  refine ⟨?_, fun m hm j hj => ?_⟩
  · rw [m5, R.names, List.map_map]
    refine List.map_congr_left fun l _ => ?_
    show _ = (l.map (bumpIf (s.run c))).map (·.1)
    rw [List.map_map]
    exact List.map_congr_left fun j _ => bumpIf_fst.symm
  · obtain ⟨l, hl, rfl⟩ := List.mem_map.mp hm
    obtain ⟨i, hi, rfl⟩ := List.mem_map.mp hj
    have io := R.inO hl hi
    obtain ⟨w1, w2⟩ := R.vals l hl i hi
    rw [bumpIf_fst, v2 _ ((ok.here _).mpr io), v1 _ (ok.sub _ io), w1, w2]
    unfold bumpIf
    split
    · exact ⟨rfl, rfl⟩
    · exact ⟨Int.add_zero _, Int.add_zero _⟩
theorem RelL.new : RelL (Bd.new r) (List.replicate r.levels.length []) := by
  refine ⟨?_, fun m hm j hj => ?_⟩
  · show List.replicate r.levels.length [] = _
    rw [List.map_replicate]
    rfl
  · rw [List.eq_of_mem_replicate hm] at hj
    cases hj
end
/-! ### a rule by its data -/
theorem opt_of {d : PyData} (h : countD d = true) : ∃ q : Option Int, d = bOptD q ∧ ∀ i, q = some i → 1 ≤ i := by
  cases d with
  | none => exact ⟨none, rfl, fun i e => nomatch e⟩
  | int i => exact ⟨some i, rfl, fun j e => by cases e; exact of_decide_eq_true h⟩
  | _ => cases h
theorem kind_of {d : PyData} (h : kindD d = true) : ∃ b : Bool, d = .str (bKindS b) := by
  cases d with
  | str x =>
    have z : (x == ("queue" : Str) || x == ("stack" : Str)) = true := h
    rcases Bool.or_eq_true_iff.mp z with e | e
    · exact ⟨false, by rw [beq_iff_eq.mp e]; rfl⟩
    · exact ⟨true, by rw [beq_iff_eq.mp e]; rfl⟩
  | _ => cases h
theorem level_of {d : PyData} (h : levelD d = true) : ∃ l : Bool × Option Int, d = bLevD l ∧ ∀ i, l.2 = some i → 1 ≤ i := by
  unfold levelD at h
  split at h
  · obtain ⟨h1, h2⟩ := Bool.and_eq_true_iff.mp h
    obtain ⟨b, rfl⟩ := kind_of h1
    obtain ⟨q, rfl, qok⟩ := opt_of h2
    exact ⟨(b, q), rfl, qok⟩
  · cases h
theorem rule_of {ls : List PyData} {b : PyData} (h1 : 1 ≤ ls.length) (h6 : ls.length ≤ 6) (h : ls.all levelD = true) (hb : countD b = true) : ∃ r : Rl, .tuple [.tuple ls, b] = bRulD r ∧ r.Ok := by
  obtain ⟨q, rfl, qok⟩ := opt_of hb
  have ex : ∃ L : List (Bool × Option Int), ls = L.map bLevD ∧ ∀ l ∈ L, ∀ i, l.2 = some i → 1 ≤ i := by
    clear h1 h6
    induction ls with
    | nil => exact ⟨[], rfl, fun l hl => nomatch hl⟩
    | cons d ls ih =>
      rw [List.all_cons, Bool.and_eq_true_iff] at h
      obtain ⟨l, rfl, lok⟩ := level_of h.1
      obtain ⟨L, rfl, Lok⟩ := ih h.2
      exact ⟨l :: L, rfl, fun m hm => by
        rcases List.mem_cons.mp hm with rfl | hm
        · exact lok
        · exact Lok m hm⟩
  obtain ⟨L, rfl, Lok⟩ := ex
  rw [List.length_map] at h1 h6
  exact ⟨⟨L, q⟩, rfl, ⟨h1, h6, Lok, qok⟩⟩
end Vk
set_option maxHeartbeats 4000000
/-! f(a, b, k = c) of a def with one keyword-only parameter, also where what it raises is caught -/
namespace Vk
open PySem PySem.Spec PyProof.Rows L2
/-- a def of the module's top with one keyword-only parameter, its default dv -/
structure DfK (K : PySem.W.Frag) (mg : Str → Option Value) (x : Str) (st : Stmt) (ps : List Str) (kn : Str) (dv : V) : Prop where
  ex : ∃ f fd, mg x = some (.ref f) ∧ FunD K x x (defArgs st) (defBody st) (defScope st) [] [(kn, dv)] f fd ∧ KBn K fd (ps ++ [kn]) ps.length [kn] (fun us ws => us ++ ws) (fun vs zs => vs ++ zs) ∧ ∃ ds, Vals [dv] ds ∧ Binds K fd (ps ++ [kn]) ds
/-- its promise -/
structure ClK (P : Program) (w : World) (K : PySem.W.Frag) (mg : Str → Option Value) (base : Heap) (CX : CXT) (k : Nat) (x : Str) (ps : List Str) (kn : Str) (dv : V) (sp : Sp) : Prop where
  ex : ∃ f fd, mg x = some (.ref f) ∧ PySem.W.keepIn K (.ref f) = true ∧ KBn K fd (ps ++ [kn]) ps.length [kn] (fun us ws => us ++ ws) (fun vs zs => vs ++ zs) ∧ (∃ ds, Vals [dv] ds ∧ Binds K fd (ps ++ [kn]) ds) ∧ FnOk P w K mg base CX k f fd (ps ++ [kn]) sp
section
variable {P : Program} {w : World} {K : PySem.W.Frag} {mg : Str → Option Value} {base : Heap}
theorem clK {CX : CXT} {x kn : Str} {st : Stmt} {N ps : List Str} {k : Nat} {dv : V} {sp : Sp} (D : DfK K mg x st ps kn dv) (S : FnScope N (ps ++ [kn]) (defScope st)) (len : ∀ vs H Q E, sp vs H Q E → vs.length = (ps ++ [kn]).length)
    (body : ∀ (f : Addr) (cdv : Value) (A : Around) (outer : List Env) (s : Shared) (H : Hp) (vs : List V) (Q : VK) (E : XK), Room k (A.deeper (envOfC x (defScope st) s.heap.objs.size f cdv)) → sp vs H Q E →
      ∃ t, PSs (cxOf CX P w K mg base N x (defScope st) f cdv A outer s H E) (defBody st) t ∧ t { nx := fun _ H' => Q .non H', rt := Q } (start N vs) H) : ClK P w K mg base CX (k + 1) x ps kn dv sp := by
  obtain ⟨f, fd, hm, F, kb, db⟩ := D.ex
  exact ⟨f, fd, hm, F.kp, kb, db, F.ok S len (body f)⟩
/-- binding, from the def as it stands -/
theorem dfk_mk {x kn : Str} {st : Stmt} {f D : Addr} {oc doc pm cdv ct : Value} {od an : Option Addr} {osl : Array (Option Value)} {dv : V} {u : Value} (m : mg x = some (.ref f))
    (l : K.lookup f = some ⟨oc, od, .func (PySem.W.fnOf x x (defArgs st) (defBody st) (defScope st) .none (.ref D) doc pm an cdv ct), osl⟩) (c : PySem.W.codeIn K cdv x = true) (kp : PySem.W.keepIn K (.ref f) = true) (n : PySem.W.nsIn K D kn = some (some u)) (r : RelV dv u) {p1 p2 : Str}
    (hb : ∀ (doc pm : Value) (an : Option Addr) (cdv ct a b z : Value), bindArgs (PySem.W.fnOf x x (defArgs st) (defBody st) (defScope st) .none (.ref D) doc pm an cdv ct) ⟨[a, b], [(kn, z)]⟩ = pure [(p1, a), (p2, b), (kn, z)])
    (hd : ∀ (doc pm : Value) (an : Option Addr) (cdv ct a b z : Value), KwChain D [(kn, z)] (bindArgs (PySem.W.fnOf x x (defArgs st) (defBody st) (defScope st) .none (.ref D) doc pm an cdv ct) ⟨[a, b], []⟩) [(p1, a), (p2, b), (kn, z)]) : DfK K mg x st [p1, p2] kn dv := by
  have F : FunD K x x (defArgs st) (defBody st) (defScope st) [] [(kn, dv)] f (PySem.W.fnOf x x (defArgs st) (defBody st) (defScope st) .none (.ref D) doc pm an cdv ct) :=
    ⟨⟨oc, od, .none, .ref D, doc, pm, an, cdv, ct, osl, rfl, l, c, .inl ⟨rfl, rfl⟩, .inr ⟨D, rfl, fun q hq => by
      rw [List.mem_singleton.mp hq]
      exact ⟨u, n, r⟩⟩⟩, kp⟩
  refine ⟨f, _, m, F, ⟨fun s us ws X l1 l2 => ?_, fun r1 r2 => r1.append r2⟩, [u], .cons r .nil, fun s us X hl => ?_⟩
  · match us, ws, l1, l2 with
    | [a, b], [z], _, _ => exact .of_eq (hb doc pm an cdv ct a b z)
  · have two : us.length = 2 := by
      rw [List.length_append] at hl
      simp only [List.length_cons, List.length_nil, List.length_append] at hl
      omega
    match us, two with
    | [a, b], _ =>
      refine BindsTo.of_looks fun M => KwChain.looks X (fun q hq => ?_) (hd doc pm an cdv ct a b u)
      rw [List.mem_singleton.mp hq]
      exact n
end
/-- the call with a keyword, where W takes what is raised -/
def tCallK (sp : Sp) (ex : L2.St → XK) (n : Nat) (t tk : TA) : TE := fun σ H Q => t σ H fun vs H1 => tk σ H1 fun zs H2 => vs.length = n ∧ zs.length = 1 ∧ sp (vs ++ zs) H2 Q (ex σ)
section
variable {X : Cx} {CX : CXT} {k n : Nat} {fa : Addr} {fdat : FuncData} {names : List Str} {kn : Str} {sp : Sp} {ex : L2.St → XK} {x : Str} {p pos : Pos} {e1 : Expr} {es1 : List Expr} {kws1 : List Keyword} {ta1 tk1 : TA}
theorem pe_callK (fn : FnOk X.prog X.w X.K X.mg X.base CX k fa fdat names sp) (room : Room k X.A) (gx : Gl X x) (mx : X.mg x = some (.ref fa)) (kx : PySem.W.keepIn X.K (.ref fa) = true) (kb : KBn X.K fdat names n [kn] (fun us ws => us ++ ws) (fun vs zs => vs ++ zs)) (px : ∀ σ, PassesAt CX X σ (ex σ))
    (args : PA X (e1 :: es1) ta1) (kargs : PK X kws1 tk1) (all1 : (backToKw pos (keywordEach kws1 X.env)).all (·.1.isSome) = true := by rfl) (names1 : (backToKw pos (keywordEach kws1 X.env)).filterMap (·.1) = [kn] := by rfl)
    (nodebug : (x == ("__debug__" : Str)) = false := by decide) (first1 : starEach (e1 :: es1) X.env = (false, eval e1 X.env) :: starEach es1 X.env := by rfl)
    (plain1 : ((backTo pos (starEach (e1 :: es1) X.env)).any (·.1) || (backToKw pos (keywordEach kws1 X.env)).any (·.1.isNone)) = false := by rfl) :
    PE X (.Call (.Name x p) (e1 :: es1) kws1 pos) (tCallK sp ex n ta1 tk1) := ⟨fun pins s σ H Q I h => by
  refine wpAny_Call_Name_kw (ld_glob I gx mx ?_ nodebug)
  refine PySem.W.callWith_KW (h₀ := X.base) I.ok.mod.kin kx all1 (thn (args.run pos pins s σ H _ I h) fun us s1 got => ?_) plain1 first1
  obtain ⟨vs, H1, I1, rv, q⟩ := got
  refine thn (kargs.run pos pins s1 σ H1 _ I1 q) fun ws s2 got2 => ?_
  obtain ⟨zs, H2, I2, rz, n1, n2, q2⟩ := got2
  refine ⟨I2.kIn, ?_⟩
  rw [names1]
  have len1 : us.length = n := rv.length.symm.trans n1
  have len2 : ws.length = [kn].length := rz.length.symm.trans n2
  refine wpAny_call (codeAny_mono (fn.run X.A X.stack s2 H2 ⟨us, [kn].zip ws⟩ (us ++ ws) (vs ++ zs) Q (ex σ) room I2.env0 (kb.to s2 us ws I2.kIn len1 len2) (kb.rel rv rz) q2) fun res s3 hq => ?_)
  match res, hq with
  | .error er, hq => exact px σ pins H2 s2 er s3 I2 hq
  | .ok (.ret u), hq => exact I2.after hq
  | .ok .next, hq => exact False.elim hq
  | .ok .brk, hq => exact False.elim hq
  | .ok .cont, hq => exact False.elim hq⟩
end
end Vk
set_option maxHeartbeats 8000000
/-! the bench: its place, what it does -/
namespace Vk
open PySem PySem.Spec PyProof.Rows L2 GxR
theorem offL_comp {a b : List Addr} {H : Hp} : OffL a (OffL b H) = OffL (a ++ b) H := by
  funext x
  by_cases h1 : x ∈ a
  · rw [offL_in h1, offL_in (List.mem_append_left _ h1)]
  · by_cases h2 : x ∈ b
    · rw [offL_out h1, offL_in h2, offL_in (List.mem_append_right _ h2)]
    · rw [offL_out h1, offL_out h2, offL_out (fun m => (List.mem_append.mp m).elim h1 h2)]
structure BnA where
  dn : Addr
  b : Addr
  p : Addr
  A : BdA
def ftN (n : Addr) (N : BnA) : List Addr := n :: N.p :: ftB N.b N.A
def nfl (N : BnA) : List (Str × V) := [("_board", .ref N.b), ("_past", .ref N.p)]
structure BnAt (CN CB : Addr) (K : PySem.W.Frag) (H : Hp) (n : Addr) (rv : V) (c : Int) (N : BnA) (s : Bd) (r : Rl) (ps : List Addr) : Prop where
  ob : H n = some (.ins CN N.dn (nfl N))
  past : H N.p = some (.lst (ps.map V.ref).reverse)
  bd : BdAt CB K H N.b rv c N.A s
  ok : s.Ok
  rule : Dp K (OffL (ftN n N) H) rv (bRulD r)
  lev : r.levels.length = s.lines.length
  nb : n ∉ ftB N.b N.A
  pb : N.p ∉ ftB N.b N.A
structure BnC (K : PySem.W.Frag) (C : Addr) : Prop where
  cl : Cls K C
  nB : NoAttr K C "_board"
  nP : NoAttr K C "_past"
section
variable {CN CB : Addr} {K : PySem.W.Frag} {H H' : Hp} {n : Addr} {rv : V} {c : Int} {N : BnA} {s : Bd} {r : Rl} {ps : List Addr}
/-- finishes stay where tuples stay -/
theorem fin_keep {X Y : Hp} (k : ∀ a xs, SqT K X a xs → SqT K Y a xs) {v : V} {f : Int × List Str × List Str} (h : Dp K X v (finD f)) : Dp K Y v (finD f) := by
  obtain ⟨p, x, y, z, rfl, q, dx, dy, dz⟩ := dp_threeB h
  have two : ∀ {v : V} {l : List Str}, Dp K X v (.tuple (l.map PyData.str)) → Dp K Y v (.tuple (l.map PyData.str)) := fun {v l} h => by
    obtain ⟨a, ys, rfl, qa, da⟩ := dp_tuple h
    have e := strs_dps da
    subst e
    exact .tup (k _ _ qa) (dps_strs l)
  have e := dp_int dx
  subst e
  exact .tup (k _ _ q) (.cons (.int _) (.cons (two dy) (.cons (two dz) .nil)))
theorem fins_keep {X Y : Hp} (k : ∀ a xs, SqT K X a xs → SqT K Y a xs) : ∀ {vs : List V} {fs : List (Int × List Str × List Str)}, DpAll K X vs (fs.map finD) → DpAll K Y vs (fs.map finD)
  | _, [], .nil => .nil
  | _, _ :: fs, .cons h t => .cons (fin_keep k h) (fins_keep k (fs := fs) t)
theorem BdAt.keepT {b : Addr} {A : BdA} (B : BdAt CB K H b rv c A s) (e : ∀ x ∈ ftB b A, H' x = H x) (k : ∀ a xs, SqT K (OffL (ftB b A) H) a xs → SqT K (OffL (ftB b A) H') a xs) : BdAt CB K H' b rv c A s := by
  obtain ⟨xs, f1, f2⟩ := B.fins
  exact ⟨(e _ (by simp [ftB])).trans B.ob, (e _ (by simp [ftB])).trans B.lines, B.len, fun i l ns h1 h2 => (e l (by simp [ftB, List.mem_of_getElem? h1])).trans (B.line i l ns h1 h2), (e _ (by simp [ftB])).trans B.used, (e _ (by simp [ftB])).trans B.ran,
    ⟨xs, (e _ (by simp [ftB])).trans f1, fins_keep k f2⟩, B.nd, B.un⟩
/-- neither a tuple nor one that is locked -/
def NoTup (o : HO) : Prop := (∀ xs, o ≠ .tup xs) ∧ ∀ q u, o ≠ .frz q u
theorem sqt_off {H : Hp} {ft : List Addr} (h : ∀ z ∈ ft, ∀ o, H z = some o → NoTup o) {a : Addr} {xs : List V} (q : SqT K H a xs) : SqT K (OffL ft H) a xs := by
  rcases q with (q | ⟨o, q⟩) | q
  · exact .inl (.inl (by rw [offL_out (fun m => (h a m _ q).1 xs rfl)]; exact q))
  · exact .inl (.inr ⟨o, by rw [offL_out (fun m => (h a m _ q).2 _ _ rfl)]; exact q⟩)
  · exact .inr q
theorem sqt_put {H : Hp} {z : Addr} {o u : HO} (h : H z = some o) (n : NoTup o) {a : Addr} {xs : List V} (q : SqT K H a xs) : SqT K (upd H z u) a xs := by
  rcases q with (q | ⟨w, q⟩) | q
  · exact .inl (.inl (by rw [upd_ne (fun e => by rw [e, h] at q; cases q; exact n.1 xs rfl)]; exact q))
  · exact .inl (.inr ⟨w, by rw [upd_ne (fun e => by rw [e, h] at q; cases q; exact n.2 _ _ rfl)]; exact q⟩)
  · exact .inr q
theorem noTup_lst {l : List V} : NoTup (.lst l) := ⟨fun _ e => (nomatch e), fun _ _ e => (nomatch e)⟩
theorem noTup_ins {C d : Addr} {l : List (Str × V)} : NoTup (.ins C d l) := ⟨fun _ e => (nomatch e), fun _ _ e => (nomatch e)⟩
theorem noTup_dK {l : List (Key × V)} : NoTup (.dK l) := ⟨fun _ e => (nomatch e), fun _ _ e => (nomatch e)⟩
theorem BdAt.noTup {b : Addr} {A : BdA} (B : BdAt CB K H b rv c A s) : ∀ z ∈ ftB b A, ∀ o, H z = some o → NoTup o := fun z hz o e => by
  obtain ⟨xs, f1, _⟩ := B.fins
  simp only [ftB, List.mem_cons] at hz
  rcases hz with rfl | rfl | rfl | rfl | rfl | h
  · rw [B.ob] at e; cases e; exact noTup_ins
  · rw [B.lines] at e; cases e; exact noTup_lst
  · rw [B.used] at e; cases e; exact noTup_dK
  · rw [B.ran] at e; cases e; exact noTup_dK
  · rw [f1] at e; cases e; exact noTup_lst
  · obtain ⟨_, _, _, _, q⟩ := B.at_line h
    rw [q] at e; cases e; exact noTup_lst
theorem BnAt.noTup (B : BnAt CN CB K H n rv c N s r ps) : ∀ z ∈ ftN n N, ∀ o, H z = some o → NoTup o := fun z hz o e => by
  simp only [ftN, List.mem_cons] at hz
  rcases hz with rfl | rfl | h
  · rw [B.ob] at e; cases e; exact noTup_ins
  · rw [B.past] at e; cases e; exact noTup_lst
  · exact B.bd.noTup z h o e
theorem nf_board : (nfl N).lookup ("_board" : Str) = some (.ref N.b) := by kernel_rfl
theorem nf_past : (nfl N).lookup ("_past" : Str) = some (.ref N.p) := by kernel_rfl
theorem BnAt.np (B : BnAt CN CB K H n rv c N s r ps) : n ≠ N.p := ne_of B.ob B.past (by intro z; cases z)
theorem BnAt.bdR (B : BnAt CN CB K H n rv c N s r ps) : BdR K CB H N.b rv c N.A s r := ⟨B.bd, B.ok.toOk0, dp_same (offL_swap fun x hx => .inl (by simp [ftN, hx])) B.rule, B.lev⟩
theorem BnAt.same (B : BnAt CN CB K H n rv c N s r ps) (k : Same H H') : BnAt CN CB K H' n rv c N s r ps :=
  ⟨k.at B.ob, k.at B.past, B.bd.same k, B.ok, dp_same (offL_mono k) B.rule, B.lev, B.nb, B.pb⟩
theorem ftN_comp {X : Hp} {A' : BdA} : OffL [n, N.p] (OffL (ftB N.b A') X) = OffL (ftN n { N with A := A' }) X := offL_comp
/-- the board has done something -/
theorem BnAt.step (B : BnAt CN CB K H n rv c N s r ps) {A' : BdA} {s' : Bd} (S : Same (OffL (ftB N.b N.A) H) (OffL (ftB N.b A') H')) (B' : BdAt CB K H' N.b rv c A' s') (ok' : s'.Ok) (lev' : r.levels.length = s'.lines.length) :
    BnAt CN CB K H' n rv c { N with A := A' } s' r ps ∧ Same (OffL (ftN n N) H) (OffL (ftN n { N with A := A' }) H') := by
  have sm : Same (OffL (ftN n N) H) (OffL (ftN n { N with A := A' }) H') := by
    have y := offL_mono (ft := [n, N.p]) S
    rw [ftN_comp, ftN_comp] at y
    exact y
  obtain ⟨n1, n2⟩ := offL_some (S.at (o := .ins CN N.dn (nfl N)) (by rw [offL_out B.nb]; exact B.ob))
  obtain ⟨p1, p2⟩ := offL_some (S.at (o := .lst (ps.map V.ref).reverse) (by rw [offL_out B.pb]; exact B.past))
  exact ⟨⟨n2, p2, B', ok', dp_same sm B.rule, lev', n1, p1⟩, sm⟩
/-- a copy goes to the past -/
theorem BnAt.push (B : BnAt CN CB K H n rv c N s r ps) (k : Same H H') {t : Addr} {At : BdA} (Bt : BdAt CB K H' t rv c At s) (fr : ∀ z ∈ ftB t At, H z = none) :
    BnAt CN CB K (upd H' N.p (.lst ((ps.map V.ref).reverse ++ [V.ref t]))) n rv c N s r (t :: ps) ∧
    Same (OffL (ftN n N) H) (OffL (ftN n N) (upd H' N.p (.lst ((ps.map V.ref).reverse ++ [V.ref t])))) ∧ BdAt CB K (OffL (ftN n N) (upd H' N.p (.lst ((ps.map V.ref).reverse ++ [V.ref t])))) t rv c At s := by
  have B1 := B.same k
  have mp : N.p ∈ ftN n N := by simp [ftN]
  have sm : Same (OffL (ftN n N) H) (OffL (ftN n N) (upd H' N.p (.lst ((ps.map V.ref).reverse ++ [V.ref t])))) := by
    rw [offL_upd mp]
    exact offL_mono k
  have here : ∀ z ∈ ftN n N, H z ≠ none := fun z hz => by
    simp only [ftN, List.mem_cons] at hz
    rcases hz with rfl | rfl | h
    · rw [B.ob]; simp
    · rw [B.past]; simp
    · exact B.bd.here h
  have tn : ∀ z ∈ ftB t At, z ∉ ftN n N := fun z hz m => here z m (fr z hz)
  refine ⟨⟨by rw [upd_ne B.np]; exact B1.ob, ?_, B1.bd.keepT (fun x hx => upd_ne (fun e => B.pb (by rw [← e]; exact hx))) (fun a xs q => ?_), B.ok, dp_same sm B.rule, B.lev, B.nb, B.pb⟩, sm, ?_⟩
  · rw [upd_same]
    simp
  · rw [offL_put B.pb]
    exact sqt_put (by rw [offL_out B.pb]; exact B1.past) noTup_lst q
  · rw [offL_upd mp]
    refine Bt.keepT (fun x hx => offL_out (tn x hx)) (fun a xs q => ?_)
    · rw [offL_comp]
      have e : OffL (ftN n N) (OffL (ftB t At) H') = OffL (ftB t At ++ ftN n N) H' := by
        rw [offL_comp]
        funext x
        by_cases m : x ∈ ftN n N ++ ftB t At
        · rw [offL_in m, offL_in (by simpa [or_comm] using m)]
        · rw [offL_out m, offL_out (by simpa [or_comm, and_comm] using m)]
      rw [← e]
      exact sqt_off (fun z hz o h => B1.noTup z hz o (offL_some h).2) q
/-- a rule stays where tuples stay -/
theorem rul_keep {X Y : Hp} (k : ∀ a xs, SqT K X a xs → SqT K Y a xs) {v : V} (h : Dp K X v (bRulD r)) : Dp K Y v (bRulD r) := by
  obtain ⟨p, x, y, rfl, q, dx, dy⟩ := dp_two h
  obtain ⟨pl, xs, rfl, ql, rl⟩ := dp_tuple dx
  have opt : ∀ {o : Option Int} {v : V}, Dp K X v (bOptD o) → Dp K Y v (bOptD o) := fun {o v} h => by
    cases o with
    | none => cases h; exact .non
    | some i => cases dp_int h; exact .int i
  have lv : ∀ {vs : List V} {ls : List (Bool × Option Int)}, DpAll K X vs (ls.map bLevD) → DpAll K Y vs (ls.map bLevD) := fun {vs ls} => by
    intro h
    induction ls generalizing vs with
    | nil => cases h; exact .nil
    | cons l ls ih =>
      cases h with
      | cons a t =>
        obtain ⟨p, x, y, rfl, q, dx, dy⟩ := dp_two a
        have e := dp_str dx
        subst e
        exact .cons (.tup (k _ _ q) (.cons (.str _) (.cons (opt dy) .nil))) (ih t)
  exact .tup (k _ _ q) (.cons (.tup (k _ _ ql) (lv rl)) (.cons (opt dy) .nil))
theorem BnAt.keepT (B : BnAt CN CB K H n rv c N s r ps) (e : ∀ z ∈ ftN n N, H' z = H z) (k : ∀ a xs, SqT K (OffL (ftN n N) H) a xs → SqT K (OffL (ftN n N) H') a xs) (k2 : ∀ a xs, SqT K (OffL (ftB N.b N.A) H) a xs → SqT K (OffL (ftB N.b N.A) H') a xs) : BnAt CN CB K H' n rv c N s r ps :=
  ⟨(e _ (by simp [ftN])).trans B.ob, (e _ (by simp [ftN])).trans B.past, B.bd.keepT (fun z hz => e z (by simp [ftN, hz])) k2, B.ok, rul_keep k B.rule, B.lev, B.nb, B.pb⟩
/-- what is no part of it changes, no tuple -/
theorem BnAt.put (B : BnAt CN CB K H n rv c N s r ps) {z : Addr} {o u : HO} (nz : z ∉ ftN n N) (h : H z = some o) (nt : NoTup o) : BnAt CN CB K (upd H z u) n rv c N s r ps :=
  B.keepT (fun x hx => upd_ne (fun e => nz (by rw [← e]; exact hx))) (fun a xs q => by
    rw [offL_put nz]
    exact sqt_put (by rw [offL_out nz]; exact h) nt q) (fun a xs q => by
    have nz2 : z ∉ ftB N.b N.A := fun m => nz (by simp [ftN, m])
    rw [offL_put nz2]
    exact sqt_put (by rw [offL_out nz2]; exact h) nt q)
theorem sqt_kept {X Y : Hp} {z : Addr} {o : HO} (s : Same (Off z X) (Off z Y)) (h : X z = some o) (nt : NoTup o) {a : Addr} {xs : List V} (q : SqT K X a xs) : SqT K Y a xs := by
  rcases q with (q | ⟨w, q⟩) | q
  · have az : a ≠ z := fun e => by rw [e, h] at q; cases q; exact nt.1 xs rfl
    have y := s.at (o := .tup xs) (by rw [off_ne az]; exact q)
    rw [off_ne az] at y
    exact .inl (.inl y)
  · have az : a ≠ z := fun e => by rw [e, h] at q; cases q; exact nt.2 _ _ rfl
    have y := s.at (o := .frz w (.tup xs)) (by rw [off_ne az]; exact q)
    rw [off_ne az] at y
    exact .inl (.inr ⟨w, y⟩)
  · exact .inr q
theorem offL_off {ft : List Addr} {z : Addr} {X : Hp} : OffL ft (Off z X) = Off z (OffL ft X) := by
  rw [← offL_one, ← offL_one, offL_comp, offL_comp]
  funext x
  by_cases m : x ∈ ft ++ [z]
  · rw [offL_in m, offL_in (by simp at m ⊢; exact m.symm)]
  · rw [offL_out m, offL_out (fun y => m (by simp at y ⊢; exact y.symm))]
/-- .. as by a call that changes one list -/
theorem BnAt.kept (B : BnAt CN CB K H n rv c N s r ps) {z : Addr} {o : HO} (nz : z ∉ ftN n N) (h : H z = some o) (nt : NoTup o) (k : Same (Off z H) (Off z H')) : BnAt CN CB K H' n rv c N s r ps := by
  refine B.keepT (fun x hx => ?_) (fun a xs q => sqt_kept (z := z) ?_ (by rw [offL_out nz]; exact h) nt q) (fun a xs q => sqt_kept (z := z) ?_ (by rw [offL_out fun m => nz (by simp [ftN, m])]; exact h) nt q)
  · have xz : x ≠ z := fun e => nz (by rw [← e]; exact hx)
    have w : ∃ u, H x = some u ∧ NoTbl u := by
      obtain ⟨xs, f1, _⟩ := B.bd.fins
      simp only [ftN, ftB, List.mem_cons] at hx
      rcases hx with rfl | rfl | rfl | rfl | rfl | rfl | rfl | hx
      · exact ⟨_, B.ob, trivial⟩
      · exact ⟨_, B.past, trivial⟩
      · exact ⟨_, B.bd.ob, trivial⟩
      · exact ⟨_, B.bd.lines, trivial⟩
      · exact ⟨_, B.bd.used, trivial⟩
      · exact ⟨_, B.bd.ran, trivial⟩
      · exact ⟨_, f1, trivial⟩
      · obtain ⟨_, _, _, _, q⟩ := B.bd.at_line hx
        exact ⟨_, q, trivial⟩
    obtain ⟨u, w1, w2⟩ := w
    have y := k.at_ x u (by rw [off_ne xz]; exact w1) w2
    rw [off_ne xz] at y
    rw [y, w1]
  · rw [← offL_off, ← offL_off]
    exact offL_mono k
  · rw [← offL_off, ← offL_off]
    exact offL_mono k
end
end Vk
set_option maxHeartbeats 4000000
/-! the law's levels in the heap -/
namespace Vk
open PySem PySem.Spec PyProof.Rows L2 GxR
theorem nd_take {α : Type} {l : List α} {i : Nat} {x : α} (nd : l.Nodup) (h : l[i]? = some x) : x ∉ l.take i := by
  obtain ⟨j1, j2⟩ := List.getElem?_eq_some_iff.mp h
  intro m
  rw [← List.take_append_drop i l, List.drop_eq_getElem_cons j1, j2] at nd
  exact (List.nodup_append.mp nd).2.2 _ m _ (List.mem_cons_self ..) rfl
def refs (A : List (Addr × Jb)) : List V := A.map fun p => V.ref p.1
def JsAt (H : Hp) (A : List (Addr × Jb)) : Prop := ∀ p ∈ A, H p.1 = some (jv p.2)
abbrev Lv := List (Addr × List (Addr × Jb))
def tops (L : Lv) : List V := L.map fun p => V.ref p.1
def jbs (L : Lv) : List (List Jb) := L.map fun p => p.2.map (·.2)
def jl (L : Lv) : List (Addr × Jb) := L.flatMap (·.2)
def jas (L : Lv) : List Addr := (jl L).map (·.1)
structure LnAt (X : Hp) (ls : Addr) (L : Lv) : Prop where
  top : X ls = some (.lst (tops L))
  line : ∀ p ∈ L, X p.1 = some (.lst (refs p.2))
  jobs : JsAt X (jl L)
  nd : (jas L).Nodup
theorem JsAt.same {H H' : Hp} {A : List (Addr × Jb)} (h : JsAt H A) (s : Same H H') : JsAt H' A := fun p hp => s.at (h p hp)
theorem LnAt.same {X X' : Hp} {ls : Addr} {L : Lv} (h : LnAt X ls L) (s : Same X X') : LnAt X' ls L := ⟨s.at h.top, fun p hp => s.at (h.line p hp), h.jobs.same s, h.nd⟩
theorem refs_noInt {A : List (Addr × Jb)} {v : V} {i : Int} {tl : List V} (e : refs A = v :: .int i :: tl) : False := by
  unfold refs at e
  cases A with
  | nil => cases e
  | cons w r =>
    cases r with
    | nil => cases e
    | cons u r => cases e
theorem refs_noStr {A : List (Addr × Jb)} {x : Str} {tl : List V} (e : refs A = .str x :: tl) : False := by
  unfold refs at e
  cases A with
  | nil => cases e
  | cons w r => cases e
theorem tops_noInt {L : Lv} {v : V} {i : Int} {tl : List V} (e : tops L = v :: .int i :: tl) : False := by
  unfold tops at e
  cases L with
  | nil => cases e
  | cons w r =>
    cases r with
    | nil => cases e
    | cons u r => cases e
theorem tops_noStr {L : Lv} {x : Str} {tl : List V} (e : tops L = .str x :: tl) : False := by
  unfold tops at e
  cases L with
  | nil => cases e
  | cons w r => cases e
theorem jl_mem {L : Lv} {p : Addr × List (Addr × Jb)} {a : Addr × Jb} (hp : p ∈ L) (ha : a ∈ p.2) : a ∈ jl L := List.mem_flatMap.mpr ⟨p, hp, ha⟩
theorem jl_ex {L : Lv} {a : Addr × Jb} (h : a ∈ jl L) : ∃ p ∈ L, a ∈ p.2 := List.mem_flatMap.mp h
theorem jbs_len {L : Lv} : (jbs L).length = L.length := List.length_map ..
theorem jbs_get {L : Lv} {i : Nat} {p : Addr × List (Addr × Jb)} (h : L[i]? = some p) : (jbs L)[i]? = some (p.2.map (·.2)) := by
  unfold jbs
  rw [List.getElem?_map, h]
  rfl
theorem jbs_flat {L : Lv} : (jbs L).flatten = (jl L).map (·.2) := by
  unfold jbs jl
  induction L with
  | nil => rfl
  | cons p L ih => rw [List.map_cons, List.flatten_cons, List.flatMap_cons, List.map_append, ih]
theorem nd_inj {α β : Type} {f : α → β} : ∀ {l : List α} {a b : α}, (l.map f).Nodup → a ∈ l → b ∈ l → f a = f b → a = b
  | [], _, _, _, h, _, _ => by cases h
  | x :: l, a, b, nd, ha, hb, e => by
    obtain ⟨n1, n2⟩ := List.nodup_cons.mp nd
    rcases List.mem_cons.mp ha with ha | ha
    · rcases List.mem_cons.mp hb with hb | hb
      · rw [ha, hb]
      · exact absurd (List.mem_map.mpr ⟨b, hb, by rw [← e, ha]⟩) n1
    · rcases List.mem_cons.mp hb with hb | hb
      · exact absurd (List.mem_map.mpr ⟨a, ha, by rw [e, hb]⟩) n1
      · exact nd_inj n2 ha hb e
theorem jl_names {L : Lv} {s : Bd} (R : RelL s (jbs L)) : (jl L).map (fun a => a.2.1) = s.order := by
  rw [R.order, jbs_flat, List.map_map]
  rfl
/-- ls is no job, no line -/
theorem LnAt.ls_job {X : Hp} {ls : Addr} {L : Lv} (h : LnAt X ls L) : ls ∉ jas L := fun m => by
  obtain ⟨a, ha, e⟩ := List.mem_map.mp m
  have z := h.jobs a ha
  rw [e, h.top] at z
  exact tops_noStr (HO.lst.inj (Option.some.inj z))
theorem LnAt.ls_line {X : Hp} {ls : Addr} {L : Lv} (h : LnAt X ls L) : ∀ p ∈ L, p.1 ≠ ls := fun p hp e => by
  have z := h.line p hp
  rw [e, h.top] at z
  have w := HO.lst.inj (Option.some.inj z)
  unfold tops refs at w
  have m : V.ref p.1 ∈ L.map fun p => V.ref p.1 := List.mem_map.mpr ⟨p, hp, rfl⟩
  rw [w] at m
  obtain ⟨a, ha, e2⟩ := List.mem_map.mp m
  have y := h.jobs a (jl_mem hp ha)
  rw [V.ref.inj e2, h.line p hp] at y
  exact refs_noStr (HO.lst.inj (Option.some.inj y))
theorem LnAt.line_job {X : Hp} {ls : Addr} {L : Lv} (h : LnAt X ls L) : ∀ p ∈ L, p.1 ∉ jas L := fun p hp m => by
  obtain ⟨a, ha, e⟩ := List.mem_map.mp m
  have z := h.jobs a ha
  rw [e, h.line p hp] at z
  exact refs_noStr (HO.lst.inj (Option.some.inj z))
/-- one level becomes another line -/
theorem LnAt.setLv {X X' : Hp} {ls : Addr} {L : Lv} (h : LnAt X ls L) (k : Same (Off ls X) (Off ls X')) {i : Nat} {d : Addr} {A : List (Addr × Jb)} (dn : d ≠ ls) (hd : X' d = some (.lst (refs A))) (hA : JsAt X' A) (nd : (jas (L.set i (d, A))).Nodup) (hl : X' ls = some (.lst (tops (L.set i (d, A))))) : LnAt X' ls (L.set i (d, A)) := by
  have old : ∀ {z : Addr} {o : HO}, z ≠ ls → X z = some o → NoTbl o → X' z = some o := fun {z o} zn e nt => by
    have y := k.at_ z o (by rw [off_ne zn]; exact e) nt
    rw [off_ne zn] at y
    exact y
  have mem : ∀ p ∈ L.set i (d, A), (∃ p' ∈ L, p' = p) ∨ p = (d, A) := fun p hp => by
    rcases mem_set_or hp with ⟨k, _, e⟩ | e
    · exact .inl ⟨p, List.mem_of_getElem? e, rfl⟩
    · exact .inr e
  refine ⟨hl, fun p hp => ?_, fun a ha => ?_, nd⟩
  · rcases mem p hp with ⟨p', h1, rfl⟩ | rfl
    · exact old (h.ls_line _ h1) (h.line _ h1) trivial
    · exact hd
  · obtain ⟨p, hp, ha⟩ := jl_ex ha
    rcases mem p hp with ⟨p', h1, rfl⟩ | rfl
    · have m := jl_mem h1 ha
      exact old (fun e => h.ls_job (by rw [← e]; exact List.mem_map.mpr ⟨a, m, rfl⟩)) (h.jobs a m) trivial
    · exact hA a ha
theorem tops_set {L : Lv} {i : Nat} {d : Addr} {A : List (Addr × Jb)} : tops (L.set i (d, A)) = (tops L).set i (V.ref d) := by
  unfold tops
  rw [List.map_set]
theorem jbs_set {L : Lv} {i : Nat} {d : Addr} {A : List (Addr × Jb)} : jbs (L.set i (d, A)) = (jbs L).set i (A.map (·.2)) := by
  unfold jbs
  rw [List.map_set]
/-- the addresses behind a change of one level -/
theorem jas_set_sub {L : Lv} {i : Nat} {d : Addr} {A : List (Addr × Jb)} {z : Addr} (h : z ∈ jas (L.set i (d, A))) : z ∈ jas L ∨ z ∈ A.map (·.1) := by
  obtain ⟨a, ha, rfl⟩ := List.mem_map.mp h
  obtain ⟨p, hp, ha⟩ := jl_ex ha
  rcases mem_set_or hp with ⟨k, _, e⟩ | rfl
  · exact .inl (List.mem_map.mpr ⟨a, jl_mem (List.mem_of_getElem? e) ha, rfl⟩)
  · exact .inr (List.mem_map.mpr ⟨a, ha, rfl⟩)
theorem jas_set_nd : ∀ {L : Lv} {i : Nat} {p : Addr × List (Addr × Jb)} {d : Addr} {A : List (Addr × Jb)}, (jas L).Nodup → L[i]? = some p → (A.map (·.1)).Nodup → (∀ z ∈ A.map (·.1), z ∈ p.2.map (·.1) ∨ z ∉ jas L) → (jas (L.set i (d, A))).Nodup
  | [], _, _, _, _, _, h, _, _ => by simp at h
  | q :: L, 0, p, d, A, nd, h, ndA, hz => by
    cases Option.some.inj h
    have e1 : jas (q :: L) = q.2.map (·.1) ++ jas L := by unfold jas jl; rw [List.flatMap_cons, List.map_append]
    have e2 : jas ((q :: L).set 0 (d, A)) = A.map (·.1) ++ jas L := by unfold jas jl; rw [List.set_cons_zero, List.flatMap_cons, List.map_append]
    rw [e1] at nd hz
    rw [e2]
    obtain ⟨n1, n2, n3⟩ := List.nodup_append.mp nd
    refine List.nodup_append.mpr ⟨ndA, n2, fun a ha b hb e => ?_⟩
    rcases hz a ha with h1 | h1
    · exact n3 a h1 b hb e
    · exact h1 (List.mem_append_right _ (by rw [e]; exact hb))
  | q :: L, i + 1, p, d, A, nd, h, ndA, hz => by
    have e1 : jas (q :: L) = q.2.map (·.1) ++ jas L := by unfold jas jl; rw [List.flatMap_cons, List.map_append]
    have e2 : jas ((q :: L).set (i + 1) (d, A)) = q.2.map (·.1) ++ jas (L.set i (d, A)) := by unfold jas jl; rw [List.set_cons_succ, List.flatMap_cons, List.map_append]
    rw [e1] at nd hz
    rw [e2]
    obtain ⟨n1, n2, n3⟩ := List.nodup_append.mp nd
    have h : L[i]? = some p := h
    refine List.nodup_append.mpr ⟨n1, jas_set_nd (L := L) n2 h ndA fun z hz' => (hz z hz').imp id fun w m => w (List.mem_append_right _ m), fun a ha b hb e => ?_⟩
    rcases jas_set_sub hb with h1 | h1
    · exact n3 a ha b h1 e
    · rcases hz b h1 with h2 | h2
      · have : b ∈ jas L := by
          obtain ⟨y, hy, rfl⟩ := List.mem_map.mp h2
          exact List.mem_map.mpr ⟨y, jl_mem (List.mem_of_getElem? h) hy, rfl⟩
        exact n3 a ha b this e
      · exact h2 (List.mem_append_left _ (by rw [← e]; exact ha))
/-- the order: tuples of a level and a job -/
abbrev Or_ := List (Addr × Nat × (Addr × Jb))
def OrdAt (X : Hp) (O : Or_) : Prop := ∀ q ∈ O, X q.1 = some (.tup [.int (q.2.1 : Nat), .ref q.2.2.1])
def ordL (L : Lv) : List (Nat × (Addr × Jb)) := L.zipIdx.flatMap fun q => q.1.2.map fun a => (q.2, a)
theorem OrdAt.same {X X' : Hp} {O : Or_} (h : OrdAt X O) (s : Same X X') : OrdAt X' O := fun q hq => s.at (h q hq)
theorem ordL_jobs {L : Lv} : (ordL L).map (·.2) = jl L := by
  have gen : ∀ (L : Lv) (k : Nat), ((L.zipIdx k).flatMap fun q => q.1.2.map fun a => (q.2, a)).map (·.2) = jl L := fun L => by
    induction L with
    | nil => intro k; rfl
    | cons p L ih =>
      intro k
      rw [List.zipIdx_cons, List.flatMap_cons, List.map_append, ih (k + 1), List.map_map]
      unfold jl
      rw [List.flatMap_cons]
      congr 1
      exact (List.map_congr_left fun a _ => rfl).trans (List.map_id _)
  exact gen L 0
theorem ordL_at {L : Lv} {k : Nat} {a : Addr × Jb} (h : (k, a) ∈ ordL L) : ∃ p, L[k]? = some p ∧ a ∈ p.2 := by
  obtain ⟨q, hq, hm⟩ := List.mem_flatMap.mp h
  obtain ⟨b, hb, e⟩ := List.mem_map.mp hm
  cases e
  obtain ⟨p, i⟩ := q
  have z := List.mem_zipIdx_iff_getElem?.mp hq
  exact ⟨p, z, hb⟩
theorem ordL_snoc {L : Lv} {i : Nat} {p : Addr × List (Addr × Jb)} (h : L[i]? = some p) : ordL (L.take (i + 1)) = ordL (L.take i) ++ p.2.map fun a => (i, a) := by
  have lt : i < L.length := (List.getElem?_eq_some_iff.mp h).1
  unfold ordL
  rw [List.take_add_one, h, List.zipIdx_append, List.flatMap_append]
  congr 1
  rw [List.length_take, Nat.min_eq_left (by omega)]
  simp
theorem plan_level {K : PySem.W.Frag} {H : Hp} {v : V} {r : Rl} (d : Dp K H v (.tuple (r.levels.map bLevD))) : ∃ (pl : Addr) (xs : List V), v = .ref pl ∧ SqT K H pl xs ∧ xs.length = r.levels.length ∧ ∀ i, i < r.levels.length → ∃ pe, xs[i]? = some (.ref pe) ∧ SqT K H pe [.str (bKindS (r.stackAt i)), bOptW (r.quantAt i)] := by
  obtain ⟨pl, xs, rfl, ql, rl⟩ := dp_tuple d
  have ln := dps_len rl
  rw [List.length_map] at ln
  refine ⟨pl, xs, rfl, ql, ln, fun i h => ?_⟩
  have hl : r.levels[i]? = some (r.levels.getD i (false, none)) := by
    rw [List.getD_eq_getElem?_getD, List.getElem?_eq_getElem h]
    rfl
  obtain ⟨v, hv, dv⟩ := dps_get rl (i := i) (d := bLevD (r.levels.getD i (false, none))) (by rw [List.getElem?_map, hl]; rfl)
  obtain ⟨pe, x1, y1, rfl, qe, dx1, dy1⟩ := dp_two dv
  have e1 := dp_str dx1
  subst e1
  have opt : ∀ {o : Option Int} {v : V}, Dp K H v (bOptD o) → v = bOptW o := fun {o v} h => by
    cases o with
    | none => (cases h; rfl)
    | some i => exact dp_int h
  have e2 := opt dy1
  subst e2
  exact ⟨pe, hv, qe⟩
end Vk
set_option maxHeartbeats 8000000
/-! how many have finished; where something ends -/
namespace Vk
open PySem PySem.Spec PyProof.Rows L2
def Bd.done (s : Bd) : Int := (s.ran.length : Int) - (s.used.length : Int)
def Bd.quEnds (r : Rl) (s : Bd) (xs : List Str) : List Int := xs.filterMap fun x => (r.quantAt (s.level x)).map fun q => q - getS s.used x
def Bd.boEnds (r : Rl) (s : Bd) (xs : List Str) : List Int := if xs = [] then [] else match r.boost with
  | some b => [b - s.now.fmod b]
  | none => []
section
variable {P : Program} {w : World} {K : PySem.W.Frag} {mg : Str → Option Value} {base : Heap} {CB : Addr}
def spMany (K : PySem.W.Frag) (CB : Addr) : Sp := fun vs H Q _ => ∃ (b : Addr) (rv : V) (c : Int) (A : BdA) (s : Bd), vs = [.ref b] ∧ BdAt CB K H b rv c A s ∧ Q (.int s.done) H
theorem scMany : FnScope ["self"] ["self"] (defScope sBdMany) := ⟨rfl, rfl, rfl, by decide +kernel, rfl, by decide +kernel, by decide +kernel⟩
theorem ok_many (D : MDf K CB "many_finished" "Board.many_finished" sBdMany ["self"]) (T : BdC K CB) (ml : mg "len" = none) : MCl P w K mg base CX0 1 CB "many_finished" ["self"] (spMany K CB) := by
  refine mcl0 D scMany (fun vs H Q E h => ?_) (fun f cdv A outer s H vs Q E hr h => ?_)
  · obtain ⟨b, rv, c, A, s, rfl, _⟩ := h
    rfl
  · obtain ⟨b, rv, c, Ab, sb, rfl, B, k⟩ := h
    refine ⟨_, pss_one (ps_ret (pe_op op_sub (pe_callB call_lenD (by rfl) ml PySem.boot_len (pa_cons (pe_fld (pv 0) rfl) pa_nil)) (pe_callB call_lenD (by rfl) ml PySem.boot_len (pa_cons (pe_fld (pv 0) rfl) pa_nil)))), ?_⟩
    refine ⟨_, rfl, b, CB, Ab.dx, _, _, rfl, B.ob, T.cl, T.nA, bf_ran, _, _, rfl, B.ran, _, rfl, b, CB, Ab.dx, _, _, rfl, B.ob, T.cl, T.nU, bf_used, _, _, rfl, B.used, _, _, rfl, rfl, ?_⟩
    unfold kvS
    rw [List.length_map, List.length_map]
    exact k
abbrev NK : List Str := ["self", "levels", "boost", "running", "boosts", "quanta", "name", "quantum"]
def spEnds (K : PySem.W.Frag) (CB : Addr) : Sp := fun vs H Q _ => ∃ (b : Addr) (rv : V) (c : Int) (A : BdA) (s : Bd) (r : Rl), vs = [.ref b] ∧ BdR K CB H b rv c A s r ∧ 0 ≤ c ∧ (∀ q, r.boost = some q → q ≠ 0) ∧ ∀ (D : Addr) (H' : Hp), H D = none → Same H H' → H' D = some (.lst ((Bd.boEnds r s (s.run c) ++ Bd.quEnds r s (s.run c)).map V.int)) → Q (.ref D) H'
theorem scEnds : FnScope NK ["self"] (defScope sBdEnds) := ⟨rfl, rfl, rfl, by decide +kernel, rfl, by decide +kernel, by decide +kernel⟩
theorem ok_ends (D : MDf K CB "ends" "Board.ends" sBdEnds ["self"]) (T : BdC K CB) (RU : MCl P w K mg base CX0 2 CB "running" ["self"] (spRun K CB)) (LO : MCl P w K mg base CX0 1 CB "level_of" ["self", "name"] (spLevelOf K CB)) : MCl P w K mg base CX0 3 CB "ends" ["self"] (spEnds K CB) := by
  refine mcl0 D scEnds (fun vs H Q E h => ?_) (fun f cdv Ar outer s0 H vs Q E hr h => ?_)
  · obtain ⟨b, rv, c, A, s, r, rfl, _⟩ := h
    rfl
  · obtain ⟨b, rv, c, A, s, r, rfl, ⟨BA, ok, dr, lev⟩, c0, bq, k⟩ := h
    obtain ⟨fR, fdR, MR, bR, FR⟩ := RU.ex
    obtain ⟨fO, fdO, MO, bO, FO⟩ := LO.ex
    refine ⟨_, pss_cons (ps_asg (pe_fld (pv 0) rfl) (pg_tup rfl (pgs_cons (pg_name (i := 1) scEnds.nd rfl (.inr rfl)) (pgs_cons (pg_name (i := 2) scEnds.nd rfl (.inl rfl)) pgs_nil))))
      (pss_cons (ps_set (i := 3) scEnds.nd rfl (Or.inl rfl) (pe_meth0 (pv 0) T.cl MR FR hr bR .nil pass0))
      (pss_cons (ps_set (i := 4) scEnds.nd rfl (Or.inl rfl) (pe_ifExp (PW.pt (pw_and (pt_truth (pv 3) (fun _ => rfl)) (pw_and1 (pt_cmpR op_notN (pv 2) pe_non (nomark _))))) (pe_lst (pa_cons (pe_op op_sub (pv 2) (pe_op op_modN (pe_fld (pv 0) rfl) (pv 2))) pa_nil)) (pe_lst pa_nil)))
      (pss_cons (ps_setLc (i := 5) (own := [("name", 6)]) (g := gName 6) (tt := tYes) (te := tTup (tCons (tOp (rIxT K) (tOp (rIxT K) (tVar 1) (tMeth CB "level_of" (spLevelOf K CB) [] E0 (tVar 0) (tCons (tVar 6) tNil))) (tC (.int 1))) (tCons (tVar 6) tNil))) rfl scEnds.nd rfl rfl (sw_true rfl rfl rfl (by decide +kernel)) (pi_tup (pv 3)) (blkOk_by (own := [("name", 6)]) (N := NK) (sc := defScope sBdEnds) (by decide +kernel))
          (fun _ _ _ _ _ => pg_name (i := 6) scEnds.nd rfl (Or.inl rfl)) (fun _ _ _ _ _ => pts_nil) (fun _ _ _ _ _ => pe_tup (pa_cons (pe_ix ix_tup (pe_ix ix_tup (pv 1) (pe_meth (pv 0) T.cl MO FO (hr.mono (by decide)) bO .nil pass0 (pa_cons (pv 6) pa_nil)) (fun _ _ => rfl)) pe_int (fun _ _ => rfl)) (pa_cons (pv 6) pa_nil))))
      (pss_one (ps_ret (pe_op op_cat (pv 4) (pe_lc (own := [("quantum", 7), ("name", 6)]) (g := gTup K 2 (gCons (gName 7) (gCons (gName 6) gNil))) (tt := tTest (tOp (fun x y H Q => y = .non ∧ Q (.bl (!decide (x = .non))) H) (tVar 7) (tC .non))) (te := tOp (rI0 fun i j => .int (i - j)) (tVar 7) (tDGet (tFld K (tVar 0) "used") (tVar 6))) (by rfl) scEnds.nd (pi_list (pv 5)) (blkOk_by (own := [("quantum", 7), ("name", 6)]) (N := NK) (sc := defScope sBdEnds) (by decide +kernel))
          (fun _ _ _ _ _ => pg_tup rfl (pgs_cons (pg_name (i := 7) scEnds.nd rfl (.inl rfl)) (pgs_cons (pg_name (i := 6) scEnds.nd rfl (.inl rfl)) pgs_nil))) (fun _ _ _ _ _ => pts_one (pt_cmpR op_notN (pv 7) pe_non (nomark _))) (fun _ _ _ _ _ => pe_op op_sub (pv 7) (pe_dget (hu_of hr) (pe_fld (pv 0) rfl) (pv 6) (fun _ _ => rfl))))))))))  , ?_⟩
    obtain ⟨pp, x0, y0, rfl, qp, dx0, dy0⟩ := dp_two dr
    obtain ⟨pl, ys, rfl, ql, lys, lvl⟩ := plan_level dx0
    have subF := offL_sub (ftB b A) H
    have ey : y0 = bOptW r.boost := by
      cases hb : r.boost with
      | none =>
        rw [hb] at dy0
        cases dy0
        rfl
      | some q =>
        rw [hb] at dy0
        exact dp_int dy0
    subst ey
    refine ⟨_, rfl, b, CB, A.dx, _, _, rfl, BA.ob, T.cl, T.nR, bf_rule, pp, _, rfl, same_seqT subF qp, rfl, _, _, rfl, _, _, rfl, rfl, ?_⟩
    refine ⟨_, rfl, b, A.dx, _, rfl, BA.ob, by kernel_rfl, b, _, c, A, s, rfl, BA, ok, c0, fun DR H1 nDR s1 hDR => ?_⟩
    have B1 := BA.same s1
    apply cutR (α := Addr → Hp → Prop) (F := fun R => ∀ (D4 : Addr) (H4 : Hp), Same H1 H4 → H4 D4 = some (.lst ((Bd.boEnds r s (s.run c)).map V.int)) → R D4 H4)
    · intro cont
      refine ⟨_, rfl, _, .inr (.inl ⟨_, SqT.of hDR, rfl⟩), ?_⟩
      have none_ : Bd.boEnds r s (s.run c) = [] → ∀ {R : V → Hp → Prop}, (∀ (D4 : Addr) (H4 : Hp), Same H1 H4 → H4 D4 = some (.lst ((Bd.boEnds r s (s.run c)).map V.int)) → R (.ref D4) H4) → tLst tNil [some (.ref b), some (.ref pl), some (bOptW r.boost), some (.ref DR), none, none, none, none] H1 R := fun e R go => by
        refine ⟨Nat.zero_le _, fun D nD => go D _ (same_new nD) ?_⟩
        rw [e]
        exact upd_same
      by_cases he : s.run c = []
      · have z : (!((s.run c).map V.str).isEmpty) = false := by rw [he]; rfl
        rw [z]
        refine iteF ?_
        refine iteF ?_
        exact none_ (if_pos he) cont
      · have z : (!((s.run c).map V.str).isEmpty) = true := by
          cases q : s.run c with
          | nil => exact absurd q he
          | cons _ _ => rfl
        rw [z]
        refine iteT ?_
        rcases (show r.boost = none ∨ ∃ q, r.boost = some q by cases r.boost with | none => exact .inl rfl | some q => exact .inr ⟨q, rfl⟩) with hb | ⟨q, hb⟩
        · have eb : bOptW r.boost = .non := by rw [hb]; rfl
          refine ⟨_, rfl, rfl, _, rfl, ?_⟩
          rw [show (!decide (bOptW r.boost = V.non)) = false from by rw [eb]; rfl]
          refine iteF ?_
          refine none_ ?_ cont
          unfold Bd.boEnds
          rw [if_neg he, hb]
        · have eb : bOptW r.boost = .int q := by rw [hb]; rfl
          refine ⟨_, rfl, rfl, _, rfl, ?_⟩
          rw [show (!decide (bOptW r.boost = V.non)) = true from by rw [eb]; rfl]
          refine iteT ?_
          refine ⟨_, rfl, _, rfl, b, CB, A.dx, _, _, rfl, B1.ob, T.cl, T.nN, bf_now, _, rfl, _, _, rfl, eb, bq q hb, _, _, eb, rfl, by show 1 ≤ sizeLine; decide, fun D nD => cont D _ (same_new nD) ?_⟩
          unfold Bd.boEnds
          rw [if_neg he, hb]
          exact upd_same
    intro D4 H4 s4 hD4
    have s14 := s1.trans s4
    have hDR4 := s4.at hDR
    refine ⟨_, rfl, DR, rfl, ⟨_, SqT.of hDR4⟩, fun D5 nD5 => ?_⟩
    have rn := Bd.run_nd ok (c := c)
    have rl := Bd.run_le ok (c := c)
    have l6 := ok.lines6
    let mk : Str → PyData := fun x => .tuple [bOptD (r.quantAt (s.level x)), .str x]
    refine lc_it (walk_tup (K := K) (a := DR) (xs := (s.run c).map V.str)) (fun i Hc => ∃ acc, Hc D5 = some (.lst acc) ∧ Same H4 (Off D5 Hc) ∧ DpAll K (Off D5 Hc) acc (((s.run c).take i).map mk)) ⟨[], upd_same, off_newB nD5, .nil⟩ (fun i Hc _ ⟨_, _, sc, _⟩ => SqT.of ((sc.trans (off_sub D5 Hc)).at hDR4)) ?_ ?_
    · rintro i y Hc0 Hc hi ⟨acc, hD, sc, da⟩ ⟨rfl, hy⟩
      rw [List.getElem?_map] at hy
      obtain ⟨x, hx, rfl⟩ := Option.map_eq_some_iff.mp hy
      have xm := List.mem_of_getElem? hx
      have xo := Bd.run_sub x xm
      have sH := s14.trans (sc.trans (off_sub D5 Hc))
      have BC := BA.same sH
      have al := dps_len da
      rw [List.length_map, List.length_take] at al
      have lt : s.level x < r.levels.length := by rw [lev]; exact (Bd.at_level xo).lt
      obtain ⟨pe, hpe, qpe⟩ := lvl _ lt
      refine ⟨rfl, _, rfl, _, rfl, b, A.dx, _, rfl, BC.ob, by kernel_rfl, _, rfl, b, _, c, A, s, x, rfl, BC, ok, xo, fun G1 sG1 => ?_⟩
      have sH1 := sH.trans sG1
      refine ⟨pl, _, _, _, rfl, rfl, same_seqT (subF.trans sH1) ql, atI_nat hpe, pe, _, _, _, rfl, rfl, same_seqT (subF.trans sH1) qpe, rfl, _, rfl, by show 2 ≤ sizeLine; decide, fun t nt => ?_⟩
      have st := same_new (o := .tup [bOptW (r.quantAt (s.level x)), .str x]) nt
      have hDG := sG1.at hD
      have tD : t ≠ D5 := (ne_of_none hDG nt).symm
      have sAll := sG1.trans st
      refine ⟨acc, st.at hDG, Nat.lt_of_le_of_lt (show acc.length ≤ 1000 by omega) (by decide), acc ++ [.ref t], upd_same, ?_, ?_⟩
      · rw [off_upd]
        exact sc.trans (off_mono sAll)
      · rw [off_upd, List.take_add_one, hx, List.map_append]
        refine dps_app (dps_same (off_mono sAll) da) (.cons (.tup (a := t) (SqT.of (by rw [off_ne tD, upd_same])) (.cons ?_ (.cons (.str _) .nil))) .nil)
        cases r.quantAt (s.level x) with
        | none => exact .non
        | some q => exact .int q
    · rintro Hc ⟨acc, hD, sc, da⟩
      rw [List.length_map, List.take_length] at da
      have al := dps_len da
      rw [List.length_map] at al
      have sC := sc.trans (off_sub D5 Hc)
      have hD4C := sC.at hD4
      dsimp only [gName]
      refine ⟨_, rfl, _, rfl, D5, rfl, ⟨_, SqL.of hD⟩, fun D6 nD6 => ?_⟩
      have s6 := same_new (o := .lst ([] : List V)) nD6
      refine lc_it (walk_list (K := K) (a := D5) (xs := acc)) (fun i He => ∃ ns : List Int, He D6 = some (.lst (ns.map V.int)) ∧ Same Hc (Off D6 He) ∧ ns = Bd.quEnds r s ((s.run c).take i)) ⟨[], upd_same, off_newB nD6, rfl⟩ (fun i He _ ⟨_, _, se, _⟩ => SqL.of ((se.trans (off_sub D6 He)).at hD)) ?_ ?_
      · rintro i y He0 He hi ⟨ns, hN, se, en⟩ ⟨rfl, hy⟩
        obtain ⟨d, hd, dd⟩ := dps_getV da hy
        rw [List.getElem?_map] at hd
        obtain ⟨x, hx, rfl⟩ := Option.map_eq_some_iff.mp hd
        have xo := Bd.run_sub x (List.mem_of_getElem? hx)
        have sE := se.trans (off_sub D6 He)
        have sH := s14.trans (sC.trans sE)
        have BC := BA.same sH
        obtain ⟨p, qv, xv, rfl, qq, dq, dx⟩ := dp_two (dp_same ((off_sub D5 Hc).trans sE) dd)
        have ex := dp_str dx
        subst ex
        have eq : qv = bOptW (r.quantAt (s.level x)) := by
          cases hq : r.quantAt (s.level x) with
          | none => rw [hq] at dq; cases dq; rfl
          | some q => rw [hq] at dq; exact dp_int dq
        subst eq
        have ln : ns.length ≤ i := by
          rw [en]
          refine Nat.le_trans (List.length_filterMap_le ..) ?_
          rw [List.length_take]
          exact Nat.min_le_left ..
        have tk : Bd.quEnds r s ((s.run c).take (i + 1)) = Bd.quEnds r s ((s.run c).take i) ++ (match r.quantAt (s.level x) with | some q => [q - getS s.used x] | none => []) := by
          unfold Bd.quEnds
          rw [List.take_add_one, hx, List.filterMap_append]
          congr 1
          cases hq : r.quantAt (s.level x) <;> simp [hq]
        rw [tk]
        refine ⟨p, _, rfl, qq, rfl, _, _, rfl, _, _, rfl, rfl, rfl, _, rfl, rfl, _, rfl, ?_⟩
        rcases (show r.quantAt (s.level x) = none ∨ ∃ q, r.quantAt (s.level x) = some q by cases r.quantAt (s.level x) with | none => exact .inl rfl | some q => exact .inr ⟨q, rfl⟩) with hb | ⟨q, hb⟩
        · have eb : bOptW (r.quantAt (s.level x)) = .non := by rw [hb]; rfl
          rw [show (!decide (bOptW (r.quantAt (s.level x)) = V.non)) = false from by rw [eb]; rfl]
          refine iteF ⟨ns, hN, se, ?_⟩
          rw [hb, List.append_nil]
          exact en
        · have eb : bOptW (r.quantAt (s.level x)) = .int q := by rw [hb]; rfl
          rw [show (!decide (bOptW (r.quantAt (s.level x)) = V.non)) = true from by rw [eb]; rfl]
          refine iteT ?_
          refine ⟨_, rfl, _, rfl, b, CB, A.dx, _, _, rfl, BC.ob, T.cl, T.nU, bf_used, _, rfl, A.u, .int (getS s.used x), rfl, ?_, _, _, eb, rfl, ?_⟩
          · have z := DGet.k (k := (.inr x : Key)) BC.used
            rw [valS, lookS ((ok.here x).mpr xo)] at z
            exact z
          refine ⟨_, hN, ?_, ns ++ [q - getS s.used x], ?_, ?_, ?_⟩
          · rw [List.length_map]
            have := List.length_take_le i (s.run c)
            exact Nat.lt_of_le_of_lt (show ns.length ≤ 1000 by omega) (by decide)
          · rw [upd_same, List.map_append]
            rfl
          · rw [off_upd]
            exact se
          · rw [hb, en]
      · rintro He ⟨ns, hN, se, en⟩
        rw [al, List.take_length] at en
        subst en
        have sE := se.trans (off_sub D6 He)
        have bl : (Bd.boEnds r s (s.run c)).length ≤ 1 := by
          unfold Bd.boEnds
          split
          · exact Nat.zero_le _
          · split
            · exact Nat.le_refl _
            · exact Nat.zero_le _
        have ql' : (Bd.quEnds r s (s.run c)).length ≤ 1000 := Nat.le_trans (List.length_filterMap_le ..) rl
        refine ⟨D4, D6, _, _, rfl, rfl, sE.at hD4C, hN, ?_, fun D nD => ?_⟩
        · rw [List.length_map, List.length_map]
          exact Nat.le_trans (show _ ≤ 1001 by omega) (by decide)
        refine k D _ ((s14.trans (sC.trans sE)).free nD) ((s14.trans (sC.trans sE)).trans (same_new nD)) ?_
        rw [List.map_append]
        exact upd_same
end
end Vk
set_option maxHeartbeats 4000000
/-! courses, as mathematics: many units at once are units one by one -/
namespace Vk
open PySem PySem.Spec PyProof.Rows L2
/-! ### ticks -/
def tickM (xs : List Str) (d : Int) (l : List (Str × Int)) : List (Str × Int) := l.map fun p => if p.1 ∈ xs then (p.1, p.2 + d) else p
theorem tickM_nil {d : Int} {l : List (Str × Int)} : tickM [] d l = l := by
  unfold tickM
  refine (List.map_congr_left fun p _ => ?_).trans (List.map_id l)
  rw [if_neg (by simp)]
  rfl
theorem tickM_keys {xs : List Str} {d : Int} {l : List (Str × Int)} : (tickM xs d l).map (·.1) = l.map (·.1) := by
  unfold tickM
  rw [List.map_map]
  refine List.map_congr_left fun p _ => ?_
  show (if p.1 ∈ xs then (p.1, p.2 + d) else p).1 = p.1
  split <;> rfl
theorem tickM_two {xs : List Str} {d e : Int} {l : List (Str × Int)} : tickM xs e (tickM xs d l) = tickM xs (d + e) l := by
  unfold tickM
  rw [List.map_map]
  refine List.map_congr_left fun p _ => ?_
  show (if (if p.1 ∈ xs then (p.1, p.2 + d) else p).1 ∈ xs then ((if p.1 ∈ xs then (p.1, p.2 + d) else p).1, (if p.1 ∈ xs then (p.1, p.2 + d) else p).2 + e) else (if p.1 ∈ xs then (p.1, p.2 + d) else p)) = _
  by_cases h : p.1 ∈ xs
  · simp only [if_pos h, Int.add_assoc]
  · simp only [if_neg h]
theorem tickM_cons {x : Str} {xs : List Str} {d : Int} {l : List (Str × Int)} (h : x ∉ xs) : tickM xs d (addS l x d) = tickM (x :: xs) d l := by
  unfold tickM addS
  rw [List.map_map]
  refine List.map_congr_left fun p _ => ?_
  show (if (if p.1 = x then (p.1, p.2 + d) else p).1 ∈ xs then ((if p.1 = x then (p.1, p.2 + d) else p).1, (if p.1 = x then (p.1, p.2 + d) else p).2 + d) else (if p.1 = x then (p.1, p.2 + d) else p)) = _
  by_cases e : p.1 = x
  · simp only [if_pos e]
    rw [if_neg (by rw [e]; exact h), if_pos (by rw [e]; exact List.mem_cons_self ..)]
  · simp only [if_neg e]
    by_cases m : p.1 ∈ xs
    · rw [if_pos m, if_pos (List.mem_cons_of_mem _ m)]
    · rw [if_neg m, if_neg (fun q => (List.mem_cons.mp q).elim e m)]
theorem ticks_eq (d : Int) : ∀ (xs : List Str) (s : Bd), xs.Nodup → xs.foldl (fun t x => t.tick1 d x) s = { s with ran := tickM xs d s.ran, used := tickM xs d s.used }
  | [], s, _ => by rw [tickM_nil, tickM_nil]; rfl
  | x :: xs, s, nd => by
    obtain ⟨n1, n2⟩ := List.nodup_cons.mp nd
    show xs.foldl (fun t x => t.tick1 d x) (s.tick1 d x) = _
    rw [ticks_eq d xs _ n2]
    show ({ s with ran := tickM xs d (addS s.ran x d), used := tickM xs d (addS s.used x d) } : Bd) = _
    rw [tickM_cons n1, tickM_cons n1]
theorem getS_tickM {xs : List Str} {d : Int} {l : List (Str × Int)} {y : Str} (h : y ∈ l.map (·.1)) : getS (tickM xs d l) y = getS l y + if y ∈ xs then d else 0 := by
  induction l with
  | nil => cases h
  | cons p r ih =>
    obtain ⟨z, v⟩ := p
    have g : ∀ (w : Int) (q : List (Str × Int)), getS ((z, w) :: q) y = if y = z then w else getS q y := fun w q => by
      unfold getS
      rw [List.lookup_cons]
      by_cases e : y = z
      · rw [if_pos e, e, beq_self_eq_true]
        rfl
      · rw [if_neg e, show (y == z) = false from beq_eq_false_iff_ne.mpr e]
    have e1 : tickM xs d ((z, v) :: r) = (z, if z ∈ xs then v + d else v) :: tickM xs d r := by
      unfold tickM
      rw [List.map_cons]
      congr 1
      show (if z ∈ xs then (z, v + d) else (z, v)) = _
      split <;> rfl
    rw [e1, g, g]
    by_cases e : y = z
    · rw [if_pos e, if_pos e, e]
      split
      · rfl
      · rw [Int.add_zero]
    · rw [if_neg e, if_neg e]
      refine ih ?_
      rcases List.mem_cons.mp h with w | w
      · exact absurd w e
      · exact w
/-! ### units -/
/-- with the ticks of its running jobs -/
def Bd.tick (s : Bd) (c d : Int) : Bd := { s with now := s.now + d, ran := tickM (s.run c) d s.ran, used := tickM (s.run c) d s.used }
theorem Bd.mid_tick {s : Bd} (ok : s.Ok0) {c d : Int} {fin : List Str} : s.mid c d fin = if s.lv c fin = [] then s.tick c d else { s.tick c d with fins := s.fins ++ [(s.now + d, s.run c, s.lv c fin)] } := by
  unfold Bd.mid Bd.lv
  rw [ticks_eq d _ _ (Bd.run_nd ok)]
  rfl
/-- nothing ends for so many units, and one more -/
structure Quiet (r : Rl) (c : Int) (s : Bd) (d : Int) : Prop where
  q : ∀ x ∈ s.run c, ∀ q, r.quantAt (s.level x) = some q → getS s.used x + d < q
  b : s.run c ≠ [] → ∀ b, r.boost = some b → s.now.fmod b + d < b
theorem Bd.tick_run {s : Bd} {c d : Int} : (s.tick c d).run c = s.run c := rfl
theorem Bd.tick_ok {s : Bd} (ok : s.Ok0) {c d : Int} : (s.tick c d).Ok0 := ok.perm (t := s.tick c d) (List.Perm.refl _) rfl tickM_keys tickM_keys
theorem quantas_id {r : Rl} {t : Bd} : ∀ {xs : List Str}, (∀ x ∈ xs, t.quanta1 r x = t) → xs.foldl (Bd.quanta1 r) t = t
  | [], _ => rfl
  | x :: xs, h => by
    show xs.foldl (Bd.quanta1 r) (t.quanta1 r x) = t
    rw [h x (List.mem_cons_self ..)]
    exact quantas_id fun y hy => h y (List.mem_cons_of_mem _ hy)
theorem Bd.lift_empty {t : Bd} (ok : t.Ok0) (h : t.order = []) : t.lift = t := by
  have e1 : t.order :: List.replicate (t.lines.length - 1) [] = t.lines := by
    have all : ∀ l ∈ t.lines, l = [] := fun l hl => List.eq_nil_iff_forall_not_mem.mpr fun x hx => by
      have m : x ∈ t.order := List.mem_flatten.mpr ⟨l, hl, hx⟩
      rw [h] at m
      cases m
    have e : t.lines = List.replicate t.lines.length [] := List.eq_replicate_iff.mpr ⟨rfl, all⟩
    have l1 := ok.lines1
    rw [h, ← List.replicate_succ, show t.lines.length - 1 + 1 = t.lines.length by omega]
    exact e.symm
  have e2 : t.used = [] := List.eq_nil_iff_forall_not_mem.mpr fun p hp => by
    have m := (ok.here p.1).mp (List.mem_map.mpr ⟨p, hp, rfl⟩)
    rw [h] at m
    cases m
  obtain ⟨now, lines, used, ran, fins⟩ := t
  have e1 : _ = lines := e1
  have e2 : used = [] := e2
  unfold Bd.lift
  subst e2
  dsimp only
  rw [e1]
  rfl
theorem Bd.lv_nil {s : Bd} {c : Int} : s.lv c [] = [] := by
  unfold Bd.lv
  simp
theorem run_empty {s : Bd} {c : Int} (c1 : 1 ≤ c) (h : s.run c = []) : s.order = [] := by
  unfold Bd.run at h
  rcases List.take_eq_nil_iff.mp h with e | e
  · omega
  · exact e
theorem fmod_succ {a b : Int} (h : a.fmod b + 1 < b) (b0 : 1 ≤ b) : (a + 1).fmod b = a.fmod b + 1 := by
  have p : 0 ≤ b := by omega
  rw [Int.fmod_eq_emod_of_nonneg _ p] at h ⊢
  rw [Int.fmod_eq_emod_of_nonneg _ p]
  have n := Int.emod_nonneg a (show b ≠ 0 by omega)
  have e : a + 1 = (a % b + 1) + b * (a / b) := by
    have := Int.emod_add_mul_ediv a b
    omega
  rw [e, Int.add_mul_emod_self_left]
  exact Int.emod_eq_of_lt (by omega) h
/-- a quiet unit -/
theorem Bd.quiet_one {r : Rl} {s : Bd} {c : Int} (rok : r.Ok) (ok : s.Ok0) (c1 : 1 ≤ c) (h : Quiet r c s 1) : s.endUnits r c 1 [] = s.tick c 1 := by
  have em : s.mid c 1 [] = s.tick c 1 := by rw [Bd.mid_tick ok, if_pos Bd.lv_nil]
  have key : ((s.run c).filter fun x => decide (x ∉ s.lv c [])).foldl (Bd.quanta1 r) ((s.lv c []).foldl Bd.leave (s.mid c 1 [])) = s.tick c 1 := by
    rw [Bd.lv_nil, em]
    show ((s.run c).filter fun x => decide (x ∉ ([] : List Str))).foldl (Bd.quanta1 r) (s.tick c 1) = _
    refine quantas_id fun x hx => ?_
    have hx := (List.mem_filter.mp hx).1
    rw [Bd.quanta_if, if_neg fun q => ?_]
    have e : (s.tick c 1).level x = s.level x := rfl
    rw [e] at q
    have z := h.q x hx _ q
    have w : getS (s.tick c 1).used x = getS s.used x + 1 := by
      show getS (tickM (s.run c) 1 s.used) x = _
      rw [getS_tickM ((ok.here x).mpr (Bd.run_sub x hx)), if_pos hx]
    omega
  show (match r.boost with
    | some q => if (((s.run c).filter fun x => decide (x ∉ s.lv c [])).foldl (Bd.quanta1 r) ((s.lv c []).foldl Bd.leave (s.mid c 1 []))).now.fmod q = 0 then Bd.lift (((s.run c).filter fun x => decide (x ∉ s.lv c [])).foldl (Bd.quanta1 r) ((s.lv c []).foldl Bd.leave (s.mid c 1 []))) else ((s.run c).filter fun x => decide (x ∉ s.lv c [])).foldl (Bd.quanta1 r) ((s.lv c []).foldl Bd.leave (s.mid c 1 []))
    | none => ((s.run c).filter fun x => decide (x ∉ s.lv c [])).foldl (Bd.quanta1 r) ((s.lv c []).foldl Bd.leave (s.mid c 1 []))) = _
  rw [key]
  cases hb : r.boost with
  | none => rfl
  | some b =>
    show (if (s.tick c 1).now.fmod b = 0 then (s.tick c 1).lift else s.tick c 1) = _
    by_cases e : s.run c = []
    · have e2 : (s.tick c 1).lift = s.tick c 1 := Bd.lift_empty (Bd.tick_ok ok) (run_empty c1 e)
      rw [e2, ite_self]
    · have z := h.b e b hb
      have b1 := rok.boost b hb
      have w : (s.tick c 1).now.fmod b = s.now.fmod b + 1 := fmod_succ z b1
      have n : 0 ≤ s.now.fmod b := by
        rw [Int.fmod_eq_emod_of_nonneg _ (by omega)]
        exact Int.emod_nonneg _ (by omega)
      rw [if_neg (by rw [w]; omega)]
/-- .. and the rest -/
theorem Bd.units_split {r : Rl} {s : Bd} {c d : Int} {fin : List Str} (ok : s.Ok0) : s.endUnits r c (1 + d) fin = (s.tick c 1).endUnits r c d fin := by
  have em : s.mid c (1 + d) fin = (s.tick c 1).mid c d fin := by
    rw [Bd.mid_tick ok, Bd.mid_tick (Bd.tick_ok ok)]
    have e1 : (s.tick c 1).tick c d = s.tick c (1 + d) := by
      show (⟨s.now + 1 + d, s.lines, tickM (s.run c) d (tickM (s.run c) 1 s.used), tickM (s.run c) d (tickM (s.run c) 1 s.ran), s.fins⟩ : Bd) = ⟨s.now + (1 + d), s.lines, tickM (s.run c) (1 + d) s.used, tickM (s.run c) (1 + d) s.ran, s.fins⟩
      rw [tickM_two, tickM_two, Int.add_assoc]
    rw [e1]
    show (if s.lv c fin = [] then _ else _) = (if s.lv c fin = [] then _ else { s.tick c (1 + d) with fins := s.fins ++ [(s.now + 1 + d, s.run c, s.lv c fin)] })
    rw [Int.add_assoc]
  show (match r.boost with
    | some q => if (((s.run c).filter fun x => decide (x ∉ s.lv c fin)).foldl (Bd.quanta1 r) ((s.lv c fin).foldl Bd.leave (s.mid c (1 + d) fin))).now.fmod q = 0 then Bd.lift (((s.run c).filter fun x => decide (x ∉ s.lv c fin)).foldl (Bd.quanta1 r) ((s.lv c fin).foldl Bd.leave (s.mid c (1 + d) fin))) else ((s.run c).filter fun x => decide (x ∉ s.lv c fin)).foldl (Bd.quanta1 r) ((s.lv c fin).foldl Bd.leave (s.mid c (1 + d) fin))
    | none => ((s.run c).filter fun x => decide (x ∉ s.lv c fin)).foldl (Bd.quanta1 r) ((s.lv c fin).foldl Bd.leave (s.mid c (1 + d) fin))) = _
  rw [em]
  rfl
end Vk
set_option maxHeartbeats 4000000
/-! a course, as mathematics -/
namespace Vk
open PySem PySem.Spec PyProof.Rows L2
/-- a job: its name, whether it arrives at a moment, the number, its entry -/
structure Jd where
  n : Str
  at_ : Bool
  t : Int
  e : Nat
def Jd.reach (m f : Int) (j : Jd) : Bool := decide (j.t ≤ if j.at_ = true then m else f)
structure Cs where
  s : Bd
  cm : List Jd
def Cs.arr (C : Cs) : List Jd := C.cm.filter (Jd.reach C.s.now C.s.done)
def Cs.rest (C : Cs) : List Jd := C.cm.filter fun j => !Jd.reach C.s.now C.s.done j
def enters (r : Rl) (s : Bd) (js : List Jd) : Bd := js.foldl (fun s j => s.enter r j.n j.e) s
def Cs.letIn (r : Rl) (C : Cs) : Cs := ⟨enters r C.s C.arr, C.rest⟩
def Cs.go (r : Rl) (c : Int) (C : Cs) (d : Int) (fin : List Str) : Cs := Cs.letIn r ⟨C.s.endUnits r c d fin, C.cm⟩
/-- who finishes at the end of the next unit, and of so many with the same running jobs -/
def Cs.fin (c : Int) (nd : Str → Int) (C : Cs) (d : Int) : List Str := (C.s.run c).filter fun x => decide (getS C.s.ran x + d = nd x)
def Cs.step (r : Rl) (c : Int) (nd : Str → Int) (C : Cs) : Cs := C.go r c 1 (C.fin c nd 1)
def Cs.at (r : Rl) (c : Int) (nd : Str → Int) (C : Cs) : Nat → Cs
  | 0 => C
  | k + 1 => (Cs.at r c nd C k).step r c nd
theorem Cs.at_add {r : Rl} {c : Int} {nd : Str → Int} {C : Cs} : ∀ (j k : Nat), C.at r c nd (j + k) = (C.at r c nd j).at r c nd k
  | j, 0 => rfl
  | j, k + 1 => by
    show (C.at r c nd (j + k)).step r c nd = _
    rw [Cs.at_add j k]
    rfl
/-- nobody waits at the door -/
def Cs.Settled (C : Cs) : Prop := ∀ j ∈ C.cm, Jd.reach C.s.now C.s.done j = false
theorem Cs.letIn_id {r : Rl} {C : Cs} (h : C.Settled) : C.letIn r = C := by
  have e1 : C.arr = [] := List.filter_eq_nil_iff.mpr fun j hj => by rw [h j hj]; exact Bool.false_ne_true
  have e2 : C.rest = C.cm := List.filter_eq_self.mpr fun j hj => by rw [h j hj]; rfl
  unfold Cs.letIn
  rw [e1, e2]
  rfl
/-- so many units may go at once: no quantum, no boost, no moment of an arrival, no length ends before -/
structure Cs.Far (r : Rl) (c : Int) (nd : Str → Int) (C : Cs) (d : Int) : Prop where
  q : ∀ x ∈ C.s.run c, ∀ q, r.quantAt (C.s.level x) = some q → getS C.s.used x + d ≤ q
  b : C.s.run c ≠ [] → ∀ b, r.boost = some b → C.s.now.fmod b + d ≤ b
  a : ∀ j ∈ C.cm, j.at_ = true → C.s.now + d ≤ j.t
  l : ∀ x ∈ C.s.run c, getS C.s.ran x + d ≤ nd x
section
variable {r : Rl} {c : Int} {nd : Str → Int} {C : Cs} {d : Int}
theorem Bd.tick_done {s : Bd} {c d : Int} : (s.tick c d).done = s.done := by
  have e1 : (tickM (s.run c) d s.ran).length = s.ran.length := by unfold tickM; rw [List.length_map]
  have e2 : (tickM (s.run c) d s.used).length = s.used.length := by unfold tickM; rw [List.length_map]
  show ((tickM (s.run c) d s.ran).length : Int) - ((tickM (s.run c) d s.used).length : Int) = _
  rw [e1, e2]
  rfl
theorem Cs.Settled.tick (h : C.Settled) {d : Int} (a : ∀ j ∈ C.cm, j.at_ = true → C.s.now + d < j.t) : (⟨C.s.tick c d, C.cm⟩ : Cs).Settled := fun j hj => by
  have h0 := h j hj
  show Jd.reach (C.s.now + d) (C.s.tick c d).done j = false
  rw [Bd.tick_done]
  unfold Jd.reach at h0 ⊢
  by_cases e : j.at_ = true
  · have := a j hj e
    rw [if_pos e]
    exact decide_eq_false (by omega)
  · rw [if_neg e] at h0 ⊢
    exact h0
/-- one of many units -/
theorem Cs.far_one (rok : r.Ok) (ok : C.s.Ok0) (c1 : 1 ≤ c) (st : C.Settled) {d : Int} (d1 : 1 ≤ d) (h : C.Far r c nd (1 + d)) :
    C.fin c nd 1 = [] ∧ C.step r c nd = ⟨C.s.tick c 1, C.cm⟩ ∧ (⟨C.s.tick c 1, C.cm⟩ : Cs).Settled ∧ (⟨C.s.tick c 1, C.cm⟩ : Cs).Far r c nd d ∧
      (⟨C.s.tick c 1, C.cm⟩ : Cs).fin c nd d = C.fin c nd (1 + d) ∧ ∀ fin, C.go r c (1 + d) fin = (⟨C.s.tick c 1, C.cm⟩ : Cs).go r c d fin := by
  have f0 : C.fin c nd 1 = [] := List.filter_eq_nil_iff.mpr fun x hx => by
    have := h.l x hx
    simp only [decide_eq_true_eq]
    omega
  have qu : Quiet r c C.s 1 := ⟨fun x hx q hq => by have := h.q x hx q hq; omega, fun e b hb => by have := h.b e b hb; omega⟩
  have s1 : (⟨C.s.tick c 1, C.cm⟩ : Cs).Settled := st.tick fun j hj e => by have := h.a j hj e; omega
  have inR : ∀ x ∈ C.s.run c, x ∈ C.s.ran.map (·.1) := fun x hx => ok.sub x (Bd.run_sub x hx)
  have inU : ∀ x ∈ C.s.run c, x ∈ C.s.used.map (·.1) := fun x hx => (ok.here x).mpr (Bd.run_sub x hx)
  have gr : ∀ x ∈ C.s.run c, getS (C.s.tick c 1).ran x = getS C.s.ran x + 1 := fun x hx => by
    show getS (tickM (C.s.run c) 1 C.s.ran) x = _
    rw [getS_tickM (inR x hx), if_pos hx]
  have gu : ∀ x ∈ C.s.run c, getS (C.s.tick c 1).used x = getS C.s.used x + 1 := fun x hx => by
    show getS (tickM (C.s.run c) 1 C.s.used) x = _
    rw [getS_tickM (inU x hx), if_pos hx]
  refine ⟨f0, ?_, s1, ⟨fun x hx q hq => ?_, fun e b hb => ?_, fun j hj e => ?_, fun x hx => ?_⟩, ?_, fun fin => ?_⟩
  · unfold Cs.step Cs.go
    rw [f0, Bd.quiet_one rok ok c1 qu]
    exact Cs.letIn_id s1
  · have := h.q x hx q hq
    have e := gu x hx
    show getS (C.s.tick c 1).used x + d ≤ q
    omega
  · have z := h.b e b hb
    have b1 := rok.boost b hb
    have w : (C.s.tick c 1).now.fmod b = C.s.now.fmod b + 1 := fmod_succ (by omega) b1
    show (C.s.tick c 1).now.fmod b + d ≤ b
    omega
  · have := h.a j hj e
    show C.s.now + 1 + d ≤ j.t
    omega
  · have := h.l x hx
    have e := gr x hx
    show getS (C.s.tick c 1).ran x + d ≤ nd x
    omega
  · show (C.s.run c).filter _ = (C.s.run c).filter _
    refine List.filter_congr fun x hx => ?_
    show decide (getS (C.s.tick c 1).ran x + d = nd x) = decide (getS C.s.ran x + (1 + d) = nd x)
    rw [gr x hx, Int.add_assoc]
  · unfold Cs.go
    rw [Bd.units_split ok]
/-- many units, with the same running jobs, are units one by one -/
theorem Cs.far_many (rok : r.Ok) (c1 : 1 ≤ c) : ∀ (k : Nat) (C : Cs), C.s.Ok0 → C.Settled → C.Far r c nd ((k : Int) + 1) → C.go r c ((k : Int) + 1) (C.fin c nd ((k : Int) + 1)) = C.at r c nd (k + 1) ∧
    (∀ j < k + 1, (C.at r c nd j).s.run c = C.s.run c) ∧ (∀ j < k, (C.at r c nd j).fin c nd 1 = []) ∧ (C.at r c nd k).fin c nd 1 = C.fin c nd ((k : Int) + 1) ∧ ∀ j < k + 1, (C.at r c nd j).s.now = C.s.now + (j : Int) ∧ (C.at r c nd j).s.done = C.s.done ∧ (C.at r c nd j).cm = C.cm ∧ (C.at r c nd j).s.fins = C.s.fins
  | 0, C, ok, st, h => by
    refine ⟨rfl, fun j hj => ?_, fun j hj => absurd hj (Nat.not_lt_zero _), rfl, fun j hj => ?_⟩
    · have e : j = 0 := by omega
      rw [e]
      rfl
    · have e : j = 0 := by omega
      rw [e]
      exact ⟨(Int.add_zero _).symm, rfl, rfl, rfl⟩
  | k + 1, C, ok, st, h => by
    have e : (((k + 1 : Nat) : Int) + 1) = 1 + ((k : Int) + 1) := by omega
    rw [e] at h ⊢
    obtain ⟨f0, s0, st1, far1, fe, ge⟩ := Cs.far_one rok ok c1 st (by omega) h
    obtain ⟨i1, i2, i3, i4, i5⟩ := Cs.far_many rok c1 k ⟨C.s.tick c 1, C.cm⟩ (Bd.tick_ok ok) st1 far1
    have sh : ∀ j, C.at r c nd (j + 1) = (⟨C.s.tick c 1, C.cm⟩ : Cs).at r c nd j := fun j => by
      rw [Nat.add_comm j 1, Cs.at_add 1 j]
      show (C.step r c nd).at r c nd j = _
      rw [s0]
    refine ⟨?_, fun j hj => ?_, fun j hj => ?_, ?_, fun j hj => ?_⟩
    · rw [ge, ← fe, i1, sh]
    · cases j with
      | zero => rfl
      | succ j =>
        rw [sh, i2 j (by omega)]
        rfl
    · cases j with
      | zero => exact f0
      | succ j => rw [sh, i3 j (by omega)]
    · rw [sh, i4, fe]
    · cases j with
      | zero => exact ⟨(Int.add_zero _).symm, rfl, rfl, rfl⟩
      | succ j =>
        rw [sh]
        obtain ⟨a1, a2, a3, a4⟩ := i5 j (by omega)
        refine ⟨?_, a2.trans Bd.tick_done, a3, a4⟩
        rw [a1]
        show C.s.now + 1 + (j : Int) = _
        omega
end
end Vk
set_option maxHeartbeats 4000000
/-! what holds along a course; it ends -/
namespace Vk
open PySem PySem.Spec PyProof.Rows L2
theorem Bd.done_eq {s : Bd} (ok : s.Ok0) : s.done = (s.ran.length : Int) - (s.order.length : Int) := by
  have p : (s.used.map (·.1)).Perm s.order := (List.perm_ext_iff_of_nodup ok.ndu ok.ndo).mpr ok.here
  have e := p.length_eq
  rw [List.length_map] at e
  unfold Bd.done
  rw [e]
/-- the jobs of a course: each with its length -/
structure JOk (nd : Str → Int) (J : List Jd) : Prop where
  nodup : (J.map (·.n)).Nodup
  small : J.length ≤ 900
  one : ∀ j ∈ J, 1 ≤ nd j.n
  come : ∀ j ∈ J, j.at_ = true ∨ j.t ≤ (J.countP fun i => i.at_ || decide (i.t < j.t) : Nat)
theorem JOk.inj {nd : Str → Int} {J : List Jd} (h : JOk nd J) {a b : Jd} (ha : a ∈ J) (hb : b ∈ J) (e : a.n = b.n) : a = b := by
  have go : ∀ {l : List Jd}, (l.map (·.n)).Nodup → a ∈ l → b ∈ l → a = b := fun {l} => by
    induction l with
    | nil => intro _ h; cases h
    | cons x l ih =>
      intro nd ha hb
      obtain ⟨n1, n2⟩ := List.nodup_cons.mp nd
      rcases List.mem_cons.mp ha with ha | ha
      · rcases List.mem_cons.mp hb with hb | hb
        · rw [ha, hb]
        · exact absurd (List.mem_map.mpr ⟨b, hb, by rw [← e, ha]⟩) n1
      · rcases List.mem_cons.mp hb with hb | hb
        · exact absurd (List.mem_map.mpr ⟨a, ha, by rw [e, hb]⟩) n1
        · exact ih n2 ha hb
  exact go h.nodup ha hb
/-- what holds, but that nobody waits at the door -/
structure Cs.Ok (r : Rl) (nd : Str → Int) (J : List Jd) (C : Cs) : Prop where
  bd : C.s.Ok
  uq : C.s.UQ r
  lev : r.levels.length = C.s.lines.length
  n0 : 0 ≤ C.s.now
  cmn : C.cm.Nodup
  sub : ∀ j ∈ C.cm, j ∈ J
  ent : ∀ j ∈ J, j ∈ C.cm ∨ j.n ∈ C.s.ran.map (·.1)
  out : ∀ j ∈ C.cm, j.n ∉ C.s.ran.map (·.1)
  keys : ∀ x ∈ C.s.ran.map (·.1), x ∈ J.map (·.n)
  len : C.s.ran.length + C.cm.length = J.length
  lo : ∀ x ∈ C.s.order, 0 ≤ getS C.s.ran x ∧ getS C.s.ran x < nd x
  fi : ∀ x ∈ C.s.ran.map (·.1), x ∉ C.s.order → getS C.s.ran x = nd x
  fl : (C.s.fins.length : Int) ≤ C.s.done
  dn : C.s.done = ((C.s.fins.flatMap fun f => f.2.2).length : Nat)
section
variable {r : Rl} {c : Int} {nd : Str → Int} {J : List Jd} {C : Cs} {d : Int}
theorem Cs.Ok.done_len (h : C.Ok r nd J) : C.s.done = (C.s.ran.length : Int) - (C.s.order.length : Int) := Bd.done_eq h.bd.toOk0
/-- the door, in another order -/
theorem Cs.Ok.perm (h : C.Ok r nd J) {p : List Jd} (e : p.Perm C.cm) : (⟨C.s, p⟩ : Cs).Ok r nd J :=
  ⟨h.bd, h.uq, h.lev, h.n0, e.nodup_iff.mpr h.cmn, fun j hj => h.sub j (e.mem_iff.mp hj), fun j hj => (h.ent j hj).imp (fun w => e.mem_iff.mpr w) id, fun j hj => h.out j (e.mem_iff.mp hj), h.keys, by
    show C.s.ran.length + p.length = _
    rw [e.length_eq]
    exact h.len, h.lo, h.fi, h.fl, h.dn⟩
theorem Cs.Ok.enter1 (rok : r.Ok) (jok : JOk nd J) {s : Bd} {j : Jd} {p : List Jd} (h : (⟨s, j :: p⟩ : Cs).Ok r nd J) : (⟨s.enter r j.n j.e, p⟩ : Cs).Ok r nd J := by
  obtain ⟨n1, n2⟩ := List.nodup_cons.mp h.cmn
  have jJ := h.sub j (List.mem_cons_self ..)
  have nx : j.n ∉ s.ran.map (·.1) := h.out j (List.mem_cons_self ..)
  have ok0 := h.bd.toOk0
  have sm : s.ran.length < 1000 := by
    have := h.len
    have := jok.small
    rw [List.length_cons] at *
    show s.ran.length < 1000
    have z : s.ran.length + (p.length + 1) = J.length := h.len
    omega
  have bd : (s.enter r j.n j.e).Ok := Bd.Ok.enter h.bd nx sm
  have kr : (s.enter r j.n j.e).ran.map (·.1) = s.ran.map (·.1) ++ [j.n] := by
    show (s.ran ++ [(j.n, (0 : Int))]).map (·.1) = _
    rw [List.map_append]
    rfl
  have po := Bd.enter_order (r := r) ok0 j.n j.e
  have de : (s.enter r j.n j.e).done = s.done := by
    show ((s.ran ++ [(j.n, (0 : Int))]).length : Int) - ((s.used ++ [(j.n, (0 : Int))]).length : Int) = _
    rw [List.length_append, List.length_append]
    unfold Bd.done
    simp only [List.length_singleton, Int.natCast_add, Int.cast_ofNat_Int]
    omega
  refine ⟨bd, h.uq.enter rok ok0 nx, by show _ = (s.lines.set _ _).length; rw [List.length_set]; exact h.lev, h.n0, n2, fun i hi => h.sub i (List.mem_cons_of_mem _ hi), fun i hi => ?_, fun i hi m => ?_, fun x hx => ?_, ?_, fun x hx => ?_, fun x hx nx' => ?_, ?_, ?_⟩
  · rcases h.ent i hi with w | w
    · rcases List.mem_cons.mp w with w | w
      · exact .inr (by rw [kr, w]; exact List.mem_append_right _ (List.mem_singleton_self _))
      · exact .inl w
    · exact .inr (by rw [kr]; exact List.mem_append_left _ w)
  · have m : i.n ∈ (s.enter r j.n j.e).ran.map (·.1) := m
    rw [kr] at m
    rcases List.mem_append.mp m with m | m
    · exact h.out i (List.mem_cons_of_mem _ hi) m
    · have e := jok.inj (h.sub i (List.mem_cons_of_mem _ hi)) jJ (List.mem_singleton.mp m)
      exact n1 (by rw [← e]; exact hi)
  · have hx : x ∈ (s.enter r j.n j.e).ran.map (·.1) := hx
    rw [kr] at hx
    rcases List.mem_append.mp hx with hx | hx
    · exact h.keys x hx
    · rw [List.mem_singleton.mp hx]
      exact List.mem_map.mpr ⟨j, jJ, rfl⟩
  · have z : s.ran.length + (p.length + 1) = J.length := h.len
    show (s.ran ++ [(j.n, (0 : Int))]).length + p.length = J.length
    rw [List.length_append, List.length_singleton]
    omega
  · show 0 ≤ getS (s.ran ++ [(j.n, (0 : Int))]) x ∧ getS (s.ran ++ [(j.n, (0 : Int))]) x < nd x
    rcases List.mem_cons.mp (po.mem_iff.mp hx) with e | m
    · rw [e, getS_app_new nx]
      have := jok.one j jJ
      exact ⟨Int.le_refl _, by omega⟩
    · rw [getS_app (h.bd.sub x m)]
      exact h.lo x m
  · have hx : x ∈ (s.enter r j.n j.e).ran.map (·.1) := hx
    rw [kr] at hx
    rcases List.mem_append.mp hx with hx | hx
    · show getS (s.ran ++ [(j.n, (0 : Int))]) x = nd x
      rw [getS_app hx]
      exact h.fi x hx fun m => nx' (po.mem_iff.mpr (List.mem_cons_of_mem _ m))
    · exact absurd (po.mem_iff.mpr (by rw [List.mem_singleton.mp hx]; exact List.mem_cons_self ..)) nx'
  · show (s.fins.length : Int) ≤ (s.enter r j.n j.e).done
    rw [de]
    exact h.fl
  · show (s.enter r j.n j.e).done = _
    rw [de]
    exact h.dn
theorem Cs.Ok.enters (rok : r.Ok) (jok : JOk nd J) : ∀ {js : List Jd} {s : Bd} {p : List Jd}, (⟨s, js ++ p⟩ : Cs).Ok r nd J → (⟨Vk.enters r s js, p⟩ : Cs).Ok r nd J
  | [], s, p, h => h
  | j :: js, s, p, h => Cs.Ok.enters rok jok (js := js) (s := s.enter r j.n j.e) (Cs.Ok.enter1 rok jok h)
theorem enter_done {s : Bd} {x : Str} {e : Nat} : (s.enter r x e).done = s.done := by
  show ((s.ran ++ [(x, (0 : Int))]).length : Int) - ((s.used ++ [(x, (0 : Int))]).length : Int) = _
  rw [List.length_append, List.length_append]
  unfold Bd.done
  simp only [List.length_singleton, Int.natCast_add, Int.cast_ofNat_Int]
  omega
theorem enters_same : ∀ {js : List Jd} {s : Bd}, (enters r s js).done = s.done ∧ (enters r s js).now = s.now ∧ (enters r s js).fins = s.fins
  | [], s => ⟨rfl, rfl, rfl⟩
  | j :: js, s => by
    obtain ⟨a, b, e⟩ := enters_same (js := js) (s := s.enter r j.n j.e)
    exact ⟨a.trans enter_done, b, e⟩
theorem Cs.split_perm (C : Cs) : (C.arr ++ C.rest).Perm C.cm := List.filter_append_perm _ _
/-- behind the door -/
theorem Cs.Ok.letIn (rok : r.Ok) (jok : JOk nd J) (h : C.Ok r nd J) : (C.letIn r).Ok r nd J ∧ (C.letIn r).Settled := by
  refine ⟨Cs.Ok.enters rok jok (h.perm C.split_perm), fun j hj => ?_⟩
  obtain ⟨a, b, _⟩ := enters_same (r := r) (js := C.arr) (s := C.s)
  show Jd.reach (Vk.enters r C.s C.arr).now (Vk.enters r C.s C.arr).done j = false
  rw [a, b]
  have z := (List.mem_filter.mp hj).2
  simpa using z
/-- a unit -/
theorem Cs.Ok.unit (rok : r.Ok) (jok : JOk nd J) (h : C.Ok r nd J) {c : Int} : (⟨C.s.endUnits r c 1 (C.fin c nd 1), C.cm⟩ : Cs).Ok r nd J ∧
    (C.s.endUnits r c 1 (C.fin c nd 1)).done = C.s.done + ((C.fin c nd 1).length : Nat) ∧ ∀ x ∈ C.s.ran.map (·.1), getS (C.s.endUnits r c 1 (C.fin c nd 1)).ran x = getS C.s.ran x + if x ∈ C.s.run c then 1 else 0 := by
  have ok0 := h.bd.toOk0
  have a := Bd.units_after (r := r) ok0 c 1 (C.fin c nd 1)
  have elv : C.s.lv c (C.fin c nd 1) = C.fin c nd 1 := by
    unfold Bd.lv
    have e : (C.s.run c).filter (fun x => decide (x ∈ C.fin c nd 1)) = (C.s.run c).filter (fun x => decide (getS C.s.ran x + 1 = nd x)) := List.filter_congr fun x hx => by
      have w : x ∈ C.fin c nd 1 ↔ getS C.s.ran x + 1 = nd x := by
        unfold Cs.fin
        rw [List.mem_filter, decide_eq_true_iff]
        exact ⟨fun z => z.2, fun z => ⟨hx, z⟩⟩
      exact decide_eq_decide.mpr w
    rw [e]
    rfl
  have finR : ∀ x ∈ C.fin c nd 1, x ∈ C.s.run c ∧ getS C.s.ran x + 1 = nd x := fun x hx => ⟨(List.mem_filter.mp hx).1, of_decide_eq_true (List.mem_filter.mp hx).2⟩
  have finN : (C.fin c nd 1).Nodup := (Bd.run_nd ok0).filter _
  have vals : ∀ x ∈ C.s.ran.map (·.1), getS (C.s.endUnits r c 1 (C.fin c nd 1)).ran x = getS C.s.ran x + if x ∈ C.s.run c then 1 else 0 := fun x hx => by
    rw [units_ran]
    exact (mid_vals ok0).1 x hx
  have olen : (C.s.endUnits r c 1 (C.fin c nd 1)).order.length + (C.fin c nd 1).length = C.s.order.length := by
    have p : ((C.s.endUnits r c 1 (C.fin c nd 1)).order ++ C.fin c nd 1).Perm C.s.order := by
      refine (List.perm_ext_iff_of_nodup (List.nodup_append.mpr ⟨a.ok.ndo, finN, fun x hx y hy e => ?_⟩) ok0.ndo).mpr fun x => ?_
      · have := ((a.mem x).mp hx).2
        rw [elv] at this
        exact this (by rw [e]; exact hy)
      · rw [List.mem_append, a.mem x, elv]
        constructor
        · rintro (w | w)
          · exact w.1
          · exact Bd.run_sub x (finR x w).1
        · intro w
          by_cases m : x ∈ C.fin c nd 1
          · exact .inr m
          · exact .inl ⟨w, m⟩
    have := p.length_eq
    rw [List.length_append] at this
    exact this
  have rlen : (C.s.endUnits r c 1 (C.fin c nd 1)).ran.length = C.s.ran.length := by
    have := congrArg List.length a.ran
    rw [List.length_map, List.length_map] at this
    exact this
  have dn : (C.s.endUnits r c 1 (C.fin c nd 1)).done = C.s.done + ((C.fin c nd 1).length : Nat) := by
    rw [Bd.done_eq a.ok, h.done_len, rlen]
    omega
  have small : C.s.fins.length < 100000 := by
    have e1 := h.fl
    have e2 := h.done_len
    have := h.bd.small
    omega
  refine ⟨⟨Bd.Ok.units h.bd c 1 (C.fin c nd 1) small, h.uq.one rok ok0, by rw [a.len]; exact h.lev, by show 0 ≤ (C.s.endUnits r c 1 _).now; rw [a.now]; have := h.n0; omega, h.cmn, h.sub, fun j hj => ?_, fun j hj m => ?_, fun x hx => ?_, ?_, fun x hx => ?_, fun x hx nx => ?_, ?_, ?_⟩, dn, vals⟩
  · exact (h.ent j hj).imp id fun w => by
      show j.n ∈ (C.s.endUnits r c 1 _).ran.map (·.1)
      rw [a.ran]
      exact w
  · have m : j.n ∈ (C.s.endUnits r c 1 (C.fin c nd 1)).ran.map (·.1) := m
    rw [a.ran] at m
    exact h.out j hj m
  · have hx : x ∈ (C.s.endUnits r c 1 (C.fin c nd 1)).ran.map (·.1) := hx
    rw [a.ran] at hx
    exact h.keys x hx
  · show (C.s.endUnits r c 1 _).ran.length + _ = _
    rw [rlen]
    exact h.len
  · obtain ⟨m1, m2⟩ := (a.mem x).mp hx
    rw [elv] at m2
    show 0 ≤ getS (C.s.endUnits r c 1 _).ran x ∧ getS (C.s.endUnits r c 1 _).ran x < nd x
    rw [vals x (h.bd.sub x m1)]
    obtain ⟨l1, l2⟩ := h.lo x m1
    by_cases w : x ∈ C.s.run c
    · rw [if_pos w]
      have : getS C.s.ran x + 1 ≠ nd x := fun e => m2 (List.mem_filter.mpr ⟨w, decide_eq_true e⟩)
      exact ⟨by omega, by omega⟩
    · rw [if_neg w]
      exact ⟨by omega, by omega⟩
  · have hx : x ∈ (C.s.endUnits r c 1 (C.fin c nd 1)).ran.map (·.1) := hx
    rw [a.ran] at hx
    show getS (C.s.endUnits r c 1 _).ran x = nd x
    rw [vals x hx]
    by_cases m : x ∈ C.fin c nd 1
    · rw [if_pos (finR x m).1]
      exact (finR x m).2
    · have no : x ∉ C.s.order := fun q => nx ((a.mem x).mpr ⟨q, by rw [elv]; exact m⟩)
      rw [if_neg (fun q => no (Bd.run_sub x q)), Int.add_zero]
      exact h.fi x hx no
  · show ((C.s.endUnits r c 1 (C.fin c nd 1)).fins.length : Int) ≤ (C.s.endUnits r c 1 (C.fin c nd 1)).done
    rw [dn, a.fins, elv]
    have := h.fl
    by_cases e : C.fin c nd 1 = []
    · rw [if_pos e]
      omega
    · rw [if_neg e, List.length_append, List.length_singleton]
      have := List.length_pos_iff.mpr e
      omega
  · show (C.s.endUnits r c 1 (C.fin c nd 1)).done = (((C.s.endUnits r c 1 (C.fin c nd 1)).fins.flatMap fun f => f.2.2).length : Nat)
    rw [dn, a.fins, elv]
    have := h.dn
    by_cases e : C.fin c nd 1 = []
    · rw [if_pos e, e]
      simpa using this
    · rw [if_neg e, List.flatMap_append, List.length_append]
      simp only [List.flatMap_cons, List.flatMap_nil, List.append_nil]
      omega
end
end Vk
set_option maxHeartbeats 4000000
/-! a course ends -/
namespace Vk
open PySem PySem.Spec PyProof.Rows L2
def remJ (nd : Str → Int) (ran : List (Str × Int)) (J : List Jd) : Int := (J.map fun j => nd j.n - getS ran j.n).sum
def Cs.rem (nd : Str → Int) (J : List Jd) (C : Cs) : Int := remJ nd C.s.ran J
theorem getS_no {l : List (Str × Int)} {x : Str} (h : x ∉ l.map (·.1)) : getS l x = 0 := by
  unfold getS
  rw [lookS_none h]
  rfl
section
variable {r : Rl} {c : Int} {nd : Str → Int} {J : List Jd} {C : Cs} {d : Int}
theorem sum_congr {f g : Jd → Int} : ∀ {l : List Jd}, (∀ j ∈ l, f j = g j) → (l.map f).sum = (l.map g).sum
  | [], _ => rfl
  | j :: l, h => by
    rw [List.map_cons, List.map_cons, List.sum_cons, List.sum_cons, h j (List.mem_cons_self ..), sum_congr fun i hi => h i (List.mem_cons_of_mem _ hi)]
theorem sum_le {f g : Jd → Int} : ∀ {l : List Jd}, (∀ j ∈ l, f j ≤ g j) → (l.map f).sum ≤ (l.map g).sum
  | [], _ => Int.le_refl _
  | j :: l, h => by
    rw [List.map_cons, List.map_cons, List.sum_cons, List.sum_cons]
    have := h j (List.mem_cons_self ..)
    have := sum_le fun i hi => h i (List.mem_cons_of_mem _ hi)
    omega
theorem sum_lt {f g : Jd → Int} : ∀ {l : List Jd}, (∀ j ∈ l, f j ≤ g j) → (∃ j ∈ l, f j < g j) → (l.map f).sum < (l.map g).sum
  | [], _, h => by obtain ⟨_, h, _⟩ := h; cases h
  | j :: l, h, ⟨i, hi, lt⟩ => by
    rw [List.map_cons, List.map_cons, List.sum_cons, List.sum_cons]
    have a := h j (List.mem_cons_self ..)
    have b := sum_le fun i hi => h i (List.mem_cons_of_mem j hi)
    rcases List.mem_cons.mp hi with e | m
    · rw [e] at lt
      omega
    · have := sum_lt (fun i hi => h i (List.mem_cons_of_mem j hi)) ⟨i, m, lt⟩
      omega
theorem sum_nonneg {f : Jd → Int} : ∀ {l : List Jd}, (∀ j ∈ l, 0 ≤ f j) → 0 ≤ (l.map f).sum
  | [], _ => Int.le_refl _
  | j :: l, h => by
    rw [List.map_cons, List.sum_cons]
    have := h j (List.mem_cons_self ..)
    have := sum_nonneg fun i hi => h i (List.mem_cons_of_mem j hi)
    omega
theorem Cs.Ok.rem_nonneg (jok : JOk nd J) (h : C.Ok r nd J) : 0 ≤ C.rem nd J := by
  refine sum_nonneg fun j hj => ?_
  by_cases m : j.n ∈ C.s.ran.map (·.1)
  · by_cases o : j.n ∈ C.s.order
    · have := (h.lo j.n o).2
      omega
    · have := h.fi j.n m o
      omega
  · rw [getS_no m]
    have := jok.one j hj
    omega
theorem enters_ran : ∀ {js : List Jd} {s : Bd} {x : Str}, x ∉ js.map (·.n) → getS (enters r s js).ran x = getS s.ran x
  | [], s, x, _ => rfl
  | j :: js, s, x, h => by
    have h1 : x ≠ j.n := fun e => h (by rw [e]; exact List.mem_cons_self ..)
    show getS (enters r (s.enter r j.n j.e) js).ran x = _
    rw [enters_ran (fun m => h (List.mem_cons_of_mem _ m))]
    show getS (s.ran ++ [(j.n, (0 : Int))]) x = _
    by_cases m : x ∈ s.ran.map (·.1)
    · exact getS_app m
    · rw [getS_no m, getS_no]
      rw [List.map_append]
      intro w
      rcases List.mem_append.mp w with w | w
      · exact m w
      · exact h1 (List.mem_singleton.mp w)
theorem enters_new : ∀ {js : List Jd} {s : Bd} {x : Str}, x ∉ s.ran.map (·.1) → getS (enters r s js).ran x = 0
  | [], s, x, h => getS_no h
  | j :: js, s, x, h => by
    show getS (enters r (s.enter r j.n j.e) js).ran x = 0
    by_cases e : x = j.n
    · have gen : ∀ {js : List Jd} {s : Bd}, getS s.ran x = 0 → x ∈ s.ran.map (·.1) → getS (enters r s js).ran x = 0 := fun {js} => by
        induction js with
        | nil => intro s h _; exact h
        | cons i js ih =>
          intro s h m
          refine ih ?_ ?_
          · show getS (s.ran ++ [(i.n, (0 : Int))]) x = 0
            rw [getS_app m, h]
          · show x ∈ (s.ran ++ [(i.n, (0 : Int))]).map (·.1)
            rw [List.map_append]
            exact List.mem_append_left _ m
      refine gen ?_ ?_
      · show getS (s.ran ++ [(j.n, (0 : Int))]) x = 0
        rw [e] at h ⊢
        exact getS_app_new h
      · show x ∈ (s.ran ++ [(j.n, (0 : Int))]).map (·.1)
        rw [e, List.map_append]
        exact List.mem_append_right _ (List.mem_singleton_self _)
    · refine enters_new fun m => ?_
      have m : x ∈ (s.ran ++ [(j.n, (0 : Int))]).map (·.1) := m
      rw [List.map_append] at m
      rcases List.mem_append.mp m with m | m
      · exact h m
      · exact e (List.mem_singleton.mp m)
/-- at the door nothing runs -/
theorem Cs.Ok.letIn_rem (h : C.Ok r nd J) : (C.letIn r).rem nd J = C.rem nd J := by
  refine sum_congr fun j hj => ?_
  show nd j.n - getS (Vk.enters r C.s C.arr).ran j.n = nd j.n - getS C.s.ran j.n
  by_cases m : j.n ∈ C.s.ran.map (·.1)
  · rw [enters_ran fun w => ?_]
    obtain ⟨i, hi, e⟩ := List.mem_map.mp w
    exact h.out i (List.mem_filter.mp hi).1 (by rw [e]; exact m)
  · rw [enters_new m, getS_no m]
/-- somebody runs, or somebody comes at a moment -/
theorem Cs.Ok.progress (jok : JOk nd J) (h : C.Ok r nd J) (st : C.Settled) (c1 : 1 ≤ c) (un : C.s.done ≠ (J.length : Nat)) : C.s.run c ≠ [] ∨ ∃ j ∈ C.cm, j.at_ = true ∧ C.s.now < j.t := by
  by_cases e : C.s.run c = []
  · right
    have o := run_empty c1 e
    have dl := h.done_len
    rw [o] at dl
    have ln := h.len
    have cne : C.cm ≠ [] := fun q => by
      rw [q] at ln
      simp at ln dl
      omega
    refine Classical.byContradiction fun no => ?_
    have aft : ∀ j ∈ C.cm, j.at_ = false ∧ C.s.done < j.t := fun j hj => by
      have s0 := st j hj
      unfold Jd.reach at s0
      cases q : j.at_ with
      | true =>
        rw [q, if_pos rfl] at s0
        exact absurd ⟨j, hj, q, by have := of_decide_eq_false s0; omega⟩ no
      | false =>
        rw [q, if_neg Bool.false_ne_true] at s0
        exact ⟨rfl, by have := of_decide_eq_false s0; omega⟩
    obtain ⟨m, hm, mle⟩ : ∃ m ∈ C.cm, ∀ j ∈ C.cm, m.t ≤ j.t := by
      have gen : ∀ {l : List Jd}, l ≠ [] → ∃ m ∈ l, ∀ j ∈ l, m.t ≤ j.t := fun {l} => by
        induction l with
        | nil => intro h; exact absurd rfl h
        | cons x l ih =>
          intro _
          by_cases q : l = []
          · exact ⟨x, List.mem_cons_self .., fun j hj => by rw [q] at hj; rw [List.mem_singleton.mp hj]; exact Int.le_refl _⟩
          · obtain ⟨m, hm, mle⟩ := ih q
            by_cases w : x.t ≤ m.t
            · exact ⟨x, List.mem_cons_self .., fun j hj => (List.mem_cons.mp hj).elim (fun e => by rw [e]; exact Int.le_refl _) fun hj => by have := mle j hj; omega⟩
            · exact ⟨m, List.mem_cons_of_mem _ hm, fun j hj => (List.mem_cons.mp hj).elim (fun e => by rw [e]; omega) fun hj => mle j hj⟩
      exact gen cne
    obtain ⟨a1, a2⟩ := aft m hm
    rcases jok.come m (h.sub m hm) with q | q
    · rw [a1] at q
      cases q
    · have cnt : J.countP (fun i => i.at_ || decide (i.t < m.t)) ≤ C.s.ran.length := by
        rw [List.countP_eq_length_filter]
        have nd2 : ((J.filter fun i => i.at_ || decide (i.t < m.t)).map (·.n)).Nodup := (List.filter_sublist.map _).nodup jok.nodup
        have z := nd_len (m := C.s.ran.map (·.1)) nd2 fun x hx => by
          obtain ⟨i, hi, rfl⟩ := List.mem_map.mp hx
          obtain ⟨i1, i2⟩ := List.mem_filter.mp hi
          rcases h.ent i i1 with w | w
          · exfalso
            obtain ⟨b1, _⟩ := aft i w
            rw [b1, Bool.false_or] at i2
            have := of_decide_eq_true i2
            have := mle i w
            omega
          · exact w
        rw [List.length_map, List.length_map] at z
        exact z
      simp at dl
      omega
  · exact .inl e
def Cs.mu (nd : Str → Int) (J : List Jd) (M : Int) (C : Cs) : Nat := (C.rem nd J).toNat + (M - C.s.now).toNat
theorem Cs.Ok.step (rok : r.Ok) (jok : JOk nd J) (h : C.Ok r nd J) : (C.step r c nd).Ok r nd J ∧ (C.step r c nd).Settled := Cs.Ok.letIn rok jok (h.unit rok jok).1
theorem Cs.step_now (h : C.Ok r nd J) : (C.step r c nd).s.now = C.s.now + 1 := by
  obtain ⟨_, b, _⟩ := enters_same (r := r) (js := (⟨C.s.endUnits r c 1 (C.fin c nd 1), C.cm⟩ : Cs).arr) (s := C.s.endUnits r c 1 (C.fin c nd 1))
  show (enters r (C.s.endUnits r c 1 (C.fin c nd 1)) _).now = _
  rw [b, (Bd.units_after (r := r) h.bd.toOk0 c 1 (C.fin c nd 1)).now]
theorem Cs.step_mu (rok : r.Ok) (jok : JOk nd J) (h : C.Ok r nd J) (st : C.Settled) (c1 : 1 ≤ c) {M : Int} (hM : ∀ j ∈ J, j.at_ = true → j.t ≤ M) (un : C.s.done ≠ (J.length : Nat)) : (C.step r c nd).mu nd J M < C.mu nd J M := by
  obtain ⟨u1, u2, u3⟩ := h.unit rok jok (c := c)
  have er : (C.step r c nd).rem nd J = remJ nd (C.s.endUnits r c 1 (C.fin c nd 1)).ran J := u1.letIn_rem
  have en := Cs.step_now (c := c) h
  have p1 := (h.step rok jok (c := c)).1.rem_nonneg jok
  have vals : ∀ j ∈ J, getS (C.s.endUnits r c 1 (C.fin c nd 1)).ran j.n = getS C.s.ran j.n + if j.n ∈ C.s.run c then 1 else 0 := fun j hj => by
    by_cases m : j.n ∈ C.s.ran.map (·.1)
    · exact u3 j.n m
    · have k : (C.s.endUnits r c 1 (C.fin c nd 1)).ran.map (·.1) = C.s.ran.map (·.1) := (Bd.units_after (r := r) h.bd.toOk0 c 1 (C.fin c nd 1)).ran
      rw [getS_no m, getS_no (by rw [k]; exact m), if_neg (fun w => m (h.bd.sub _ (Bd.run_sub _ w)))]
      rfl
  unfold Cs.mu
  rw [en]
  by_cases e : C.s.run c = []
  · have same : (C.step r c nd).rem nd J = C.rem nd J := by
      rw [er]
      refine sum_congr fun j hj => ?_
      rw [vals j hj, e, if_neg (by simp), Int.add_zero]
    obtain ⟨j, hj, q1, q2⟩ := (h.progress jok st c1 un).resolve_left (fun w => w e)
    have := hM j (h.sub j hj) q1
    rw [same]
    omega
  · have less : (C.step r c nd).rem nd J < C.rem nd J := by
      rw [er]
      obtain ⟨x, hx⟩ := List.exists_mem_of_ne_nil _ e
      obtain ⟨j, hj, ej⟩ := List.mem_map.mp (h.keys x (h.bd.sub x (Bd.run_sub x hx)))
      refine sum_lt (fun j hj => ?_) ⟨j, hj, ?_⟩
      · rw [vals j hj]
        split <;> omega
      · rw [vals j hj, if_pos (by rw [ej]; exact hx)]
        omega
    omega
/-- it ends, and within so many units -/
theorem Cs.ends (rok : r.Ok) (jok : JOk nd J) (c1 : 1 ≤ c) {M : Int} (hM : ∀ j ∈ J, j.at_ = true → j.t ≤ M) : ∀ (m : Nat) (C : Cs), C.Ok r nd J → C.Settled → C.mu nd J M ≤ m → ∃ T ≤ m, (C.at r c nd T).s.done = (J.length : Nat) ∧ ∀ k < T, (C.at r c nd k).s.done ≠ (J.length : Nat)
  | m, C, h, st, le => by
    by_cases un : C.s.done = (J.length : Nat)
    · exact ⟨0, Nat.zero_le _, un, fun k hk => absurd hk (Nat.not_lt_zero _)⟩
    · have lt := Cs.step_mu rok jok h st c1 hM un
      cases m with
      | zero => omega
      | succ m =>
        obtain ⟨o, s⟩ := h.step rok jok (c := c)
        obtain ⟨T, t1, t2, t3⟩ := Cs.ends rok jok c1 hM m (C.step r c nd) o s (by omega)
        have sh : ∀ j, C.at r c nd (j + 1) = (C.step r c nd).at r c nd j := fun j => by
          rw [Nat.add_comm j 1, Cs.at_add 1 j]
          rfl
        refine ⟨T + 1, by omega, by rw [sh]; exact t2, fun k hk => ?_⟩
        cases k with
        | zero => exact un
        | succ k => rw [sh]; exact t3 k (by omega)
theorem Cs.at_ok (rok : r.Ok) (jok : JOk nd J) (h : C.Ok r nd J) (st : C.Settled) : ∀ k, (C.at r c nd k).Ok r nd J ∧ (C.at r c nd k).Settled ∧ (C.at r c nd k).s.now = C.s.now + (k : Int)
  | 0 => ⟨h, st, (Int.add_zero _).symm⟩
  | k + 1 => by
    obtain ⟨a, b, e⟩ := Cs.at_ok rok jok h st k
    obtain ⟨o, s⟩ := a.step rok jok (c := c)
    refine ⟨o, s, ?_⟩
    have z := Cs.step_now (c := c) a
    show ((C.at r c nd k).step r c nd).s.now = _
    rw [z, e]
    omega
/-- where a course begins -/
def Cs.zero (r : Rl) (J : List Jd) : Cs := Cs.letIn r ⟨Bd.new r, J⟩
theorem Cs.new_ok (rok : r.Ok) (jok : JOk nd J) : (⟨Bd.new r, J⟩ : Cs).Ok r nd J := by
  have l1 := rok.len1
  have nodJ : J.Nodup := List.pairwise_map.mp jok.nodup |>.imp fun h e => h (by rw [e])
  have bd : (Bd.new r).Ok := Bd.Ok.new rok.len1 rok.len6
  have eo : (Bd.new r).order = [] := by
    show (List.replicate r.levels.length ([] : List Str)).flatten = []
    simp
  refine ⟨bd, Bd.UQ.new, by show _ = (List.replicate r.levels.length ([] : List Str)).length; rw [List.length_replicate], Int.le_refl _, nodJ, fun j hj => hj, fun j hj => .inl hj, (fun j _ m => nomatch (show j.n ∈ ([] : List Str) from m)), (fun x hx => nomatch (show x ∈ ([] : List Str) from hx)), Nat.zero_add _, (fun x hx => ?_), (fun x hx => nomatch (show x ∈ ([] : List Str) from hx)), Int.le_refl _, rfl⟩
  have hx : x ∈ (Bd.new r).order := hx
  rw [eo] at hx
  cases hx
theorem Cs.zero_ok (rok : r.Ok) (jok : JOk nd J) : (Cs.zero r J).Ok r nd J ∧ (Cs.zero r J).Settled := Cs.Ok.letIn rok jok (Cs.new_ok rok jok)
end
end Vk
set_option maxHeartbeats 4000000
namespace Vk
open PySem PySem.Spec PyProof.Rows L2 GxR
/-- an arrival at a moment up to m, or after up to f finishes -/
def reachA (m f : Int) : PyData → Bool
  | .tuple [k, .int t] => decide (t ≤ if atS "at" k = true then m else f)
  | _ => false
def countA (js : List PyData) (m f : Int) : Nat := (js.map arrD).countP (reachA m f)
theorem place_each {js : List PyData} (h : jobsPlace (.tuple js) = none) : js.all jobD = true := by
  have e1 : eachPlace js = none := by
    cases he : eachPlace js with
    | none => rfl
    | some i =>
      have z : (match eachPlace js with
        | some i => some (i : Int)
        | none => match waitPlace js with
          | some i => some (i : Int)
          | none => none) = none := h
      rw [he] at z
      cases z
  exact each_all fun j hj => Bool.eq_false_iff.mpr (List.find?_eq_none.mp e1 j (List.mem_range.mpr hj))
section
variable {P : Program} {w : World} {K : PySem.W.Frag} {mg : Str → Option Value} {base : Heap}
def spHas (K : PySem.W.Frag) : Sp := fun vs H Q _ => ∃ (v : V) (d : PyData) (m f : Int), vs = [v, .int m, .int f] ∧ Dp K H v d ∧ jobD d = true ∧ Q (.bl (reachA m f (arrD d))) H
theorem scHas : FnScope ["job", "moment", "finished", "kind", "number"] ["job", "moment", "finished"] (defScope sHas) := ⟨rfl, rfl, rfl, by decide +kernel, rfl, by decide +kernel, by decide +kernel⟩
theorem ok_has (D : Df K mg "has_arrived" sHas ["job", "moment", "finished"]) : Cl P w K mg base CX0 1 "has_arrived" ["job", "moment", "finished"] (spHas K) := by
  refine cl0 D scHas (fun vs H Q E h => ?_) (fun f cdv A outer s H vs Q E hr h => ?_)
  · obtain ⟨v, d, m, f, rfl, _⟩ := h
    rfl
  · obtain ⟨v, d, m, fi, rfl, hd, jd, k⟩ := h
    refine ⟨_, pss_cons (ps_asg (pe_ix ix_tup (pv 0) pe_int (fun _ _ => rfl)) (pg_tup rfl (pgs_cons (pg_name (i := 3) scHas.nd rfl (.inl rfl)) (pgs_cons (pg_name (i := 4) scHas.nd rfl (.inl rfl)) pgs_nil))))
      (pss_one (ps_ret (pe_cmpR op_le (pv 4) (pe_ifExp (pt_cmpR op_eq (pv 3) pe_str (nomark _)) (pv 1) (pv 2)) (nomark _)))), ?_⟩
    obtain ⟨n, kd, t, e, rfl, hn, hk⟩ := job_parts jd
    obtain ⟨p, x, y, z, rfl, q, dn, da, de⟩ := dp_three hd
    obtain ⟨pa, kv, tv, rfl, qa, dk, dt⟩ := dp_two da
    have ek := dp_str dk
    subst ek
    have et := dp_int dt
    subst et
    refine ⟨_, rfl, p, _, _, _, rfl, rfl, q, rfl, pa, _, rfl, qa, rfl, _, _, rfl, _, _, rfl, rfl, ?_⟩
    refine ⟨_, rfl, _, rfl, rfl, _, rfl, ?_⟩
    rw [eq_S (s := ("at" : Str)) dk]
    have re : reachA m fi (arrD (.tuple [.str n, .tuple [.str kd, .int t], .int e])) = decide (t ≤ if atS "at" (.str kd) = true then m else fi) := rfl
    rw [re] at k
    cases hat : atS "at" (.str kd) with
    | true =>
      rw [hat] at k
      exact iteT ⟨_, rfl, _, _, rfl, rfl, k⟩
    | false =>
      rw [hat] at k
      exact iteF ⟨_, rfl, _, _, rfl, rfl, k⟩
end
end Vk
set_option maxHeartbeats 8000000
namespace Vk
open PySem PySem.Spec PyProof.Rows L2 GxR
theorem atI_three {x0 x1 x2 : V} {r : Int} (h0 : 0 ≤ r) (h4 : r < 3) : ∃ x, atI [x0, x1, x2] r = some x ∧ (x = x0 ∨ x = x1 ∨ x = x2) := by
  have z : r = 0 ∨ r = 1 ∨ r = 2 := by omega
  rcases z with rfl | rfl | rfl
  · exact ⟨_, rfl, .inl rfl⟩
  · exact ⟨_, rfl, .inr (.inl rfl)⟩
  · exact ⟨_, rfl, .inr (.inr rfl)⟩
theorem arr_parts {a : PyData} (h : arrivalD a = true) : ∃ (k : Str) (t : Int), a = .tuple [.str k, .int t] ∧ (k = "at" ∨ k = "after") := by
  have hj : jobD (.tuple [.str "a", a, .int 0]) = true := by
    show (nameD (.str "a") && (arrivalD a && (integerD 0 (.int 0) && le9 (.int 0)))) = true
    rw [h]
    decide +kernel
  obtain ⟨n, k, t, e, e1, _, hk⟩ := job_parts hj
  cases e1
  exact ⟨k, t, rfl, hk⟩
theorem arr_at {i : Int} (h : 0 ≤ i) : arrivalD (.tuple [.str "at", .int i]) = true := by
  show (if atS "at" (.str "at") = true then integerD 0 (.int i) else (atS "after" (.str "at") && integerD 1 (.int i))) = true
  rw [if_pos (by decide +kernel)]
  exact decide_eq_true h
theorem arr_after {i : Int} (h : 1 ≤ i) : arrivalD (.tuple [.str "after", .int i]) = true := by
  show (if atS "at" (.str "after") = true then integerD 0 (.int i) else (atS "after" (.str "after") && integerD 1 (.int i))) = true
  rw [if_neg (by decide +kernel), show atS "after" (.str "after") = true from by decide +kernel, Bool.true_and]
  exact decide_eq_true h
theorem dps_set {K : PySem.W.Frag} {H : Hp} {v : V} {d : PyData} (hv : Dp K H v d) : ∀ {vs : List V} {ds : List PyData} (j : Nat), DpAll K H vs ds → DpAll K H (vs.set j v) (ds.set j d)
  | _, _, _, .nil => .nil
  | _, _, 0, .cons x r => .cons hv r
  | _, _, j + 1, .cons x r => .cons x (dps_set hv j r)
theorem ixN_nat {n j : Nat} (h : j < n) : ixN n ((0 : Int) + (j : Nat)) = some j := by
  rw [Int.zero_add]
  unfold ixN
  rw [if_pos (by omega), if_pos (by omega)]
  rfl
/-- a number that can be written -/
def bnd (d : PyData) : Prop := ∀ (k : PyData) (t : Int), d = .tuple [k, .int t] → t ≤ 1000000
theorem bnd_of {k : Str} {i : Int} (h : i ≤ 1000000) : bnd (.tuple [.str k, .int i]) := fun _ _ e => by
  cases e
  have z : (1000000 : Int) ≤ 10 ^ 30 := by decide
  omega
/-- who comes behind so many finishes comes -/
def OkA (ds : List PyData) (j : Nat) : Prop := ∀ m < j, ∀ (k : Str) (t : Int), ds[m]? = some (.tuple [.str k, .int t]) → k = "at" ∨ t ≤ (ds.countP (befA t) : Nat)
theorem OkA.next {ds : List PyData} {i : Nat} {k : Str} {t : Int} (o : OkA ds i) (h : ds[i]? = some (.tuple [.str k, .int t])) (ok : k = "at" ∨ t ≤ (ds.countP (befA t) : Nat)) : OkA ds (i + 1) := fun m hm k' t' h' => by
  by_cases e : m = i
  · subst e
    rw [h] at h'
    cases h'
    exact ok
  · exact o m (by omega) k' t' h'
theorem cnt_set {p : PyData → Bool} {b : PyData} (hb : p b = true) : ∀ (ds : List PyData) (i : Nat), ds.countP p ≤ (ds.set i b).countP p
  | [], _ => Nat.le_refl _
  | x :: ds, 0 => by
    rw [List.set_cons_zero, List.countP_cons, List.countP_cons, if_pos hb]
    split <;> omega
  | x :: ds, i + 1 => by
    rw [List.set_cons_succ, List.countP_cons, List.countP_cons]
    have z := cnt_set hb ds i
    omega
theorem OkA.put {ds : List PyData} {i : Nat} {r : Int} (o : OkA ds i) (hi : i < ds.length) : OkA (ds.set i (.tuple [.str "at", .int r])) (i + 1) := fun m hm k t h => by
  by_cases e : m = i
  · subst e
    rw [List.getElem?_set_self hi] at h
    cases h
    exact .inl rfl
  · rw [List.getElem?_set_ne (fun z => e z.symm)] at h
    rcases o m (by omega) k t h with z | z
    · exact .inl z
    · refine .inr (Int.le_trans z ?_)
      have q := cnt_set (p := befA t) (b := .tuple [.str "at", .int r]) rfl ds i
      omega
theorem not_before {α : Type} : ∀ {l : List α} {j : Nat} {x : α}, l.Nodup → l[j]? = some x → x ∉ l.take j
  | [], _, _, _, h => by cases h
  | y :: l, 0, x, _, _ => by simp
  | y :: l, j + 1, x, nd, h => by
    obtain ⟨n1, n2⟩ := List.nodup_cons.mp nd
    rw [List.getElem?_cons_succ] at h
    rw [List.take_succ_cons, List.mem_cons]
    rintro (e | e)
    · subst e
      exact n1 (List.mem_of_getElem? h)
    · exact not_before n2 h e
/-- jobs without a fault -/
theorem place_none {es : List PyData} (ok : ∀ e ∈ es, jobD e = true) (nd : (es.map nameOf).Nodup) (w : ∀ (k : Str) (t : Int), .tuple [.str k, .int t] ∈ es.map arrD → k = "at" ∨ t ≤ ((es.map arrD).countP (befA t) : Nat)) : jobsPlace (.tuple es) = none := by
  have h1 : eachPlace es = none := find_no fun j hj => by
    unfold badAt
    rw [List.getElem?_eq_getElem hj]
    show (!jobD es[j] || ((es.take j).map nameOf).any (fun y => y == nameOf es[j])) = false
    rw [ok _ (List.getElem_mem hj)]
    refine Bool.eq_false_iff.mpr fun z => ?_
    obtain ⟨y, hy, e⟩ := List.any_eq_true.mp (show ((es.take j).map nameOf).any (fun y => y == nameOf es[j]) = true from z)
    rw [eq_of_beq e, List.map_take] at hy
    exact not_before nd (by rw [List.getElem?_map, List.getElem?_eq_getElem hj]; rfl) hy
  have h2 : waitPlace es = none := find_no fun j hj => by
    unfold waitAt
    rw [List.getElem?_eq_getElem hj]
    have hm := List.getElem_mem hj
    show waitsD es es[j] = false
    obtain ⟨n, k, t, e, e1, _, hk⟩ := job_parts (ok _ hm)
    have ha : PyData.tuple [.str k, .int t] ∈ es.map arrD := List.mem_map.mpr ⟨es[j], hm, by rw [e1]; rfl⟩
    rw [e1, waits_kind hk]
    rcases w k t ha with z | z
    · rw [z]
      rfl
    · rw [decide_eq_false (Int.not_lt.mpr z), Bool.and_false]
  show (match eachPlace es with
    | some i => some (i : Int)
    | none => match waitPlace es with
      | some i => some (i : Int)
      | none => none) = none
  rw [h1, h2]
/-- different names, nobody waits forever -/
def Fine (es : List PyData) : Prop := (es.map nameOf).Nodup ∧ ∀ (k : Str) (t : Int), .tuple [.str k, .int t] ∈ es.map arrD → k = "at" ∨ t ≤ ((es.map arrD).countP (befA t) : Nat)
section
variable {P : Program} {w : World} {K : PySem.W.Frag} {mg : Str → Option Value} {base : Heap}
def JW (K : PySem.W.Frag) (sc a l : Addr) (N : Int) (H : Hp) (len : Nat) (Pz : List PyData → Prop) (G : Hp) : Prop := ∃ (xs : List V) (ds : List PyData), Sto sc a N G ∧ Same (Off l (Off a H)) (Off l (Off a G)) ∧ G l = some (.lst xs) ∧ DpAll K (Off l (Off a G)) xs ds ∧ ds.length = len ∧ (∀ d ∈ ds, arrivalD d = true) ∧ Pz ds
theorem JW.ok0 {K : PySem.W.Frag} {sc a l : Addr} {N : Int} {H G : Hp} {len : Nat} (h : JW K sc a l N H len (fun ds => ∀ d ∈ ds, bnd d) G) : JW K sc a l N H len (fun ds => OkA ds 0 ∧ ∀ d ∈ ds, bnd d) G := by
  obtain ⟨xs, ds, h1, h2, h3, h4, h5, h6, b⟩ := h
  exact ⟨xs, ds, h1, h2, h3, h4, h5, h6, fun m hm => absurd hm (Nat.not_lt_zero _), b⟩
def spJobs (K : PySem.W.Frag) : Sp := fun vs H Q _ => ∃ (a sc : Addr) (n mo la : Int), vs = [.ref a, .int mo, .int la] ∧ Sto sc a n H ∧ n ≤ 800000 ∧ 0 ≤ mo ∧ mo ≤ 12 ∧ 0 ≤ la ∧ la ≤ 1000000 ∧
  ∀ (v : V) (js : List PyData) (H' : Hp), Sto sc a (n + 1000) H' → Kept a H H' → Dp K (Off a H') v (.tuple js) → js.all jobD = true → js.length ≤ 12 → Fine js → (∀ a ∈ js.map arrD, bnd a) → Q v H'
theorem scJobs : FnScope ["store", "most", "late", "count", "arrivals", "k", "at", "kind", "number", "earlier", "jobs", "name", "door", "one"] ["store", "most", "late"] (defScope sJobs) := ⟨rfl, rfl, rfl, by decide +kernel, rfl, by decide +kernel, by decide +kernel⟩
theorem ok_jobs (D : Df K mg "_law_jobs" sJobs ["store", "most", "late"]) (B : Blt mg) (PK : Cl P w K mg base CX0 2 "_law_pick" ["store", "count"] spPick) (NM : Cl P w K mg base CX0 3 "_law_names" ["store", "count"] spNames)
    (BF : Cl P w K mg base CX0 1 "_law_before" ["arrival", "finishes"] (spBefore K)) : Cl P w K mg base CX0 4 "_law_jobs" ["store", "most", "late"] (spJobs K) := by
  refine cl0 D scJobs (fun vs H Q E h => ?_) (fun f cdv A outer s H vs Q E hr h => ?_)
  · obtain ⟨a, sc, n, mo, la, rfl, _⟩ := h
    rfl
  · obtain ⟨a, sc, n, mo, la, rfl, S, n1, m0, m12, l0, l1000, k⟩ := h
    refine ⟨_, pss_cons (ps_set (i := 3) scJobs.nd rfl (Or.inl rfl) (pc PK hr (by decide) (pa_cons (pv 0) (pa_cons (pe_op op_add (pv 1) pe_int) pa_nil))))
      (pss_cons (ps_set (i := 4) scJobs.nd rfl (Or.inl rfl) (pe_lst pa_nil))
      (pss_cons (ps_for PassesOwn.never rfl (pi_range1 rfl B.range (pa_cons (pv 3) pa_nil)) (pg_name (i := 5) scJobs.nd rfl (Or.inl rfl))
        (pss_cons (ps_set (i := 6) scJobs.nd rfl (Or.inl rfl) (pe_ix ix_list (pe_lst (pa_cons pe_int (pa_cons (pc PK hr (by decide) (pa_cons (pv 0) (pa_cons pe_int pa_nil))) (pa_cons (pc PK hr (by decide) (pa_cons (pv 0) (pa_cons (pe_op op_add (pv 2) pe_int) pa_nil))) pa_nil)))) (pc PK hr (by decide) (pa_cons (pv 0) (pa_cons pe_int pa_nil))) (fun _ _ => rfl)))
        (pss_one (ps_expr (pe_bm PySem.F.plainAttrs_list PySem.F.slot_list_append PySem.F.type_list_append mt_append (pv 4)
          (pa_cons (pe_ix ix_list (pe_lst (pa_cons (pe_tup (pa_cons pe_str (pa_cons (pv 6) pa_nil))) (pa_cons (pe_tup (pa_cons pe_str (pa_cons (pv 6) pa_nil))) (pa_cons (pe_tup (pa_cons pe_str (pa_cons (pe_op op_add pe_int (pc PK hr (by decide) (pa_cons (pv 0) (pa_cons (pv 3) pa_nil)))) pa_nil))) pa_nil)))) (pc PK hr (by decide) (pa_cons (pv 0) (pa_cons pe_int pa_nil))) (fun _ _ => rfl)) pa_nil))))))
      (pss_cons (ps_for PassesOwn.never rfl (pi_range1 rfl B.range (pa_cons (pv 3) pa_nil)) (pg_name (i := 5) scJobs.nd rfl (Or.inl rfl))
        (pss_cons (ps_asg (pe_ix ix_list (pv 4) (pv 5) (fun _ _ => rfl)) (pg_tup rfl (pgs_cons (pg_name (i := 7) scJobs.nd rfl (.inl rfl)) (pgs_cons (pg_name (i := 8) scJobs.nd rfl (.inr rfl)) pgs_nil))))
        (pss_cons (ps_setLc (i := 9) (own := [("one", 13)]) (g := gName 13) (tt := tB (tCal (spBefore K) (tCons (tVar 13) (tCons (tVar 8) tNil)))) (te := tVar 13) rfl scJobs.nd rfl rfl (sw_true rfl rfl rfl (by decide +kernel)) (pi_list (pv 4)) (blkOk_by (own := [("one", 13)]) (N := ["store", "most", "late", "count", "arrivals", "k", "at", "kind", "number", "earlier", "jobs", "name", "door", "one"]) (sc := defScope sJobs) (by decide +kernel))
          (fun _ _ _ _ _ => pg_name (i := 13) scJobs.nd rfl (Or.inl rfl)) (fun _ _ _ _ _ => pts_one (pt_val (pc BF hr (by decide) (pa_cons (pv 13) (pa_cons (pv 8) pa_nil))))) (fun _ _ _ _ _ => pv 13))
        (pss_one (ps_if (PW.pt (pw_and (pt_cmpR op_eq (pv 7) pe_str (nomark _)) (pw_and1 (pt_cmpR op_lt (pe_callB call_len_seq (by rfl) B.len PySem.boot_len (pa_cons (pv 9) pa_nil)) (pv 8) (nomark _)))))
          (pss_one (ps_asg (pe_tup (pa_cons pe_str (pa_cons (pc PK hr (by decide) (pa_cons (pv 0) (pa_cons (pe_op op_add (pv 2) pe_int) pa_nil))) pa_nil))) (pg_sub (pv 4) (pv 5) set_list))) pss_nil)))))
      (pss_cons (ps_set (i := 10) scJobs.nd rfl (Or.inl rfl) (pe_lst pa_nil))
      (pss_cons (ps_for PassesOwn.never rfl (pi_list (pc NM hr (by decide) (pa_cons (pv 0) (pa_cons (pv 3) pa_nil)))) (pg_name (i := 11) scJobs.nd rfl (Or.inl rfl))
        (pss_cons (ps_set (i := 12) scJobs.nd rfl (Or.inl rfl) (pe_ix ix_list (pe_lst (pa_cons pe_int (pa_cons pe_int (pa_cons (pc PK hr (by decide) (pa_cons (pv 0) (pa_cons pe_int pa_nil))) pa_nil)))) (pc PK hr (by decide) (pa_cons (pv 0) (pa_cons pe_int pa_nil))) (fun _ _ => rfl)))
        (pss_one (ps_expr (pe_bm PySem.F.plainAttrs_list PySem.F.slot_list_append PySem.F.type_list_append mt_append (pv 10)
          (pa_cons (pe_tup (pa_cons (pv 11) (pa_cons (pe_ix ix_list (pv 4) (pe_callB call_len_seq (by rfl) B.len PySem.boot_len (pa_cons (pv 10) pa_nil)) (fun _ _ => rfl)) (pa_cons (pv 12) pa_nil)))) pa_nil))))))
      (pss_one (ps_ret (pe_callTy call_tuple_of (by rfl) B.tuple (by decide +kernel) (pa_cons (pv 10) pa_nil))))))))), ?_⟩
    -- count
    refine ⟨_, rfl, _, rfl, _, _, rfl, rfl, a, sc, mo + 1, n, rfl, by omega, by omega, S, by omega, fun c H1 c0 c1 S1 K1 => ?_⟩
    refine ⟨(by show 0 ≤ sizeLine; decide), fun l nl => ?_⟩
    have la_ : l ≠ a := S1.ne nl
    have lsc : l ≠ sc := S1.ne2 nl
    have S2 := S1.same (same_new (o := .lst []) nl)
    have far : ∀ {G : Hp} {t : Addr} {k : Str} {i : Int}, G t = some (.tup [.str k, .int i]) → t ≠ l → t ≠ a → Dp K (Off l (Off a G)) (.ref t) (.tuple [.str k, .int i]) := fun h1 h2 h3 =>
      .tup (SqT.of (by rw [off_ne h2, off_ne h3, h1])) (.cons (.str _) (.cons (.int _) .nil))
    -- the first loop
    refine ⟨_, rfl, c, rfl, by omega, by omega, ?_⟩
    refine for_range (lo := 0) (n := c.toNat) (fun i σ G => ∃ (u5 u6 : Option V), σ = [some (.ref a), some (.int mo), some (.int la), some (.int c), some (.ref l), u5, u6, none, none, none, none, none, none, none] ∧ JW K sc a l (n + 1 + 5 * i) H1 i (fun ds => ∀ d ∈ ds, bnd d) G)
      ⟨none, none, rfl, [], [], S2.more (by omega), off_mono (off_mono (same_new nl)), upd_same, .nil, rfl, (fun d hd => absurd hd (by simp)), (fun d hd => absurd hd (by simp))⟩ ?_ ?_
    · rintro i σ G hi ⟨u5, u6, rfl, xs, ds, SG, KG, lG, dG, ld, okd, bd⟩
      have xl := dps_len dG
      refine ⟨_, rfl, a, sc, 4, _, rfl, by decide, by decide, SG, by omega, fun x G1 x0 x4 SG1 KG1 => ?_⟩
      refine ⟨_, rfl, _, rfl, _, _, rfl, rfl, a, sc, la + 1, _, rfl, by omega, by omega, SG1, by omega, fun y G2 y0 y4 SG2 KG2 => ?_⟩
      refine ⟨(by show 3 ≤ sizeLine; decide), fun q nq => ?_⟩
      have sq := same_new (o := .lst [.int 0, .int x, .int y]) nq
      have qa := SG2.ne nq
      refine ⟨_, rfl, a, sc, 3, _, rfl, by decide, by decide, SG2.same sq, by omega, fun z G3 z0 z3 SG3 KG3 => ?_⟩
      obtain ⟨av, hav, vav⟩ := atI_three (x0 := .int 0) (x1 := .int x) (x2 := .int y) z0 z3
      refine ⟨q, _, _, av, rfl, rfl, SqL.of (KG3.at upd_same qa), hav, ?_⟩
      obtain ⟨ai, ai0, ai1, rfl⟩ : ∃ ai : Int, 0 ≤ ai ∧ ai ≤ 1000000 ∧ av = .int ai := by
        rcases vav with rfl | rfl | rfl
        · exact ⟨_, by decide, by decide, rfl⟩
        · exact ⟨_, x0, by omega, rfl⟩
        · exact ⟨_, y0, by omega, rfl⟩
      have KA : Kept a G G3 := ((KG1.trans KG2).trans (kept_same sq)).trans KG3
      have lG3 := KA.at lG la_
      -- arrivals.append
      refine ⟨_, rfl, .inl ⟨rfl, _, SqL.of lG3⟩, ?_⟩
      refine ⟨_, rfl, (by show 2 ≤ sizeLine; decide), fun t1 m1 => ?_⟩
      have g1 := same_new (o := .tup [.str ("at" : Str), .int ai]) m1
      refine ⟨_, rfl, (by show 2 ≤ sizeLine; decide), fun t2 m2 => ?_⟩
      have g2 := same_new (o := .tup [.str ("at" : Str), .int ai]) m2
      have SG4 := (SG3.same g1).same g2
      have t1a := SG3.ne m1
      have t2a := (SG3.same g1).ne m2
      refine ⟨_, rfl, _, rfl, a, sc, c, _, rfl, by omega, by omega, SG4, by omega, fun r G4 r0 rc SG5 KG4 => ?_⟩
      refine ⟨_, _, rfl, rfl, (by show 2 ≤ sizeLine; decide), fun t3 m3 => ?_⟩
      have g3 := same_new (o := .tup [.str ("after" : Str), .int (1 + r)]) m3
      have t3a := SG5.ne m3
      refine ⟨(by show 3 ≤ sizeLine; decide), fun q2 nq2 => ?_⟩
      have g4 := same_new (o := .lst [.ref t1, .ref t2, .ref t3]) nq2
      have q2a := (SG5.same g3).ne nq2
      refine ⟨_, rfl, a, sc, 3, _, rfl, by decide, by decide, (SG5.same g3).same g4, by omega, fun e G5 e0 e3 SG6 KG5 => ?_⟩
      obtain ⟨ev, hev, vev⟩ := atI_three (x0 := .ref t1) (x1 := .ref t2) (x2 := .ref t3) e0 e3
      refine ⟨q2, _, _, ev, rfl, rfl, SqL.of (KG5.at upd_same q2a), hev, ?_⟩
      have K45 : Kept a G4 G5 := (kept_same (g3.trans g4)).trans KG5
      have K35 : Kept a G3 G5 := ((kept_same (g1.trans g2)).trans KG4).trans K45
      have KB : Kept a G G5 := KA.trans K35
      have lG5 := KB.at lG la_
      have b1 : G5 t1 = some (.tup [.str ("at" : Str), .int ai]) := K45.at (KG4.at (g2.at upd_same) t1a) t1a
      have b2 : G5 t2 = some (.tup [.str ("at" : Str), .int ai]) := K45.at (KG4.at upd_same t2a) t2a
      have b3 : G5 t3 = some (.tup [.str ("after" : Str), .int (1 + r)]) := KG5.at (g4.at upd_same) t3a
      have tl1 : t1 ≠ l := fun e => by rw [e, lG3] at m1; cases m1
      have tl2 : t2 ≠ l := fun e => by rw [e, g1.at lG3] at m2; cases m2
      have tl3 : t3 ≠ l := fun e => by rw [e, KG4.at ((g1.trans g2).at lG3) la_] at m3; cases m3
      obtain ⟨ed, ded, oked, bed⟩ : ∃ ed, Dp K (Off l (Off a G5)) ev ed ∧ arrivalD ed = true ∧ bnd ed := by
        rcases vev with rfl | rfl | rfl
        · exact ⟨_, far b1 tl1 t1a, arr_at ai0, bnd_of ai1⟩
        · exact ⟨_, far b2 tl2 t2a, arr_at ai0, bnd_of ai1⟩
        · exact ⟨_, far b3 tl3 t3a, arr_after (by omega), bnd_of (by omega)⟩
      have offs : Off l (Off a (upd G5 l (.lst (xs ++ [ev])))) = Off l (Off a G5) := by rw [off_other la_, off_upd]
      refine ⟨l, _, _, rfl, rfl, lG5, by rw [xl, ld]; exact Nat.lt_of_lt_of_le (show i < 13 by omega) (by decide), _, _, rfl, xs ++ [ev], ds ++ [ed], (SG6.other la_ lsc).more (by omega), ?_, upd_same, ?_, by rw [List.length_append, ld]; rfl, ?_, ?_⟩
      · rw [offs]
        exact KG.trans (off_mono KB)
      · rw [offs]
        exact dps_app (dps_same (off_mono KB) dG) (.cons ded .nil)
      · intro d hd
        rcases List.mem_append.mp hd with hd | hd
        · exact okd d hd
        · rw [List.mem_singleton.mp hd]
          exact oked
      · intro d hd
        rcases List.mem_append.mp hd with hd | hd
        · exact bd d hd
        · rw [List.mem_singleton.mp hd]
          exact bed
    rintro σ G ⟨u5, u6, rfl, JG⟩
    -- the second loop
    refine ⟨_, rfl, c, rfl, by omega, by omega, ?_⟩
    refine for_range (lo := 0) (n := c.toNat) (fun i σ G => ∃ (u5 u6 u7 u8 u9 : Option V), σ = [some (.ref a), some (.int mo), some (.int la), some (.int c), some (.ref l), u5, u6, u7, u8, u9, none, none, none, none] ∧ JW K sc a l (n + 1 + 5 * c.toNat + i) H1 c.toNat (fun ds => OkA ds i ∧ ∀ d ∈ ds, bnd d) G)
      ⟨_, _, _, _, _, rfl, by rw [show n + 1 + 5 * (c.toNat : Int) + ((0 : Nat) : Int) = n + 1 + 5 * c.toNat by omega]; exact JG.ok0⟩ ?_ ?_
    · rintro i σ G hi ⟨u5, u6, u7, u8, u9, rfl, xs, ds, SG, KG, lG, dG, ld, okd, okA, bd⟩
      have xl := dps_len dG
      have hxi : xs[i]? = some xs[i] := List.getElem?_eq_getElem (by omega)
      obtain ⟨d, hd, dd⟩ := dps_getV dG hxi
      generalize xs[i] = v at hxi dd
      obtain ⟨kd, t, rfl, hkd⟩ := arr_parts (okd d (List.mem_of_getElem? hd))
      obtain ⟨pa, kv, tv, rfl, qa, dk, dt⟩ := dp_two dd
      have ek := dp_str dk
      subst ek
      have et := dp_int dt
      subst et
      have sub : Same (Off l (Off a G)) G := (off_sub l (Off a G)).trans (off_sub a G)
      have hat : atI xs ((0 : Int) + (i : Nat)) = some (.ref pa) := by
        rw [Int.zero_add]
        exact atI_nat hxi
      refine ⟨_, rfl, _, rfl, l, xs, _, _, rfl, rfl, SqL.of lG, hat, pa, _, rfl, same_seqT sub qa, rfl, _, _, rfl, _, _, rfl, rfl, ?_⟩
      -- earlier
      refine ⟨_, rfl, l, rfl, ⟨_, SqL.of lG⟩, fun D2 nD2 => ?_⟩
      refine lc_it (walk_list (K := K) (a := l) (xs := xs)) (fun m Hd => ∃ ac2, Same G Hd ∧ Hd D2 = some (.lst ac2) ∧ ac2.length = (ds.take m).countP (befA t))
        ⟨[], same_new nD2, upd_same, rfl⟩ (fun m Hd _ ⟨ac2, s9, _⟩ => SqL.of (s9.at lG)) ?_ ?_
      · rintro m y2 Hd0 Hd hm ⟨ac2, s9, hD2, lc2⟩ ⟨rfl, hy2⟩
        obtain ⟨d2, hd2, dp2⟩ := dps_getV dG hy2
        obtain ⟨k2, t2, rfl, _⟩ := arr_parts (okd d2 (List.mem_of_getElem? hd2))
        refine ⟨rfl, _, rfl, _, rfl, y2, k2, t2, t, rfl, dp_same (sub.trans s9) dp2, ⟨_, rfl, ?_⟩⟩
        have e2 : (ds.take (m + 1)).countP (befA t) = (ds.take m).countP (befA t) + (if befA t (.tuple [.str k2, .int t2]) = true then 1 else 0) := by
          rw [List.take_add_one, hd2]
          show (ds.take m ++ [PyData.tuple [.str k2, .int t2]]).countP (befA t) = _
          rw [List.countP_append, List.countP_singleton]
        have small : ac2.length ≤ 13 := by
          have z : (ds.take m).countP (befA t) ≤ (ds.take m).length := List.countP_le_length
          rw [List.length_take] at z
          omega
        cases hb : (decide (k2 = "at") || decide (t2 < t)) with
        | true =>
          refine iteT ⟨_, rfl, ac2, hD2, Nat.lt_of_le_of_lt small (by decide), ac2 ++ [_], same_put s9 nD2, upd_same, ?_⟩
          rw [e2, if_pos (show befA t (.tuple [.str k2, .int t2]) = true from hb), List.length_append, List.length_singleton, lc2]
        | false =>
          refine iteF ⟨ac2, s9, hD2, ?_⟩
          rw [e2, if_neg (by rw [show befA t (.tuple [.str k2, .int t2]) = false from hb]; exact Bool.false_ne_true), lc2]
          rfl
      rintro Hd ⟨ac2, s9, hD2, lc2⟩
      rw [List.take_of_length_le (by omega)] at lc2
      have next : (kd = "at" ∨ t ≤ (ds.countP (befA t) : Nat)) → JW K sc a l (n + 1 + 5 * c.toNat + ((i + 1 : Nat) : Int)) H1 c.toNat (fun ds => OkA ds (i + 1) ∧ ∀ d ∈ ds, bnd d) Hd := fun hok =>
        ⟨xs, ds, (SG.same s9).more (by omega), KG.trans (off_mono (off_mono s9)), s9.at lG, dps_same (off_mono (off_mono s9)) dG, ld, okd, okA.next hd hok, bd⟩
      refine ⟨_, rfl, rfl, _, rfl, ?_⟩
      refine ite2 (fun _ => ?_) (fun hz => iteF ⟨_, _, _, _, _, rfl, next (.inl (hkd.resolve_right fun e => hz (by rw [e]; rfl)))⟩)
      refine ⟨_, rfl, D2, ac2, rfl, .inl (SqL.of hD2), _, rfl, _, _, rfl, rfl, _, rfl, ?_⟩
      refine ite2 (fun _ => ?_) (fun hz => ⟨_, _, _, _, _, rfl, next (.inr (by rw [← lc2]; exact Int.not_lt.mp fun e => hz (decide_eq_true e)))⟩)
      refine ⟨_, rfl, _, rfl, _, _, rfl, rfl, a, sc, la + 1, _, rfl, by omega, by omega, SG.same s9, by omega, fun r G2 r0 r1 SG2 KG2 => ?_⟩
      refine ⟨(by show 2 ≤ sizeLine; decide), fun q nq => ?_⟩
      have lG2 := KG2.at (s9.at lG) la_
      have sq := same_new (o := .tup [.str ("at" : Str), .int r]) nq
      have qa := SG2.ne nq
      have ql : q ≠ l := fun e => by rw [e, lG2] at nq; cases nq
      have KA : Kept a G (upd G2 q (.tup [.str ("at" : Str), .int r])) := ((kept_same s9).trans KG2).trans (kept_same sq)
      have offs : Off l (Off a (upd (upd G2 q (.tup [.str ("at" : Str), .int r])) l (.lst (xs.set i (.ref q))))) = Off l (Off a (upd G2 q (.tup [.str ("at" : Str), .int r]))) := by rw [off_other la_, off_upd]
      refine ⟨_, rfl, _, rfl, l, xs, _, i, rfl, rfl, sq.at lG2, ixN_nat (by omega), _, _, _, _, _, rfl, xs.set i (.ref q), ds.set i (.tuple [.str "at", .int r]), ((SG2.same sq).other la_ lsc).more (by omega), ?_, upd_same, ?_, by rw [List.length_set, ld], ?_, okA.put (by omega), ?_⟩
      · rw [offs]
        exact KG.trans (off_mono KA)
      · rw [offs]
        exact dps_set (far upd_same ql qa) i (dps_same (off_mono KA) dG)
      · intro d hd
        rcases List.mem_or_eq_of_mem_set hd with hd | rfl
        · exact okd d hd
        · exact arr_at r0
      · intro d hd
        rcases List.mem_or_eq_of_mem_set hd with hd | rfl
        · exact bd d hd
        · exact bnd_of (by omega)
    rintro σ Gp ⟨u5, u6, u7, u8, u9, rfl, xs, ds, SG, KG, lG, dG, ld, okd, okA, bd⟩
    have xl := dps_len dG
    -- jobs, names
    refine ⟨(by show 0 ≤ sizeLine; decide), fun lj nlj => ?_⟩
    have sj := same_new (o := .lst []) nlj
    have lja := SG.ne nlj
    have ljsc := SG.ne2 nlj
    refine ⟨_, rfl, _, rfl, a, sc, _, c, rfl, SG.same sj, by omega, c0, by omega, fun ln ws G5 nln lna S5 K5 hln lws okws ndw => ?_⟩
    have lnj : ln ≠ lj := fun e => by rw [e, upd_same] at nln; cases nln
    have lj5 := K5.at (o := .lst []) upd_same lja
    have KP5 : Kept a Gp G5 := (kept_same sj).trans K5
    have llj : l ≠ lj := fun e => by rw [← e, lG] at nlj; cases nlj
    have l5 := KP5.at lG la_
    have dX : DpAll K (Off lj (Off a Gp)) xs ds := by
      rw [off_none (off_free nlj)]
      exact dps_same (off_sub l _) dG
    have F5 : Same (Off lj (Off a Gp)) (Off lj (Off a G5)) := off_mono KP5
    refine ⟨ln, rfl, ⟨_, SqL.of hln⟩, for_it (walk_list (K := K) (a := ln) (xs := ws.map V.str)) (fun i σ Gi => ∃ (u5 u6 u7 u8 u9 u11 u12 : Option V) (ys : List V) (es : List PyData), σ = [some (.ref a), some (.int mo), some (.int la), some (.int c), some (.ref l), u5, u6, u7, u8, u9, some (.ref lj), u11, u12, none] ∧
        Sto sc a (n + 1 + 5 * c.toNat + c.toNat + 800 + 2 * i) Gi ∧ Same (Off lj (Off a Gp)) (Off lj (Off a Gi)) ∧ Gi l = some (.lst xs) ∧ Gi ln = some (.lst (ws.map V.str)) ∧ Gi lj = some (.lst ys) ∧ DpAll K (Off lj (Off a Gi)) ys es ∧ es.length = i ∧ (∀ e ∈ es, jobD e = true) ∧ es.map nameOf = ws.take i ∧ es.map arrD = ds.take i)
      ⟨_, _, _, _, _, _, _, [], [], rfl, S5.more (by omega), F5, l5, hln, lj5, .nil, rfl, (fun e he => absurd he (by simp)), rfl, rfl⟩ (fun i σ Gi _ ⟨_, _, _, _, _, _, _, _, _, _, _, _, _, h, _⟩ => SqL.of h) ?_ ?_⟩
    · rintro i v1 σ Ga Gb hi ⟨u5, u6, u7, u8, u9, u11, u12, ys, es, rfl, Si, Fi, li, hi_n, hlj, dys, les, okes, enm, ear⟩ ⟨rfl, hy⟩
      rw [List.length_map] at hi
      rw [List.getElem?_map] at hy
      obtain ⟨nm, hnm, rfl⟩ := Option.map_eq_some_iff.mp hy
      have yl := dps_len dys
      refine ⟨_, rfl, a, sc, 10, _, rfl, by decide, by decide, Si, by omega, fun x G1 x0 x4 SG1 KG1 => ?_⟩
      refine ⟨(by show 3 ≤ sizeLine; decide), fun q nq => ?_⟩
      have sq := same_new (o := .lst [.int 0, .int 0, .int x]) nq
      have qa := SG1.ne nq
      refine ⟨_, rfl, a, sc, 3, _, rfl, by decide, by decide, SG1.same sq, by omega, fun z G3 z0 z3 SG3 KG3 => ?_⟩
      obtain ⟨av, hav, vav⟩ := atI_three (x0 := .int 0) (x1 := .int 0) (x2 := .int x) z0 z3
      refine ⟨q, _, _, av, rfl, rfl, SqL.of (KG3.at upd_same qa), hav, ?_⟩
      obtain ⟨ai, ai0, ai9, rfl⟩ : ∃ ai : Int, 0 ≤ ai ∧ ai ≤ 9 ∧ av = .int ai := by
        rcases vav with rfl | rfl | rfl
        · exact ⟨_, by decide, by decide, rfl⟩
        · exact ⟨_, by decide, by decide, rfl⟩
        · exact ⟨_, x0, by omega, rfl⟩
      have KA : Kept a Gb G3 := (KG1.trans (kept_same sq)).trans KG3
      have lG3 := KA.at li la_
      have lnG3 := KA.at hi_n lna
      have ljG3 := KA.at hlj lja
      have hxi : xs[i]? = some xs[i] := List.getElem?_eq_getElem (by omega)
      obtain ⟨d, hd, dd⟩ := dps_getV dX hxi
      generalize xs[i] = v at hxi dd
      have hat : atI xs ((ys.length : Nat) : Int) = some v := by
        rw [yl, les]
        exact atI_nat hxi
      refine ⟨_, rfl, .inl ⟨rfl, _, SqL.of ljG3⟩, ?_⟩
      refine ⟨_, rfl, _, rfl, _, rfl, lj, ys, rfl, .inl (SqL.of ljG3), l, xs, _, v, rfl, rfl, SqL.of lG3, hat, _, rfl, (by show 3 ≤ sizeLine; decide), fun t nt => ?_⟩
      have st := same_new (o := .tup [.str nm, v, .int ai]) nt
      have ta := SG3.ne nt
      have tl : t ≠ lj := fun e => by rw [e, ljG3] at nt; cases nt
      have KB : Kept a Gb (upd G3 t (.tup [.str nm, v, .int ai])) := KA.trans (kept_same st)
      have offs : Off lj (Off a (upd (upd G3 t (.tup [.str nm, v, .int ai])) lj (.lst (ys ++ [.ref t])))) = Off lj (Off a (upd G3 t (.tup [.str nm, v, .int ai]))) := by rw [off_other lja, off_upd]
      have FB := Fi.trans (off_mono (a := lj) KB)
      refine ⟨lj, _, _, rfl, rfl, st.at ljG3, by rw [yl, les]; exact Nat.lt_of_lt_of_le (show i < 13 by omega) (by decide), _, _, _, _, _, _, _, ys ++ [.ref t], es ++ [.tuple [.str nm, d, .int ai]], rfl, ((SG3.same st).other lja ljsc).more (by omega), ?_, ?_, ?_, upd_same, ?_, by rw [List.length_append, les]; rfl, ?_, ?_, ?_⟩
      · rw [offs]
        exact FB
      · rw [upd_ne llj]
        exact st.at lG3
      · rw [upd_ne lnj]
        exact st.at lnG3
      · rw [offs]
        refine dps_app (dps_same (off_mono KB) dys) (.cons (.tup (a := t) (SqT.of ?_) (.cons (.str nm) (.cons (dp_same FB dd) (.cons (.int ai) .nil)))) .nil)
        rw [off_ne tl, off_ne ta, upd_same]
      · intro e he
        rcases List.mem_append.mp he with he | he
        · exact okes e he
        · rw [List.mem_singleton.mp he]
          show (nameD (.str nm) && (arrivalD d && (integerD 0 (.int ai) && le9 (.int ai)))) = true
          rw [okws nm (List.mem_of_getElem? hnm), okd d (List.mem_of_getElem? hd), show integerD 0 (.int ai) = true from decide_eq_true ai0, show le9 (.int ai) = true from decide_eq_true ai9]
          rfl
      · rw [List.map_append, enm, List.take_add_one, hnm]
        rfl
      · rw [List.map_append, ear, List.take_add_one, hd]
        rfl
    · rintro σ Gi ⟨u5, u6, u7, u8, u9, u11, u12, ys, es, rfl, Si, Fi, li, hi_n, hlj, dys, les, okes, enm, ear⟩
      have yl := dps_len dys
      have wl : (ws.map V.str).length = ws.length := List.length_map ..
      rw [List.length_map] at les
      refine ⟨_, rfl, lj, ys, rfl, .inl ⟨SqL.of hlj, fun tp ntp => ?_⟩⟩
      have stp := same_new (o := .tup ys) ntp
      have tpa := Si.ne ntp
      refine k (.ref tp) es _ ((Si.same stp).more (by omega)) (((K1.trans (kept_of_off nl KG)).trans (kept_of_off nlj Fi)).trans (kept_same stp)) (.tup (a := tp) (SqT.of ?_) (dps_same ((off_sub lj _).trans (kept_same stp)) dys)) (List.all_eq_true.mpr okes) (by omega) ⟨?_, ?_⟩ ?_
      · rw [off_ne tpa, upd_same]
      · rw [enm, wl, List.take_of_length_le (Nat.le_refl _)]
        exact ndw
      · rw [ear, wl, List.take_of_length_le (by omega)]
        intro k t hm
        obtain ⟨j, hj, e⟩ := List.getElem_of_mem hm
        exact okA j (by omega) k t (by rw [List.getElem?_eq_getElem hj, e])
      · rw [ear, wl, List.take_of_length_le (by omega)]
        exact bd
end
end Vk
set_option maxHeartbeats 8000000
/-! a course's place -/
namespace Vk
open PySem PySem.Spec PyProof.Rows L2 GxR
/-! ### data of tuples, ints and texts only -/
inductive TupO : PyData → Prop
  | int (i : Int) : TupO (.int i)
  | str (s : Str) : TupO (.str s)
  | bl (b : Bool) : TupO (.bool b)
  | non : TupO .none
  | tup {ds : List PyData} (h : ∀ d, d ∈ ds → TupO d) : TupO (.tuple ds)
mutual
theorem dp_keep {K : PySem.W.Frag} {X Y : Hp} (k : ∀ a xs, SqT K X a xs → SqT K Y a xs) : ∀ {v : V} {d : PyData}, Dp K X v d → TupO d → Dp K Y v d
  | _, _, .int i, _ => .int i
  | _, _, .str s, _ => .str s
  | _, _, .bl b, _ => .bl b
  | _, _, .non, _ => .non
  | _, _, .tup q r, h => .tup (k _ _ q) (dps_keep k r (by cases h with | tup h => exact h))
  | _, _, .lst q r, h => by cases h
theorem dps_keep {K : PySem.W.Frag} {X Y : Hp} (k : ∀ a xs, SqT K X a xs → SqT K Y a xs) : ∀ {vs : List V} {ds : List PyData}, DpAll K X vs ds → (∀ d, d ∈ ds → TupO d) → DpAll K Y vs ds
  | _, _, .nil, _ => .nil
  | _, _, .cons a t, h => .cons (dp_keep k a (h _ (List.mem_cons_self ..))) (dps_keep k t fun d hd => h d (List.mem_cons_of_mem _ hd))
end
theorem tupO_list {ds : List PyData} (h : ds.all (fun d => match d with | .int _ => true | .str _ => true | _ => false) = true) : ∀ d, d ∈ ds → TupO d := fun d hd => by
  have z := List.all_eq_true.mp h d hd
  cases d with
  | int i => exact .int i
  | str s => exact .str s
  | _ => cases z
def Jd.kind (j : Jd) : Str := if j.at_ = true then "at" else "after"
def jdD (j : Jd) : PyData := .tuple [.str j.n, .tuple [.str j.kind, .int j.t], .int (j.e : Nat)]
abbrev Pc := Int × Int × List Str
def pieD (f : Pc) : PyData := .tuple [.int f.1, .int f.2.1, .tuple (f.2.2.map PyData.str)]
theorem tupO_jd (j : Jd) : TupO (jdD j) := .tup fun d hd => by
  simp only [List.mem_cons, List.not_mem_nil, or_false] at hd
  rcases hd with rfl | rfl | rfl
  · exact .str _
  · exact .tup (tupO_list rfl)
  · exact .int _
theorem tupO_pie (f : Pc) : TupO (pieD f) := .tup fun d hd => by
  simp only [List.mem_cons, List.not_mem_nil, or_false] at hd
  rcases hd with rfl | rfl | rfl
  · exact .int _
  · exact .int _
  · refine .tup fun d hd => ?_
    obtain ⟨x, _, rfl⟩ := List.mem_map.mp hd
    exact .str x
theorem tupO_jds {l : List Jd} : ∀ d, d ∈ l.map jdD → TupO d := fun d hd => by
  obtain ⟨j, _, rfl⟩ := List.mem_map.mp hd
  exact tupO_jd j
theorem tupO_pies {l : List Pc} : ∀ d, d ∈ l.map pieD → TupO d := fun d hd => by
  obtain ⟨j, _, rfl⟩ := List.mem_map.mp hd
  exact tupO_pie j
/-! ### its place -/
structure CoA where
  dn : Addr
  b : Addr
  l : Addr
  p : Addr
  A : BdA
def ftC (a : Addr) (N : CoA) : List Addr := a :: N.l :: N.p :: ftB N.b N.A
def cfl (N : CoA) : List (Str × V) := [("board", .ref N.b), ("coming", .ref N.l), ("pieces", .ref N.p)]
structure CoAt (CC CB : Addr) (K : PySem.W.Frag) (H : Hp) (a : Addr) (rv : V) (c : Int) (N : CoA) (C : Cs) (r : Rl) (ps : List Pc) : Prop where
  ob : H a = some (.ins CC N.dn (cfl N))
  bd : BdAt CB K H N.b rv c N.A C.s
  rule : Dp K (OffL (ftC a N) H) rv (bRulD r)
  lev : r.levels.length = C.s.lines.length
  com : ∃ xs, H N.l = some (.lst xs) ∧ DpAll K (OffL (ftC a N) H) xs (C.cm.map jdD)
  pie : ∃ ys, H N.p = some (.lst ys) ∧ DpAll K (OffL (ftC a N) H) ys (ps.map pieD)
  ab : a ∉ ftB N.b N.A
  lb : N.l ∉ ftB N.b N.A
  pb : N.p ∉ ftB N.b N.A
  lp : N.l ≠ N.p
structure CoC (K : PySem.W.Frag) (C : Addr) : Prop where
  cl : Cls K C
  nB : NoAttr K C "board"
  nC : NoAttr K C "coming"
  nP : NoAttr K C "pieces"
section
variable {CC CB : Addr} {K : PySem.W.Frag} {H H' : Hp} {a : Addr} {rv : V} {c : Int} {N : CoA} {C : Cs} {r : Rl} {ps : List Pc}
theorem cf_board : (cfl N).lookup ("board" : Str) = some (.ref N.b) := by kernel_rfl
theorem cf_coming : (cfl N).lookup ("coming" : Str) = some (.ref N.l) := by kernel_rfl
theorem cf_pieces : (cfl N).lookup ("pieces" : Str) = some (.ref N.p) := by kernel_rfl
theorem cf_setC (l : Addr) : putF "coming" (.ref l) (cfl N) = cfl { N with l := l } := by kernel_rfl
theorem CoAt.al (B : CoAt CC CB K H a rv c N C r ps) : a ≠ N.l := by
  obtain ⟨xs, h, _⟩ := B.com
  exact ne_of B.ob h (by intro z; cases z)
theorem CoAt.ap (B : CoAt CC CB K H a rv c N C r ps) : a ≠ N.p := by
  obtain ⟨xs, h, _⟩ := B.pie
  exact ne_of B.ob h (by intro z; cases z)
theorem CoAt.noTup (B : CoAt CC CB K H a rv c N C r ps) : ∀ z ∈ ftC a N, ∀ o, H z = some o → NoTup o := fun z hz o e => by
  obtain ⟨xs, h1, _⟩ := B.com
  obtain ⟨ys, h2, _⟩ := B.pie
  simp only [ftC, List.mem_cons] at hz
  rcases hz with rfl | rfl | rfl | h
  · rw [B.ob] at e; cases e; exact noTup_ins
  · rw [h1] at e; cases e; exact noTup_lst
  · rw [h2] at e; cases e; exact noTup_lst
  · exact B.bd.noTup z h o e
theorem CoAt.here (B : CoAt CC CB K H a rv c N C r ps) {z : Addr} (hz : z ∈ ftC a N) : H z ≠ none := by
  obtain ⟨xs, h1, _⟩ := B.com
  obtain ⟨ys, h2, _⟩ := B.pie
  simp only [ftC, List.mem_cons] at hz
  rcases hz with rfl | rfl | rfl | h
  · rw [B.ob]; exact fun w => nomatch w
  · rw [h1]; exact fun w => nomatch w
  · rw [h2]; exact fun w => nomatch w
  · exact B.bd.here h
theorem CoAt.same (B : CoAt CC CB K H a rv c N C r ps) (k : Same H H') : CoAt CC CB K H' a rv c N C r ps := by
  obtain ⟨xs, h1, d1⟩ := B.com
  obtain ⟨ys, h2, d2⟩ := B.pie
  exact ⟨k.at B.ob, B.bd.same k, dp_same (offL_mono k) B.rule, B.lev, ⟨xs, k.at h1, dps_same (offL_mono k) d1⟩, ⟨ys, k.at h2, dps_same (offL_mono k) d2⟩, B.ab, B.lb, B.pb, B.lp⟩
theorem ftC_comp {X : Hp} {A' : BdA} : OffL [a, N.l, N.p] (OffL (ftB N.b A') X) = OffL (ftC a { N with A := A' }) X := offL_comp
theorem CoAt.bdR (B : CoAt CC CB K H a rv c N C r ps) (ok : C.s.Ok0) : BdR K CB H N.b rv c N.A C.s r := ⟨B.bd, ok, dp_same (offL_swap fun x hx => .inl (by simp [ftC, hx])) B.rule, B.lev⟩
/-- the board has done something -/
theorem CoAt.step (B : CoAt CC CB K H a rv c N C r ps) {A' : BdA} {s' : Bd} (S : Same (OffL (ftB N.b N.A) H) (OffL (ftB N.b A') H')) (B' : BdAt CB K H' N.b rv c A' s') (lev' : r.levels.length = s'.lines.length) :
    CoAt CC CB K H' a rv c { N with A := A' } ⟨s', C.cm⟩ r ps ∧ Same (OffL (ftC a N) H) (OffL (ftC a { N with A := A' }) H') := by
  obtain ⟨xs, h1, d1⟩ := B.com
  obtain ⟨ys, h2, d2⟩ := B.pie
  have sm : Same (OffL (ftC a N) H) (OffL (ftC a { N with A := A' }) H') := by
    have y := offL_mono (ft := [a, N.l, N.p]) S
    rw [ftC_comp, ftC_comp] at y
    exact y
  obtain ⟨n1, n2⟩ := offL_some (S.at (o := .ins CC N.dn (cfl N)) (by rw [offL_out B.ab]; exact B.ob))
  obtain ⟨l1, l2⟩ := offL_some (S.at (o := .lst xs) (by rw [offL_out B.lb]; exact h1))
  obtain ⟨p1, p2⟩ := offL_some (S.at (o := .lst ys) (by rw [offL_out B.pb]; exact h2))
  exact ⟨⟨n2, B', dp_same sm B.rule, lev', ⟨xs, l2, dps_same sm d1⟩, ⟨ys, p2, dps_same sm d2⟩, n1, l1, p1, B.lp⟩, sm⟩
/-- others come -/
theorem CoAt.setComing (B : CoAt CC CB K H a rv c N C r ps) {H1 : Hp} (k : Same H H1) {l' : Addr} {xs' : List V} {cm' : List Jd} (nl : H l' = none) (hl : H1 l' = some (.lst xs')) (d : DpAll K (OffL (ftC a N) H) xs' (cm'.map jdD)) :
    CoAt CC CB K (upd H1 a (.ins CC N.dn (cfl { N with l := l' }))) a rv c { N with l := l' } ⟨C.s, cm'⟩ r ps ∧ Same (OffL (ftC a N) H) (OffL (ftC a { N with l := l' }) (upd H1 a (.ins CC N.dn (cfl { N with l := l' })))) := by
  obtain ⟨xs, h1, d1⟩ := B.com
  obtain ⟨ys, h2, d2⟩ := B.pie
  have la : l' ≠ a := fun e => by rw [e, B.ob] at nl; cases nl
  have lb' : l' ∉ ftB N.b N.A := fun m => B.bd.here m nl
  have lp' : l' ≠ N.p := fun e => by rw [e, h2] at nl; cases nl
  have sm : Same (OffL (ftC a N) H) (OffL (ftC a { N with l := l' }) (upd H1 a (.ins CC N.dn (cfl { N with l := l' })))) := by
    rw [offL_upd (by simp [ftC])]
    refine Same.trans ?_ (offL_mono k)
    refine offL_swap fun z hz => ?_
    simp only [ftC, List.mem_cons] at hz ⊢
    rcases hz with h | h | h | h
    · exact .inl (.inl h)
    · exact .inr (by rw [h]; exact nl)
    · exact .inl (.inr (.inr (.inl h)))
    · exact .inl (.inr (.inr (.inr h)))
  have B1 := B.same k
  have bd : BdAt CB K (upd H1 a (.ins CC N.dn (cfl { N with l := l' }))) N.b rv c N.A C.s := B1.bd.keepT (fun z hz => upd_ne fun e => B.ab (by rw [← e]; exact hz)) (fun y xs q => by
    rw [offL_put B.ab]
    exact sqt_put (by rw [offL_out B.ab]; exact B1.ob) noTup_ins q)
  exact ⟨⟨upd_same, bd, dp_same sm B.rule, B.lev, ⟨xs', by rw [upd_ne la]; exact hl, dps_same sm d⟩, ⟨ys, by rw [upd_ne B.ap.symm]; exact k.at h2, dps_same sm d2⟩, B.ab, lb', B.pb, lp'⟩, sm⟩
/-- a piece more -/
theorem CoAt.addPiece (B : CoAt CC CB K H a rv c N C r ps) {H1 : Hp} (k : Same H H1) {t : V} {f : Pc} {ys : List V} (hp : H N.p = some (.lst ys)) (d : Dp K (OffL (ftC a N) H1) t (pieD f)) :
    CoAt CC CB K (upd H1 N.p (.lst (ys ++ [t]))) a rv c N C r (ps ++ [f]) ∧ Same (OffL (ftC a N) H) (OffL (ftC a N) (upd H1 N.p (.lst (ys ++ [t])))) := by
  obtain ⟨xs, h1, d1⟩ := B.com
  obtain ⟨ys', h2, d2⟩ := B.pie
  rw [hp] at h2
  cases h2
  have mp : N.p ∈ ftC a N := by simp [ftC]
  have sm : Same (OffL (ftC a N) H) (OffL (ftC a N) (upd H1 N.p (.lst (ys ++ [t])))) := by
    rw [offL_upd mp]
    exact offL_mono k
  have B1 := B.same k
  have bd : BdAt CB K (upd H1 N.p (.lst (ys ++ [t]))) N.b rv c N.A C.s := B1.bd.keepT (fun z hz => upd_ne fun e => B.pb (by rw [← e]; exact hz)) (fun y xs q => by
    rw [offL_put B.pb]
    exact sqt_put (by rw [offL_out B.pb]; exact k.at hp) noTup_lst q)
  refine ⟨⟨by rw [upd_ne B.ap]; exact B1.ob, bd, dp_same sm B.rule, B.lev, ⟨xs, by rw [upd_ne B.lp]; exact k.at h1, dps_same sm d1⟩, ⟨ys ++ [t], upd_same, ?_⟩, B.ab, B.lb, B.pb, B.lp⟩, sm⟩
  rw [List.map_append]
  refine dps_app (dps_same sm d2) (.cons ?_ .nil)
  rw [offL_upd mp]
  exact d
end
end Vk
set_option maxHeartbeats 4000000
/-! shaped data -/
namespace Vk
open PySem PySem.Spec PyProof.Rows L2 GxR
theorem name_strOk {x : Str} (h : nameD (.str x) = true) : PyData.strOk x = true := by
  obtain ⟨_, n8, az⟩ := nameD_iff.mp h
  have okS : ∀ s : Str, (∀ c ∈ s.cps.toList, c < 256) → PyData.strOk s = true := fun s hs => by
    unfold PyData.strOk
    first
    | (rw [← Array.all_toList, List.all_eq_true]; intro c hc; have := hs c hc; simp; omega)
    | (simp; intro c hc; have := hs c hc; omega)
  exact okS x fun c hc => by
    have z := az c hc
    rw [between_az] at z
    have := of_decide_eq_true z
    omega
theorem shape_map {α : Type} {f : α → PyData} {n : Nat} : ∀ {xs : List α}, (∀ x ∈ xs, PyData.canLay0 (f x) = true ∧ PyData.depth (f x) ≤ n) → PyData.canLayAll0 (xs.map f) = true ∧ PyData.depthAll (xs.map f) ≤ n
  | [], _ => ⟨rfl, by simp [PyData.depthAll]⟩
  | x :: xs, h => by
    obtain ⟨a1, a2⟩ := h x (List.mem_cons_self ..)
    obtain ⟨b1, b2⟩ := shape_map (f := f) (n := n) (xs := xs) fun y hy => h y (List.mem_cons_of_mem _ hy)
    refine ⟨?_, ?_⟩
    · simp [PyData.canLayAll0, a1, b1]
    · simp [PyData.depthAll]
      omega
theorem shaped_tuple {α : Type} {f : α → PyData} {n : Nat} {xs : List α} (h : ∀ x ∈ xs, PyData.canLay0 (f x) = true ∧ PyData.depth (f x) ≤ n) : PyData.canLay0 (.tuple (xs.map f)) = true ∧ PyData.depth (.tuple (xs.map f)) ≤ n + 1 := by
  obtain ⟨a, b⟩ := shape_map h
  exact ⟨by simp [PyData.canLay0, a], by simp [PyData.depth]; omega⟩
theorem shaped_list {α : Type} {f : α → PyData} {n : Nat} {xs : List α} (h : ∀ x ∈ xs, PyData.canLay0 (f x) = true ∧ PyData.depth (f x) ≤ n) : PyData.canLay0 (.list (xs.map f)) = true ∧ PyData.depth (.list (xs.map f)) ≤ n + 1 := by
  obtain ⟨a, b⟩ := shape_map h
  exact ⟨by simp [PyData.canLay0, a], by simp [PyData.depth]; omega⟩
theorem shaped_mk {d : PyData} {n : Nat} (h : PyData.canLay0 d = true ∧ PyData.depth d ≤ n) (hn : n ≤ 64) : SeqAt.shaped d = true := by
  unfold SeqAt.shaped
  rw [h.1, Bool.true_and]
  exact decide_eq_true (Nat.le_trans h.2 hn)
theorem sh_names {xs : List Str} (h : ∀ x ∈ xs, PyData.strOk x = true) : SeqAt.shaped (.tuple (xs.map PyData.str)) = true :=
  shaped_mk (n := 3) (shaped_tuple (n := 2) fun x hx => by simp [PyData.canLay0, PyData.depth, h x hx]) (by decide)
theorem sh_log (s : Bd) : SeqAt.shaped (.tuple (logD s)) = true :=
  shaped_mk (n := 4) (shaped_tuple (n := 3) fun f _ => by simp [PyData.canLay0, PyData.canLayAll0, PyData.depth, PyData.depthAll]) (by decide)
theorem eqv_same {d : PyData} (h : SeqAt.shaped d = true) : PyData.eqv d d = true := SeqAt.eqv_refl _ (SeqAt.canLay_of_shaped h)
end Vk
set_option maxHeartbeats 8000000
/-! the door of a course -/
namespace Vk
open PySem PySem.Spec PyProof.Rows L2 GxR
theorem eqv_jd {i j : Jd} (h : i.n ≠ j.n) : PyData.eqv (jdD i) (jdD j) = false := by
  simp [jdD, PyData.eqv, PyData.eqvAll, h]
theorem sh_jd {j : Jd} (h : PyData.strOk j.n = true) : PyData.canLay0 (jdD j) = true ∧ PyData.depth (jdD j) ≤ 4 := by
  have k : PyData.strOk j.kind = true := by
    unfold Jd.kind
    split <;> decide +kernel
  simp [jdD, PyData.canLay0, PyData.canLayAll0, PyData.depth, PyData.depthAll, h, k]
theorem sh_jd1 {j : Jd} (h : PyData.strOk j.n = true) : SeqAt.shaped (jdD j) = true := shaped_mk (sh_jd h) (by decide)
theorem sh_jds {l : List Jd} (h : ∀ j ∈ l, PyData.strOk j.n = true) : SeqAt.shaped (.list (l.map jdD)) = true := shaped_mk (shaped_list fun j hj => sh_jd (h j hj)) (by decide)
theorem any_jd {J l : List Jd} {j : Jd} (inj : ∀ a ∈ J, ∀ b ∈ J, a.n = b.n → a = b) (hl : ∀ x ∈ l, x ∈ J) (hj : j ∈ J) (sh : SeqAt.shaped (jdD j) = true) : ((l.map jdD).any fun z => PyData.eqv z (jdD j)) = true ↔ j ∈ l := by
  rw [List.any_map, List.any_eq_true]
  constructor
  · rintro ⟨x, hx, e⟩
    by_cases q : x.n = j.n
    · rw [← inj x (hl x hx) j hj q]
      exact hx
    · have e : PyData.eqv (jdD x) (jdD j) = true := e
      rw [eqv_jd q] at e
      cases e
  · intro m
    exact ⟨j, m, SeqAt.eqv_refl _ (SeqAt.canLay_of_shaped sh)⟩
theorem reach_jd {j : Jd} {m f : Int} : reachA m f (arrD (jdD j)) = Jd.reach m f j := by
  show decide (j.t ≤ if atS "at" (.str j.kind) = true then m else f) = decide (j.t ≤ if j.at_ = true then m else f)
  have e : atS "at" (.str j.kind) = j.at_ := by
    show decide (j.kind = "at") = j.at_
    unfold Jd.kind
    cases j.at_ with
    | true => rfl
    | false => decide +kernel
  rw [e]
theorem units65c {k : Nat} {A : Around} (r : Room k A) : A.units + 65 < cLine := by have := r.un; omega
abbrev NLI : List Str := ["self", "board", "finished", "arriving", "name", "_", "entry", "job"]
section
variable {P : Program} {w : World} {K : PySem.W.Frag} {mg : Str → Option Value} {base : Heap} {CC CB : Addr}
/-- jobs that are checked -/
structure JName (J : List Jd) : Prop where
  nm : ∀ j ∈ J, nameD (.str j.n) = true
  job : ∀ j ∈ J, jobD (jdD j) = true
theorem JName.ok {J : List Jd} (h : JName J) {j : Jd} (hj : j ∈ J) : PyData.strOk j.n = true := name_strOk (h.nm j hj)
def spLetIn (K : PySem.W.Frag) (CC CB : Addr) : Sp := fun vs H Q _ => ∃ (a : Addr) (rv : V) (c : Int) (N : CoA) (C : Cs) (r : Rl) (ps : List Pc) (nd : Str → Int) (J : List Jd), vs = [.ref a] ∧ CoAt CC CB K H a rv c N C r ps ∧ C.Ok r nd J ∧ JOk nd J ∧ JName J ∧ r.Ok ∧
  ∀ (N' : CoA) (H' : Hp), CoAt CC CB K H' a rv c N' (C.letIn r) r ps → Same (OffL (ftC a N) H) (OffL (ftC a N') H') → N'.dn = N.dn → N'.b = N.b → Q .non H'
theorem scLetIn : FnScope NLI ["self"] (defScope sCoLetIn) := ⟨rfl, rfl, rfl, by decide +kernel, rfl, by decide +kernel, by decide +kernel⟩
theorem ok_letIn (D : MDf K CC "let_in" "Course.let_in" sCoLetIn ["self"]) (TC : CoC K CC) (TB : BdC K CB) (HA : Cl P w K mg base CX0 1 "has_arrived" ["job", "moment", "finished"] (spHas K)) (MF : MCl P w K mg base CX0 1 CB "many_finished" ["self"] (spMany K CB)) (EN : MCl P w K mg base CX0 1 CB "enter" ["self", "name", "entry"] (spEnter K CB)) : MCl P w K mg base CX0 2 CC "let_in" ["self"] (spLetIn K CC CB) := by
  refine mcl0 D scLetIn (fun vs H Q E h => ?_) (fun f cdv Ar outer s0 H vs Q E hr h => ?_)
  · obtain ⟨a, rv, c, N, C, r, ps, nd, J, rfl, _⟩ := h
    rfl
  · obtain ⟨a, rv, c, N, C, r, ps, nd, J, rfl, B, ok, jok, jn, rok, k⟩ := h
    obtain ⟨fM, fdM, MM, bM, FM⟩ := MF.ex
    obtain ⟨fE, fdE, ME, bE, FE⟩ := EN.ex
    refine ⟨_, pss_cons (ps_set (i := 1) scLetIn.nd rfl (Or.inr rfl) (pe_fld (pv 0) rfl))
      (pss_cons (ps_set (i := 2) scLetIn.nd rfl (Or.inr rfl) (pe_meth0 (pv 1) TB.cl MM FM (hr.mono (by decide)) bM .nil pass0))
      (pss_cons (ps_set (i := 3) scLetIn.nd rfl (Or.inr rfl) (pe_lc (own := [("job", 7)]) (g := gName 7) (tt := tB (tCal (spHas K) (tCons (tVar 7) (tCons (tFld K (tVar 1) "now") (tCons (tVar 2) tNil))))) (te := tVar 7) (by rfl) scLetIn.nd (pi_list (pe_fld (pv 0) rfl)) (blkOk_by (own := [("job", 7)]) (N := NLI) (sc := defScope sCoLetIn) (by decide +kernel))
          (fun _ _ _ _ _ => pg_name (i := 7) scLetIn.nd rfl (Or.inl rfl)) (fun _ _ _ _ _ => pts_one (pt_val (pc HA hr (by decide) (pa_cons (pv 7) (pa_cons (pe_fld (pv 1) rfl) (pa_cons (pv 2) pa_nil)))))) (fun _ _ _ _ _ => pv 7)))
      (pss_cons (ps_fld (pv 0) (pe_lc (own := [("job", 7)]) (g := gName 7) (tt := tTest (tOp (rNotInD K) (tVar 7) (tVar 3))) (te := tVar 7) (by rfl) scLetIn.nd (pi_list (pe_fld (pv 0) rfl)) (blkOk_by (own := [("job", 7)]) (N := NLI) (sc := defScope sCoLetIn) (by decide +kernel))
          (fun _ _ _ _ _ => pg_name (i := 7) scLetIn.nd rfl (Or.inl rfl)) (fun _ _ _ _ _ => pts_one (pt_cmpR (op_notInD (units65c hr)) (pv 7) (pv 3) (by rfl))) (fun _ _ _ _ _ => pv 7)) rfl)
      (pss_one (ps_for PassesOwn.never rfl (pi_list (pv 3)) (pg_tup rfl (pgs_cons (pg_name (i := 4) scLetIn.nd rfl (.inl rfl)) (pgs_cons (pg_name (i := 5) scLetIn.nd rfl (.inl rfl)) (pgs_cons (pg_name (i := 6) scLetIn.nd rfl (.inl rfl)) pgs_nil))))
        (pss_one (ps_expr (pe_meth (pv 1) TB.cl ME FE (hr.mono (by decide)) bE .nil pass0 (pa_cons (pv 4) (pa_cons (pv 6) pa_nil)))))))))), ?_⟩
    obtain ⟨xs, hx, dx⟩ := B.com
    have xl := dps_len dx
    rw [List.length_map] at xl
    have cl900 : C.cm.length ≤ 900 := by
      have := ok.len
      have := jok.small
      omega
    refine ⟨_, rfl, a, CC, N.dn, _, _, rfl, B.ob, TC.cl, TC.nB, cf_board, ?_⟩
    refine ⟨_, rfl, N.b, N.A.dx, _, rfl, B.bd.ob, by kernel_rfl, N.b, rv, c, N.A, C.s, rfl, B.bd, ?_⟩
    refine ⟨_, rfl, a, CC, N.dn, _, _, rfl, B.ob, TC.cl, TC.nC, cf_coming, N.l, rfl, ⟨_, SqL.of hx⟩, fun D1 nD1 => ?_⟩
    refine lc_it (walk_list (K := K) (a := N.l) (xs := xs)) (fun i Hc => ∃ acc, Hc D1 = some (.lst acc) ∧ Same H (Off D1 Hc) ∧ DpAll K (OffL (ftC a N) H) acc (((C.cm.take i).filter (Jd.reach C.s.now C.s.done)).map jdD)) ⟨[], upd_same, off_newB nD1, .nil⟩ (fun i Hc _ ⟨_, _, sc, _⟩ => SqL.of ((sc.trans (off_sub D1 Hc)).at hx)) ?_ ?_
    · rintro i y Hc0 Hc hi ⟨acc, hD, sc, da⟩ ⟨rfl, hy⟩
      obtain ⟨d, hd, dd⟩ := dps_getV dx hy
      rw [List.getElem?_map] at hd
      obtain ⟨j, hj, rfl⟩ := Option.map_eq_some_iff.mp hd
      have jJ := ok.sub j (List.mem_of_getElem? hj)
      have sH := sc.trans (off_sub D1 Hc)
      have BC := B.same sH
      have al := dps_len da
      rw [List.length_map] at al
      have fl := List.length_filter_le (Jd.reach C.s.now C.s.done) (C.cm.take i)
      rw [List.length_take] at fl
      have tk : (C.cm.take (i + 1)).filter (Jd.reach C.s.now C.s.done) = (C.cm.take i).filter (Jd.reach C.s.now C.s.done) ++ (if Jd.reach C.s.now C.s.done j = true then [j] else []) := by
        rw [List.take_add_one, hj, List.filter_append]
        congr 1
        cases h : Jd.reach C.s.now C.s.done j <;> simp [h]
      rw [tk]
      refine ⟨rfl, _, rfl, _, rfl, N.b, CB, N.A.dx, _, _, rfl, BC.bd.ob, TB.cl, TB.nN, bf_now, _, rfl, y, jdD j, C.s.now, C.s.done, rfl, dp_same ((offL_sub (ftC a N) H).trans sH) dd, jn.job j jJ, ?_⟩
      rw [reach_jd]
      refine ⟨_, rfl, ?_⟩
      cases hb : Jd.reach C.s.now C.s.done j with
      | true =>
        refine iteT ⟨_, rfl, acc, hD, Nat.lt_of_le_of_lt (show acc.length ≤ 1000 by omega) (by decide), acc ++ [y], upd_same, ?_, ?_⟩
        · rw [off_upd]
          exact sc
        · rw [if_pos rfl, List.map_append]
          exact dps_app da (.cons dd .nil)
      | false =>
        refine iteF ⟨acc, hD, sc, ?_⟩
        rw [if_neg Bool.false_ne_true, List.append_nil]
        exact da
    rintro H1 ⟨acc, hD, sc, da⟩
    rw [xl, List.take_length] at da
    have sH := sc.trans (off_sub D1 H1)
    have B1 := B.same sH
    dsimp only [gName]
    have inj : ∀ x ∈ J, ∀ y ∈ J, x.n = y.n → x = y := fun x hx y hy e => jok.inj hx hy e
    have arrJ : ∀ x ∈ C.arr, x ∈ J := fun x hx => ok.sub x (List.mem_filter.mp hx).1
    have al := dps_len da
    rw [List.length_map] at al
    have arr900 : C.arr.length ≤ 900 := Nat.le_trans (List.length_filter_le ..) cl900
    have dA : Dp K H1 (.ref D1) (.list (C.arr.map jdD)) := .lst (SqL.of hD) (dps_same ((offL_sub (ftC a N) H).trans sH) da)
    have shA : SeqAt.shaped (.list (C.arr.map jdD)) = true := sh_jds fun x hx => jn.ok (arrJ x hx)
    refine ⟨_, rfl, a, CC, N.dn, _, _, rfl, B1.ob, TC.cl, TC.nC, cf_coming, N.l, rfl, ⟨_, SqL.of (sH.at hx)⟩, fun D2 nD2 => ?_⟩
    refine lc_it (walk_list (K := K) (a := N.l) (xs := xs)) (fun i Hc => ∃ acc, Hc D2 = some (.lst acc) ∧ Same H1 (Off D2 Hc) ∧ DpAll K (OffL (ftC a N) H) acc (((C.cm.take i).filter fun j => !Jd.reach C.s.now C.s.done j).map jdD)) ⟨[], upd_same, off_newB nD2, .nil⟩ (fun i Hc _ ⟨_, _, sc, _⟩ => SqL.of ((sc.trans (off_sub D2 Hc)).at (sH.at hx))) ?_ ?_
    · rintro i y Hc0 Hc hi ⟨acc2, hD2, sc2, da2⟩ ⟨rfl, hy⟩
      obtain ⟨d, hd, dd⟩ := dps_getV dx hy
      rw [List.getElem?_map] at hd
      obtain ⟨j, hj, rfl⟩ := Option.map_eq_some_iff.mp hd
      have jm := List.mem_of_getElem? hj
      have jJ := ok.sub j jm
      have sH2 := sc2.trans (off_sub D2 Hc)
      have al2 := dps_len da2
      rw [List.length_map] at al2
      have fl := List.length_filter_le (fun j => !Jd.reach C.s.now C.s.done j) (C.cm.take i)
      rw [List.length_take] at fl
      have tk : (C.cm.take (i + 1)).filter (fun j => !Jd.reach C.s.now C.s.done j) = (C.cm.take i).filter (fun j => !Jd.reach C.s.now C.s.done j) ++ (if Jd.reach C.s.now C.s.done j = false then [j] else []) := by
        rw [List.take_add_one, hj, List.filter_append]
        congr 1
        cases h : Jd.reach C.s.now C.s.done j <;> simp [h]
      rw [tk]
      have shj := sh_jd1 (jn.ok jJ)
      have e : (!((C.arr.map jdD).any fun z => PyData.eqv z (jdD j))) = !Jd.reach C.s.now C.s.done j := by
        have z := any_jd (J := J) (l := C.arr) inj arrJ jJ shj
        have z2 : j ∈ C.arr ↔ Jd.reach C.s.now C.s.done j = true := by
          unfold Cs.arr
          rw [List.mem_filter]
          exact ⟨fun w => w.2, fun w => ⟨jm, w⟩⟩
        rw [z2] at z
        rw [Bool.eq_iff_iff.mpr z]
      refine ⟨rfl, _, rfl, _, rfl, jdD j, C.arr.map jdD, dp_same ((offL_sub (ftC a N) H).trans (sH.trans sH2)) dd, dp_same sH2 dA, shj, shA, ?_⟩
      rw [e]
      refine ⟨_, rfl, ?_⟩
      cases hb : Jd.reach C.s.now C.s.done j with
      | false =>
        refine iteT ⟨_, rfl, acc2, hD2, Nat.lt_of_le_of_lt (show acc2.length ≤ 1000 by omega) (by decide), acc2 ++ [y], upd_same, ?_, ?_⟩
        · rw [off_upd]
          exact sc2
        · rw [if_pos rfl, List.map_append]
          exact dps_app da2 (.cons dd .nil)
      | true =>
        refine iteF ⟨acc2, hD2, sc2, ?_⟩
        rw [if_neg (fun w => nomatch w), List.append_nil]
        exact da2
    rintro H2 ⟨acc2, hD2, sc2, da2⟩
    rw [xl, List.take_length] at da2
    have sH2 := sc2.trans (off_sub D2 H2)
    have s02 := sH.trans sH2
    have B2 := B.same s02
    obtain ⟨B3, S3⟩ := B.setComing s02 (sH.free nD2) hD2 da2
    refine ⟨_, rfl, a, CC, N.dn, _, rfl, B2.ob, TC.cl, TC.nC, by show 3 < 1000; decide, ?_⟩
    rw [cf_setC]
    have hD3 : upd H2 a (.ins CC N.dn (cfl { N with l := D2 })) D1 = some (.lst acc) := by
      rw [upd_ne fun e => by rw [e, B1.ob] at hD; cases hD]
      exact sH2.at hD
    generalize upd H2 a (.ins CC N.dn (cfl { N with l := D2 })) = H3 at B3 S3 hD3 ⊢
    have D1n : D1 ∉ ftC a { N with l := D2 } := fun m => by
      simp only [ftC, List.mem_cons] at m
      obtain ⟨ys, hp, _⟩ := B.pie
      rcases m with m | m | m | m
      · rw [m, B.ob] at nD1; cases nD1
      · rw [m, nD2] at hD; cases hD
      · rw [m, hp] at nD1; cases nD1
      · exact B.bd.here m nD1
    have take_ok : ∀ i, (⟨enters r C.s (C.arr.take i), C.arr.drop i ++ C.rest⟩ : Cs).Ok r nd J := fun i => by
      refine Cs.Ok.enters rok jok ?_
      rw [← List.append_assoc, List.take_append_drop]
      exact ok.perm C.split_perm
    refine ⟨_, rfl, D1, rfl, ⟨_, SqL.of hD3⟩, ?_⟩
    refine for_it (D := { nx := _, rt := _ }) (walk_list (K := K) (a := D1) (xs := acc)) (fun i σ G => ∃ (u4 u5 u6 : Option V) (N2 : CoA), σ = [some (.ref a), some (.ref N.b), some (.int C.s.done), some (.ref D1), u4, u5, u6, none] ∧ N2.b = N.b ∧ N2.dn = N.dn ∧ CoAt CC CB K G a rv c N2 ⟨enters r C.s (C.arr.take i), C.rest⟩ r ps ∧ Same (OffL (ftC a N) H) (OffL (ftC a N2) G) ∧ OffL (ftC a N2) G D1 = some (.lst acc))
      ⟨none, none, none, { N with l := D2 }, rfl, rfl, rfl, B3, S3, by rw [offL_out D1n]; exact hD3⟩ (fun i σ G _ ⟨_, _, _, N2, _, _, _, _, _, h⟩ => SqL.of ((offL_sub (ftC a N2) G).at h)) ?_ ?_
    · rintro i y σ G0 G hi ⟨u4, u5, u6, N2, rfl, eb, en, BG, SG, hG⟩ ⟨rfl, hy⟩
      obtain ⟨d, hd, dd⟩ := dps_getV da hy
      rw [List.getElem?_map] at hd
      obtain ⟨j, hj, rfl⟩ := Option.map_eq_some_iff.mp hd
      have dj := dp_same (offL_sub (ftC a N2) G) (dp_same SG dd)
      obtain ⟨p, x1, x2, x3, rfl, q, e1, e2, e3⟩ := dp_threeB dj
      have e1 := dp_str e1
      subst e1
      have e3 := dp_int e3
      subst e3
      have okP := take_ok i
      have hji : C.arr[i]? = some j := hj
      have dr : C.arr.drop i = j :: C.arr.drop (i + 1) := by
        obtain ⟨h1, h2⟩ := List.getElem?_eq_some_iff.mp hji
        rw [List.drop_eq_getElem_cons h1, h2]
      rw [dr] at okP
      have nx := okP.out j (List.mem_cons_self ..)
      have sm : (enters r C.s (C.arr.take i)).ran.length < 1000 := by
        have z := okP.len
        have := jok.small
        have z : (enters r C.s (C.arr.take i)).ran.length + (j :: C.arr.drop (i + 1) ++ C.rest).length = J.length := z
        simp only [List.cons_append, List.length_cons] at z
        omega
      refine ⟨p, _, rfl, q, rfl, _, _, rfl, _, _, rfl, _, _, rfl, rfl, ?_⟩
      have bo := BG.bd.ob
      rw [eb] at bo
      refine ⟨_, rfl, N.b, N2.A.dx, _, rfl, bo, by kernel_rfl, _, rfl, _, rfl, N.b, rv, c, N2.A, enters r C.s (C.arr.take i), r, j.n, j.e, rfl, ?_, nx, sm, fun G' B' S' => ?_⟩
      · rw [← eb]
        exact BG.bdR okP.bd.toOk0
      rw [← eb] at B' S'
      have tk : enters r C.s (C.arr.take (i + 1)) = (enters r C.s (C.arr.take i)).enter r j.n j.e := by
        unfold enters
        rw [List.take_add_one, hji, List.foldl_append]
        rfl
      obtain ⟨B4, S4⟩ := BG.step S' B' (by rw [BG.lev]; exact (List.length_set).symm)
      refine ⟨_, _, _, { N2 with A := N2.A }, rfl, eb, en, ?_, SG.trans S4, S4.at hG⟩
      rw [tk]
      exact B4
    · rintro σ G ⟨u4, u5, u6, N2, rfl, eb, en, BG, SG, hG⟩
      rw [al] at BG
      have e : C.arr.take (C.cm.filter (Jd.reach C.s.now C.s.done)).length = C.arr := List.take_of_length_le (Nat.le_refl _)
      rw [e] at BG
      exact k N2 G BG SG en eb
end
end Vk
set_option maxHeartbeats 4000000
/-! many units at once keep to it; where something ends -/
namespace Vk
open PySem PySem.Spec PyProof.Rows L2
section
variable {r : Rl} {c : Int} {nd : Str → Int} {J : List Jd} {C : Cs} {d : Int}
theorem Cs.far_ok (rok : r.Ok) (jok : JOk nd J) (c1 : 1 ≤ c) : ∀ (k : Nat) (C : Cs), C.Ok r nd J → C.Settled → C.Far r c nd ((k : Int) + 1) → (⟨C.s.endUnits r c ((k : Int) + 1) (C.fin c nd ((k : Int) + 1)), C.cm⟩ : Cs).Ok r nd J
  | 0, C, ok, st, h => (ok.unit rok jok (c := c)).1
  | k + 1, C, ok, st, h => by
    have e : (((k + 1 : Nat) : Int) + 1) = 1 + ((k : Int) + 1) := by omega
    rw [e] at h ⊢
    obtain ⟨f0, s0, st1, far1, fe, ge⟩ := Cs.far_one rok ok.bd.toOk0 c1 st (by omega) h
    have ok1 : (⟨C.s.tick c 1, C.cm⟩ : Cs).Ok r nd J := by
      rw [← s0]
      exact (ok.step rok jok (c := c)).1
    have z := Cs.far_ok rok jok c1 k ⟨C.s.tick c 1, C.cm⟩ ok1 st1 far1
    rw [fe] at z
    rw [Bd.units_split ok.bd.toOk0]
    exact z
/-- in how many units something ends -/
def Cs.waits (C : Cs) : List Int := (C.cm.filter fun j => j.at_).map fun j => j.t - C.s.now
def Cs.left (c : Int) (nd : Str → Int) (C : Cs) : List Int := (C.s.run c).map fun x => nd x - getS C.s.ran x
def Cs.endsL (r : Rl) (c : Int) (C : Cs) : List Int := Bd.boEnds r C.s (C.s.run c) ++ Bd.quEnds r C.s (C.s.run c) ++ C.waits
/-- the least of them: all is far for so long, and it is one unit at least -/
theorem Cs.least (rok : r.Ok) (h : C.Ok r nd J) (st : C.Settled) {m : Int} (mm : m ∈ C.endsL r c ++ C.left c nd) (le : ∀ y ∈ C.endsL r c ++ C.left c nd, m ≤ y) : C.Far r c nd m ∧ 1 ≤ m := by
  have inE : ∀ {y : Int}, y ∈ C.endsL r c → m ≤ y := fun hy => le _ (List.mem_append_left _ hy)
  refine ⟨⟨fun x hx q hq => ?_, fun e b hb => ?_, fun j hj e => ?_, fun x hx => ?_⟩, ?_⟩
  · have : q - getS C.s.used x ∈ C.endsL r c := List.mem_append_left _ (List.mem_append_right _ (List.mem_filterMap.mpr ⟨x, hx, by rw [hq]; rfl⟩))
    have := inE this
    omega
  · have : b - C.s.now.fmod b ∈ C.endsL r c := List.mem_append_left _ (List.mem_append_left _ (by
      unfold Bd.boEnds
      rw [if_neg e, hb]
      exact List.mem_singleton_self _))
    have := inE this
    omega
  · have : j.t - C.s.now ∈ C.endsL r c := List.mem_append_right _ (List.mem_map.mpr ⟨j, List.mem_filter.mpr ⟨hj, e⟩, rfl⟩)
    have := inE this
    omega
  · have : nd x - getS C.s.ran x ∈ C.left c nd := List.mem_map.mpr ⟨x, hx, rfl⟩
    have := le _ (List.mem_append_right _ this)
    omega
  · rcases List.mem_append.mp mm with mm | mm
    · rcases List.mem_append.mp mm with mm | mm
      · rcases List.mem_append.mp mm with mm | mm
        · unfold Bd.boEnds at mm
          split at mm
          · cases mm
          · cases hb : r.boost with
            | none =>
              rw [hb] at mm
              cases mm
            | some b =>
              rw [hb] at mm
              have e := List.mem_singleton.mp mm
              have b1 := rok.boost b hb
              have := Int.emod_lt_of_pos C.s.now (show 0 < b by omega)
              rw [Int.fmod_eq_emod_of_nonneg _ (by omega)] at e
              omega
        · obtain ⟨x, hx, e⟩ := List.mem_filterMap.mp mm
          obtain ⟨q, hq, e⟩ := Option.map_eq_some_iff.mp e
          have := h.uq x (C.s.level x) q (Bd.at_level (Bd.run_sub x hx)) hq
          omega
      · obtain ⟨j, hj, e⟩ := List.mem_map.mp mm
        obtain ⟨j1, j2⟩ := List.mem_filter.mp hj
        have s0 := st j j1
        unfold Jd.reach at s0
        rw [if_pos j2] at s0
        have := of_decide_eq_false s0
        omega
    · obtain ⟨x, hx, e⟩ := List.mem_map.mp mm
      have := (h.lo x (Bd.run_sub x hx)).2
      omega
/-- there is one as long as some job is not finished -/
theorem Cs.ends_some (jok : JOk nd J) (h : C.Ok r nd J) (st : C.Settled) (c1 : 1 ≤ c) (un : C.s.done ≠ (J.length : Nat)) : C.endsL r c ++ C.left c nd ≠ [] := fun e => by
  obtain ⟨e1, e2⟩ := List.append_eq_nil_iff.mp e
  rcases h.progress jok st c1 un with w | ⟨j, hj, a, t⟩
  · exact w (List.map_eq_nil_iff.mp e2)
  · have : j.t - C.s.now ∈ C.endsL r c := List.mem_append_right _ (List.mem_map.mpr ⟨j, List.mem_filter.mpr ⟨hj, a⟩, rfl⟩)
    rw [e1] at this
    cases this
theorem rest_len (C : Cs) : C.rest.length ≤ C.cm.length := List.length_filter_le ..
/-- such units leave less to come -/
theorem Cs.go_less (jok : JOk nd J) (c1 : 1 ≤ c) (h : C.Ok r nd J) {m : Int} (m1 : 1 ≤ m) {fin : List Str} (ok1 : (⟨C.s.endUnits r c m fin, C.cm⟩ : Cs).Ok r nd J) (mm : m ∈ C.endsL r c ++ C.left c nd) :
    (C.go r c m fin).rem nd J + ((C.go r c m fin).cm.length : Nat) + 1 ≤ C.rem nd J + (C.cm.length : Nat) := by
  have er : (C.go r c m fin).rem nd J = remJ nd (C.s.endUnits r c m fin).ran J := ok1.letIn_rem
  have ec : (C.go r c m fin).cm = (⟨C.s.endUnits r c m fin, C.cm⟩ : Cs).rest := rfl
  have el : (⟨C.s.endUnits r c m fin, C.cm⟩ : Cs).rest.length ≤ C.cm.length := rest_len ⟨C.s.endUnits r c m fin, C.cm⟩
  have kr : (C.s.endUnits r c m fin).ran.map (·.1) = C.s.ran.map (·.1) := (Bd.units_after (r := r) h.bd.toOk0 c m fin).ran
  have vals : ∀ j ∈ J, getS (C.s.endUnits r c m fin).ran j.n = getS C.s.ran j.n + if j.n ∈ C.s.run c then m else 0 := fun j hj => by
    by_cases w : j.n ∈ C.s.ran.map (·.1)
    · rw [units_ran]
      exact (mid_vals h.bd.toOk0).1 j.n w
    · rw [getS_no w, getS_no (by rw [kr]; exact w), if_neg (fun q => w (h.bd.sub _ (Bd.run_sub _ q)))]
      rfl
  by_cases e : C.s.run c = []
  · have same : (C.go r c m fin).rem nd J = C.rem nd J := by
      rw [er]
      refine sum_congr fun j hj => ?_
      rw [vals j hj, e, if_neg (by simp), Int.add_zero]
    have mw : m ∈ C.waits := by
      unfold Cs.endsL Cs.left Bd.boEnds Bd.quEnds at mm
      rw [e] at mm
      simpa using mm
    obtain ⟨j, hj, ej⟩ := List.mem_map.mp mw
    obtain ⟨j1, j2⟩ := List.mem_filter.mp hj
    have lt : (⟨C.s.endUnits r c m fin, C.cm⟩ : Cs).rest.length < C.cm.length := by
      refine List.length_filter_lt_length_iff_exists.mpr ⟨j, j1, ?_⟩
      have en : (C.s.endUnits r c m fin).now = C.s.now + m := (Bd.units_after (r := r) h.bd.toOk0 c m fin).now
      have : Jd.reach (C.s.endUnits r c m fin).now (C.s.endUnits r c m fin).done j = true := by
        unfold Jd.reach
        rw [if_pos j2, en]
        exact decide_eq_true (by omega)
      show ¬ (!Jd.reach (C.s.endUnits r c m fin).now (C.s.endUnits r c m fin).done j) = true
      rw [this]
      exact Bool.false_ne_true
    rw [same, ec]
    omega
  · have less : (C.go r c m fin).rem nd J < C.rem nd J := by
      rw [er]
      obtain ⟨x, hx⟩ := List.exists_mem_of_ne_nil _ e
      obtain ⟨j, hj, ej⟩ := List.mem_map.mp (h.keys x (h.bd.sub x (Bd.run_sub x hx)))
      refine sum_lt (fun j hj => ?_) ⟨j, hj, ?_⟩
      · rw [vals j hj]
        split <;> omega
      · rw [vals j hj, if_pos (by rw [ej]; exact hx)]
        omega
    rw [ec]
    have : ((⟨C.s.endUnits r c m fin, C.cm⟩ : Cs).rest.length : Int) ≤ (C.cm.length : Int) := by omega
    omega
theorem some_max (J : List Jd) : ∃ M : Int, ∀ j ∈ J, j.at_ = true → j.t ≤ M := by
  induction J with
  | nil => exact ⟨0, fun j h => nomatch h⟩
  | cons i J ih =>
    obtain ⟨M, h⟩ := ih
    refine ⟨max M i.t, fun j hj a => ?_⟩
    rcases List.mem_cons.mp hj with e | m
    · rw [e]
      omega
    · have := h j m a
      omega
theorem Cs.Ok.done_le (h : C.Ok r nd J) : C.s.done ≤ (J.length : Nat) := by
  have := h.done_len
  have := h.len
  omega
theorem Cs.zero_now : (Cs.zero r J).s.now = 0 := (enters_same (r := r) (js := (⟨Bd.new r, J⟩ : Cs).arr) (s := Bd.new r)).2.1
end
end Vk
set_option maxHeartbeats 8000000
/-! a course goes on -/
namespace Vk
open PySem PySem.Spec PyProof.Rows L2 GxR
section
variable {P : Program} {w : World} {K : PySem.W.Frag} {mg : Str → Option Value} {base : Heap} {CC CB : Addr}
abbrev NCE : List Str := ["self", "arrivals", "waits", "job", "kind", "number"]
def spCEnds (K : PySem.W.Frag) (CC CB : Addr) : Sp := fun vs H Q _ => ∃ (a : Addr) (rv : V) (c : Int) (N : CoA) (C : Cs) (r : Rl) (ps : List Pc), vs = [.ref a] ∧ CoAt CC CB K H a rv c N C r ps ∧ C.s.Ok0 ∧ C.cm.length ≤ 900 ∧ 0 ≤ c ∧ (∀ q, r.boost = some q → q ≠ 0) ∧
  ∀ (D : Addr) (H' : Hp), H D = none → Same H H' → H' D = some (.lst ((C.endsL r c).map V.int)) → Q (.ref D) H'
theorem scCEnds : FnScope NCE ["self"] (defScope sCoEnds) := ⟨rfl, rfl, rfl, by decide +kernel, rfl, by decide +kernel, by decide +kernel⟩
theorem ok_cends (D : MDf K CC "ends" "Course.ends" sCoEnds ["self"]) (TC : CoC K CC) (TB : BdC K CB) (EN : MCl P w K mg base CX0 3 CB "ends" ["self"] (spEnds K CB)) : MCl P w K mg base CX0 4 CC "ends" ["self"] (spCEnds K CC CB) := by
  refine mcl0 D scCEnds (fun vs H Q E h => ?_) (fun f cdv Ar outer s0 H vs Q E hr h => ?_)
  · obtain ⟨a, rv, c, N, C, r, ps, rfl, _⟩ := h
    rfl
  · obtain ⟨a, rv, c, N, C, r, ps, rfl, B, ok, cl, c0, bq, k⟩ := h
    obtain ⟨fE, fdE, ME, bE, FE⟩ := EN.ex
    refine ⟨_, pss_cons (ps_setLc (i := 1) (own := [("job", 3)]) (g := gName 3) (tt := tYes) (te := tOp (rIxT K) (tVar 3) (tC (.int 1))) rfl scCEnds.nd rfl rfl (sw_true rfl rfl rfl (by decide +kernel)) (pi_list (pe_fld (pv 0) rfl)) (blkOk_by (own := [("job", 3)]) (N := NCE) (sc := defScope sCoEnds) (by decide +kernel))
          (fun _ _ _ _ _ => pg_name (i := 3) scCEnds.nd rfl (Or.inl rfl)) (fun _ _ _ _ _ => pts_nil) (fun _ _ _ _ _ => pe_ix ix_tup (pv 3) pe_int (fun _ _ => rfl)))
      (pss_cons (ps_setLc (i := 2) (own := [("kind", 4), ("number", 5)]) (g := gTup K 2 (gCons (gName 4) (gCons (gName 5) gNil))) (tt := tTest (tOp rEq (tVar 4) (tC (.str "at")))) (te := tOp (rI0 fun i j => .int (i - j)) (tVar 5) (tFld K (tFld K (tVar 0) "board") "now")) rfl scCEnds.nd rfl rfl (sw_true rfl rfl rfl (by decide +kernel)) (pi_list (pv 1)) (blkOk_by (own := [("kind", 4), ("number", 5)]) (N := NCE) (sc := defScope sCoEnds) (by decide +kernel))
          (fun _ _ _ _ _ => pg_tup rfl (pgs_cons (pg_name (i := 4) scCEnds.nd rfl (.inl rfl)) (pgs_cons (pg_name (i := 5) scCEnds.nd rfl (.inl rfl)) pgs_nil))) (fun _ _ _ _ _ => pts_one (pt_cmpR op_eq (pv 4) pe_str (nomark _))) (fun _ _ _ _ _ => pe_op op_sub (pv 5) (pe_fld (pe_fld (pv 0) rfl) rfl)))
      (pss_one (ps_ret (pe_op op_cat (pe_meth0 (pe_fld (pv 0) rfl) TB.cl ME FE hr bE .nil pass0) (pv 2))))), ?_⟩
    obtain ⟨xs, hx, dx⟩ := B.com
    have xl := dps_len dx
    rw [List.length_map] at xl
    refine ⟨_, rfl, a, CC, N.dn, _, _, rfl, B.ob, TC.cl, TC.nC, cf_coming, N.l, rfl, ⟨_, SqL.of hx⟩, fun D1 nD1 => ?_⟩
    let ar : Jd → PyData := fun j => .tuple [.str j.kind, .int j.t]
    refine lc_it (walk_list (K := K) (a := N.l) (xs := xs)) (fun i Hc => ∃ acc, Hc D1 = some (.lst acc) ∧ Same H (Off D1 Hc) ∧ DpAll K (OffL (ftC a N) H) acc ((C.cm.take i).map ar)) ⟨[], upd_same, off_newB nD1, .nil⟩ (fun i Hc _ ⟨_, _, sc, _⟩ => SqL.of ((sc.trans (off_sub D1 Hc)).at hx)) ?_ ?_
    · rintro i y Hc0 Hc hi ⟨acc, hD, sc, da⟩ ⟨rfl, hy⟩
      obtain ⟨d, hd, dd⟩ := dps_getV dx hy
      rw [List.getElem?_map] at hd
      obtain ⟨j, hj, rfl⟩ := Option.map_eq_some_iff.mp hd
      have sH := sc.trans (off_sub D1 Hc)
      have al := dps_len da
      rw [List.length_map, List.length_take] at al
      obtain ⟨p, x1, x2, x3, rfl, q, e1, e2, e3⟩ := dp_threeB dd
      refine ⟨rfl, _, rfl, p, _, _, _, rfl, rfl, same_seqT ((offL_sub (ftC a N) H).trans sH) q, rfl, ?_⟩
      refine ⟨acc, hD, Nat.lt_of_le_of_lt (show acc.length ≤ 1000 by omega) (by decide), acc ++ [x2], upd_same, ?_, ?_⟩
      · rw [off_upd]
        exact sc
      · rw [List.take_add_one, hj, List.map_append]
        exact dps_app da (.cons e2 .nil)
    rintro H1 ⟨acc, hD, sc, da⟩
    rw [xl, List.take_length] at da
    have al := dps_len da
    rw [List.length_map] at al
    have sH := sc.trans (off_sub D1 H1)
    dsimp only [gName]
    refine ⟨_, rfl, D1, rfl, ⟨_, SqL.of hD⟩, fun D2 nD2 => ?_⟩
    refine lc_it (walk_list (K := K) (a := D1) (xs := acc)) (fun i He => ∃ ns : List Int, He D2 = some (.lst (ns.map V.int)) ∧ Same H1 (Off D2 He) ∧ ns = ((C.cm.take i).filter fun j => j.at_).map fun j => j.t - C.s.now) ⟨[], upd_same, off_newB nD2, rfl⟩ (fun i He _ ⟨_, _, se, _⟩ => SqL.of ((se.trans (off_sub D2 He)).at hD)) ?_ ?_
    · rintro i y He0 He hi ⟨ns, hN, se, en⟩ ⟨rfl, hy⟩
      obtain ⟨d, hd, dd⟩ := dps_getV da hy
      rw [List.getElem?_map] at hd
      obtain ⟨j, hj, rfl⟩ := Option.map_eq_some_iff.mp hd
      have sE := se.trans (off_sub D2 He)
      have sH2 := sH.trans sE
      have BC := B.same sH2
      obtain ⟨p, kv, tv, rfl, qq, dk, dt⟩ := dp_two (dp_same ((offL_sub (ftC a N) H).trans sH2) dd)
      have ek := dp_str dk
      subst ek
      have et := dp_int dt
      subst et
      have ln : ns.length ≤ i := by
        rw [en, List.length_map]
        refine Nat.le_trans (List.length_filter_le ..) ?_
        rw [List.length_take]
        exact Nat.min_le_left ..
      have tk : ((C.cm.take (i + 1)).filter fun j => j.at_).map (fun j => j.t - C.s.now) = ((C.cm.take i).filter fun j => j.at_).map (fun j => j.t - C.s.now) ++ (if j.at_ = true then [j.t - C.s.now] else []) := by
        rw [List.take_add_one, hj, List.filter_append, List.map_append]
        congr 1
        cases h : j.at_ <;> simp [h]
      rw [tk]
      refine ⟨p, _, rfl, qq, rfl, _, _, rfl, _, _, rfl, rfl, rfl, _, rfl, rfl, _, rfl, ?_⟩
      have ke : decide (V.str j.kind = V.str "at") = j.at_ := by
        unfold Jd.kind
        cases h : j.at_ with
        | true => exact decide_eq_true rfl
        | false => exact decide_eq_false (fun e => absurd (V.str.inj e) (by decide +kernel))
      rw [ke]
      cases h : j.at_ with
      | true =>
        refine iteT ?_
        refine ⟨_, rfl, _, rfl, a, CC, N.dn, _, _, rfl, BC.ob, TC.cl, TC.nB, cf_board, N.b, CB, N.A.dx, _, _, rfl, BC.bd.ob, TB.cl, TB.nN, bf_now, _, _, rfl, rfl, _, hN, ?_, ns ++ [j.t - C.s.now], ?_, ?_, ?_⟩
        · rw [List.length_map]
          exact Nat.lt_of_le_of_lt (show ns.length ≤ 1000 by omega) (by decide)
        · rw [upd_same, List.map_append]
          rfl
        · rw [off_upd]
          exact se
        · rw [if_pos rfl, en]
      | false =>
        refine iteF ⟨ns, hN, se, ?_⟩
        rw [if_neg Bool.false_ne_true, List.append_nil]
        exact en
    rintro H2 ⟨ns, hN, se, en⟩
    rw [al, List.take_length] at en
    have sE := se.trans (off_sub D2 H2)
    have s02 := sH.trans sE
    have B2 := B.same s02
    dsimp only [gName]
    refine ⟨_, rfl, a, CC, N.dn, _, _, rfl, B2.ob, TC.cl, TC.nB, cf_board, N.b, N.A.dx, _, rfl, B2.bd.ob, by kernel_rfl, N.b, rv, c, N.A, C.s, r, rfl, B2.bdR ok, c0, bq, fun D3 H3 nD3 s3 hD3 => ?_⟩
    refine ⟨_, rfl, D3, D2, _, _, rfl, rfl, hD3, s3.at hN, ?_, fun D nD => ?_⟩
    · rw [List.length_map, List.length_map, List.length_append]
      have b1 : (Bd.boEnds r C.s (C.s.run c)).length ≤ 1 := by
        unfold Bd.boEnds
        split
        · exact Nat.zero_le _
        · split
          · exact Nat.le_refl _
          · exact Nat.zero_le _
      have b2 : (Bd.quEnds r C.s (C.s.run c)).length ≤ 1000 := Nat.le_trans (List.length_filterMap_le ..) (Bd.run_le ok)
      have b3 : ns.length ≤ 900 := by
        rw [en, List.length_map]
        exact Nat.le_trans (List.length_filter_le ..) cl
      exact Nat.le_trans (show _ ≤ 2000 by omega) (by decide)
    have sAll := s02.trans s3
    refine k D _ (sAll.free nD) (sAll.trans (same_new nD)) ?_
    unfold Cs.endsL Cs.waits
    rw [List.map_append, List.map_append, List.map_append, ← en]
    exact upd_same
def spGoOn (K : PySem.W.Frag) (CC CB : Addr) : Sp := fun vs H Q _ => ∃ (a : Addr) (rv : V) (c : Int) (N : CoA) (C : Cs) (r : Rl) (ps : List Pc) (nd : Str → Int) (J : List Jd) (d : Int) (fa : Addr) (fin : List Str), vs = [.ref a, .int d, .ref fa] ∧ CoAt CC CB K H a rv c N C r ps ∧ C.s.Ok ∧ 0 ≤ c ∧ (SqL K (OffL (ftC a N) H) fa (fin.map V.str) ∨ SqT K (OffL (ftC a N) H) fa (fin.map V.str)) ∧
  C.s.fins.length < 100000 ∧ ps.length < 1000000 ∧ (⟨C.s.endUnits r c d fin, C.cm⟩ : Cs).Ok r nd J ∧ JOk nd J ∧ JName J ∧ r.Ok ∧
  ∀ (N' : CoA) (H' : Hp), CoAt CC CB K H' a rv c N' (C.go r c d fin) r (ps ++ [(C.s.now + 1, C.s.now + d, C.s.run c)]) → Same (OffL (ftC a N) H) (OffL (ftC a N') H') → N'.dn = N.dn → N'.b = N.b → Q .non H'
theorem scGoOn : FnScope ["self", "units", "finishing", "board"] ["self", "units", "finishing"] (defScope sCoGoOn) := ⟨rfl, rfl, rfl, by decide +kernel, rfl, by decide +kernel, by decide +kernel⟩
theorem ok_goOn (D : MDf K CC "go_on" "Course.go_on" sCoGoOn ["self", "units", "finishing"]) (TC : CoC K CC) (TB : BdC K CB) (RU : MCl P w K mg base CX0 2 CB "running" ["self"] (spRun K CB)) (UN : MCl P w K mg base CX0 3 CB "end_units" ["self", "units", "finishing"] (spUnits K CB)) (LI : MCl P w K mg base CX0 2 CC "let_in" ["self"] (spLetIn K CC CB)) : MCl P w K mg base CX0 4 CC "go_on" ["self", "units", "finishing"] (spGoOn K CC CB) := by
  refine mcl0 D scGoOn (fun vs H Q E h => ?_) (fun f cdv Ar outer s0 H vs Q E hr h => ?_)
  · obtain ⟨a, rv, c, N, C, r, ps, nd, J, d, fa, fin, rfl, _⟩ := h
    rfl
  · obtain ⟨a, rv, c, N, C, r, ps, nd, J, d, fa, fin, rfl, B, ok, c0, hfa, fsm, psm, ok2, jok, jn, rok, k⟩ := h
    obtain ⟨fR, fdR, MR, bR, FR⟩ := RU.ex
    obtain ⟨fU, fdU, MU, bU, FU⟩ := UN.ex
    obtain ⟨fL, fdL, ML, bL, FL⟩ := LI.ex
    refine ⟨_, pss_cons (ps_set (i := 3) scGoOn.nd rfl (Or.inl rfl) (pe_fld (pv 0) rfl))
      (pss_cons (ps_expr (pe_bm PySem.F.plainAttrs_list PySem.F.slot_list_append PySem.F.type_list_append mt_append (pe_fld (pv 0) rfl) (pa_cons (pe_tup (pa_cons (pe_op op_add (pe_fld (pv 3) rfl) pe_int) (pa_cons (pe_op op_add (pe_fld (pv 3) rfl) (pv 1)) (pa_cons (pe_meth0 (pv 3) TB.cl MR FR (hr.mono (by decide)) bR .nil pass0) pa_nil)))) pa_nil)))
      (pss_cons (ps_expr (pe_meth (pv 3) TB.cl MU FU hr bU .nil pass0 (pa_cons (pv 1) (pa_cons (pv 2) pa_nil))))
      (pss_one (ps_expr (pe_meth0 (pv 0) TC.cl ML FL (hr.mono (by decide)) bL .nil pass0))))), ?_⟩
    obtain ⟨ys, hp, dy⟩ := B.pie
    have yl := dps_len dy
    rw [List.length_map] at yl
    refine ⟨_, rfl, a, CC, N.dn, _, _, rfl, B.ob, TC.cl, TC.nB, cf_board, ?_⟩
    refine ⟨_, rfl, a, CC, N.dn, _, _, rfl, B.ob, TC.cl, TC.nP, cf_pieces, .inl ⟨rfl, _, SqL.of hp⟩, _, rfl, N.b, CB, N.A.dx, _, _, rfl, B.bd.ob, TB.cl, TB.nN, bf_now, _, _, rfl, rfl, _, rfl, N.b, CB, N.A.dx, _, _, rfl, B.bd.ob, TB.cl, TB.nN, bf_now, _, rfl, _, _, rfl, rfl, ?_⟩
    refine ⟨_, rfl, N.b, N.A.dx, _, rfl, B.bd.ob, by kernel_rfl, N.b, rv, c, N.A, C.s, rfl, B.bd, ok.toOk0, c0, fun DR H1 nDR s1 hDR => ?_⟩
    refine ⟨by show 3 ≤ sizeLine; decide, fun t nt => ?_⟩
    have st := same_new (o := .tup [V.int (C.s.now + 1), V.int (C.s.now + d), V.ref DR]) nt
    have s2 := s1.trans st
    have tn : t ∉ ftC a N := fun m => B.here m (s1.free nt)
    have DRn : DR ∉ ftC a N := fun m => B.here m nDR
    have dt : Dp K (OffL (ftC a N) (upd H1 t (.tup [V.int (C.s.now + 1), V.int (C.s.now + d), V.ref DR]))) (.ref t) (pieD (C.s.now + 1, C.s.now + d, C.s.run c)) :=
      .tup (SqT.of (by rw [offL_out tn, upd_same])) (.cons (.int _) (.cons (.int _) (.cons (.tup (SqT.of (by rw [offL_out DRn]; exact st.at hDR)) (dps_strs _)) .nil)))
    obtain ⟨B2, S2⟩ := B.addPiece s2 hp dt
    refine ⟨N.p, ys, .ref t, rfl, rfl, s2.at hp, ?_, ?_⟩
    · rw [yl]
      exact Nat.lt_trans psm (by decide)
    generalize upd (upd H1 t (.tup [V.int (C.s.now + 1), V.int (C.s.now + d), V.ref DR])) N.p (.lst (ys ++ [.ref t])) = G2 at B2 S2 ⊢
    have hf2 := hfa.imp (fun q => same_seqLq S2 q) (fun q => same_seqT S2 q)
    have up : ∀ z, z ∈ ftB N.b N.A → z ∈ ftC a N := fun z hz => by simp [ftC, hz]
    have swap : Same (OffL (ftC a N) G2) (OffL (ftB N.b N.A) G2) := offL_swap fun z hz => .inl (up z hz)
    refine ⟨_, rfl, N.b, N.A.dx, _, rfl, B2.bd.ob, by kernel_rfl, _, rfl, _, rfl, N.b, rv, c, N.A, C.s, r, d, fa, fin, rfl, B2.bdR ok.toOk0, c0, hf2.imp (fun q => same_seqLq swap q) (fun q => same_seqT swap q), fsm, (fun q e => by have := rok.boost q e; omega), fun A' H3 B3 S3 => ?_⟩
    obtain ⟨B4, S4⟩ := B2.step S3 B3 ok2.lev
    refine ⟨_, rfl, a, N.dn, _, rfl, B4.ob, by kernel_rfl, a, rv, c, _, _, r, _, nd, J, rfl, B4, ok2, jok, jn, rok, fun N' H5 B5 S5 en eb => ?_⟩
    exact k N' H5 B5 (S2.trans (S4.trans S5)) en eb
end
end Vk
set_option maxHeartbeats 4000000
/-! stretches as long as possible, as mathematics -/
namespace Vk
open PySem PySem.Spec PyProof.Rows L2
section
variable {α : Type}
/-- one piece more, equal contents (by eq) becoming one -/
def segB (eq : α → α → Bool) (st : List (Int × Int × α)) (p : Int × Int × α) : List (Int × Int × α) := match st.getLast? with
  | some q => if eq q.2.2 p.2.2 = true then st.dropLast ++ [(q.1, p.2.1, p.2.2)] else st ++ [p]
  | none => [p]
def joinB (eq : α → α → Bool) (ps : List (Int × Int × α)) : List (Int × Int × α) := ps.foldl (segB eq) []
theorem segB_len (eq : α → α → Bool) (st : List (Int × Int × α)) (p : Int × Int × α) : (segB eq st p).length ≤ st.length + 1 := by
  unfold segB
  split
  · split
    · rw [List.length_append, List.length_dropLast]
      simp
    · rw [List.length_append]
      simp
  · simp
theorem foldl_seg_len (eq : α → α → Bool) : ∀ (ps st : List (Int × Int × α)), (ps.foldl (segB eq) st).length ≤ st.length + ps.length
  | [], st => Nat.le_refl _
  | p :: ps, st => by
    have a := foldl_seg_len eq ps (segB eq st p)
    have b := segB_len eq st p
    rw [List.foldl_cons, List.length_cons]
    omega
theorem joinB_len (eq : α → α → Bool) (ps : List (Int × Int × α)) : (joinB eq ps).length ≤ ps.length := by
  have h := foldl_seg_len eq ps []
  rw [List.length_nil, Nat.zero_add] at h
  exact h
/-- the units of a piece, one by one -/
def unitsOf (first : Int) (n : Nat) (x : α) : List (Int × Int × α) := (List.range n).map fun (i : Nat) => (first + i, first + i, x)
theorem seg_more {eq : α → α → Bool} (refl : ∀ x, eq x x = true) {st : List (Int × Int × α)} {f l m k : Int} {x : α} : segB eq (segB eq st (f, l, x)) (k, m, x) = segB eq st (f, m, x) := by
  have key : ∀ {q : List (Int × Int × α)} {a : Int}, segB eq (q ++ [(a, l, x)]) (k, m, x) = q ++ [(a, m, x)] := fun {q a} => by
    unfold segB
    rw [List.getLast?_append]
    simp [refl]
  unfold segB
  cases h : st.getLast? with
  | none =>
    have e : st = [] := List.getLast?_eq_none_iff.mp h
    subst e
    simp [refl]
  | some q =>
    dsimp only
    by_cases w : eq q.2.2 x = true
    · rw [if_pos w, if_pos w]
      exact key
    · rw [if_neg w, if_neg w]
      exact key
/-- a piece is its units -/
theorem seg_units {eq : α → α → Bool} (refl : ∀ x, eq x x = true) {st : List (Int × Int × α)} {f : Int} {x : α} : ∀ n : Nat, (unitsOf f (n + 1) x).foldl (segB eq) st = segB eq st (f, f + n, x)
  | 0 => by
    show segB eq st (f + 0, f + 0, x) = segB eq st (f, f + 0, x)
    rw [Int.add_zero]
  | n + 1 => by
    have e : unitsOf f (n + 1 + 1) x = unitsOf f (n + 1) x ++ [(f + ((n + 1 : Nat) : Int), f + ((n + 1 : Nat) : Int), x)] := by
      unfold unitsOf
      rw [List.range_succ, List.map_append]
      rfl
    rw [e, List.foldl_append, seg_units refl n]
    exact seg_more refl
/-- the stretches of a sequence of units from the first on -/
def segU (eq : α → α → Bool) (U : Nat → α) (T : Nat) : List (Int × Int × α) := joinB eq ((List.range T).map fun (i : Nat) => ((i : Int) + 1, (i : Int) + 1, U i))
theorem segU_more {eq : α → α → Bool} (refl : ∀ x, eq x x = true) {U : Nat → α} {T d : Nat} {ps : List (Int × Int × α)} {x : α} (h : joinB eq ps = segU eq U T) (same : ∀ j < d + 1, U (T + j) = x) : joinB eq (ps ++ [((T : Int) + 1, (T : Int) + ((d + 1 : Nat) : Int), x)]) = segU eq U (T + (d + 1)) := by
  have e1 : (List.range (T + (d + 1))).map (fun (i : Nat) => ((i : Int) + 1, (i : Int) + 1, U i)) = (List.range T).map (fun (i : Nat) => ((i : Int) + 1, (i : Int) + 1, U i)) ++ unitsOf ((T : Int) + 1) (d + 1) x := by
    rw [List.range_add, List.map_append, List.map_map]
    congr 1
    unfold unitsOf
    refine List.map_congr_left fun i hi => ?_
    have := List.mem_range.mp hi
    show (((T + i : Nat) : Int) + 1, ((T + i : Nat) : Int) + 1, U (T + i)) = _
    rw [same i this]
    have : ((T + i : Nat) : Int) + 1 = (T : Int) + 1 + (i : Int) := by omega
    rw [this]
  unfold segU joinB
  rw [e1, List.foldl_append, List.foldl_append, seg_units refl]
  have h : ps.foldl (segB eq) [] = ((List.range T).map fun (i : Nat) => ((i : Int) + 1, (i : Int) + 1, U i)).foldl (segB eq) [] := h
  rw [h]
  show segB eq _ _ = segB eq _ _
  have : (T : Int) + ((d + 1 : Nat) : Int) = (T : Int) + 1 + (d : Nat) := by omega
  rw [this]
end
end Vk
set_option maxHeartbeats 8000000
/-! stretches as long as possible -/
namespace Vk
open PySem PySem.Spec PyProof.Rows L2 GxR
abbrev Pd := Int × Int × PyData
def triP (p : Pd) : PyData := .tuple [.int p.1, .int p.2.1, p.2.2]
section
variable {P : Program} {w : World} {K : PySem.W.Frag} {mg : Str → Option Value} {base : Heap}
abbrev NJN : List Str := ["pieces", "stretches", "first", "last", "content"]
def spJoined (K : PySem.W.Frag) : Sp := fun vs H Q _ => ∃ (l : Addr) (ys : List V) (ts : List Pd), vs = [.ref l] ∧ SqL K H l ys ∧ DpAll K H ys (ts.map triP) ∧ ts.length ≤ 1000000 ∧ (∀ t ∈ ts, SeqAt.shaped t.2.2 = true) ∧
  ∀ (t : Addr) (H' : Hp), Same H H' → Dp K H' (.ref t) (.tuple ((joinB PyData.eqv ts).map triP)) → Q (.ref t) H'
theorem scJoined : FnScope NJN ["pieces"] (defScope sJoined) := ⟨rfl, rfl, rfl, by decide +kernel, rfl, by decide +kernel, by decide +kernel⟩
theorem dps_front {H : Hp} : ∀ {xs ys : List V} {ds es : List PyData}, DpAll K H (xs ++ ys) (ds ++ es) → xs.length = ds.length → DpAll K H xs ds
  | [], _, [], _, _, _ => .nil
  | [], _, _ :: _, _, _, h => by cases h
  | _ :: _, _, [], _, _, h => by cases h
  | x :: xs, ys, d :: ds, es, h, l => by
    cases h with
    | cons a t => exact .cons a (dps_front t (Nat.succ.inj l))
theorem seg_shaped : ∀ {ts st : List Pd}, (∀ t ∈ ts, SeqAt.shaped t.2.2 = true) → (∀ t ∈ st, SeqAt.shaped t.2.2 = true) → ∀ t ∈ ts.foldl (segB PyData.eqv) st, SeqAt.shaped t.2.2 = true
  | [], _, _, h => h
  | p :: ts, st, h1, h2 => by
    refine seg_shaped (ts := ts) (fun t ht => h1 t (List.mem_cons_of_mem _ ht)) fun t ht => ?_
    have hp := h1 p (List.mem_cons_self ..)
    unfold segB at ht
    split at ht
    · split at ht
      · rcases List.mem_append.mp ht with ht | ht
        · exact h2 t (List.dropLast_subset _ ht)
        · rw [List.mem_singleton.mp ht]
          exact hp
      · rcases List.mem_append.mp ht with ht | ht
        · exact h2 t ht
        · rw [List.mem_singleton.mp ht]
          exact hp
    · rw [List.mem_singleton.mp ht]
      exact hp
theorem ok_joined (D : Df K mg "joined" sJoined ["pieces"]) (mt : mg "tuple" = none) : Cl P w K mg base CX0 1 "joined" ["pieces"] (spJoined K) := by
  refine cl0 D scJoined (fun vs H Q E h => ?_) (fun f cdv A outer s H vs Q E hr h => ?_)
  · obtain ⟨l, ys, ts, rfl, _⟩ := h
    rfl
  · obtain ⟨l, ys, ts, rfl, hl, dy, tl, sh, k⟩ := h
    refine ⟨_, pss_cons (ps_set (i := 1) scJoined.nd rfl (Or.inl rfl) (pe_lst pa_nil))
      (pss_cons (ps_for PassesOwn.never rfl (pi_list (pv 0)) (pg_tup rfl (pgs_cons (pg_name (i := 2) scJoined.nd rfl (.inl rfl)) (pgs_cons (pg_name (i := 3) scJoined.nd rfl (.inl rfl)) (pgs_cons (pg_name (i := 4) scJoined.nd rfl (.inl rfl)) pgs_nil))))
        (pss_one (ps_if (PW.pt (pw_and (pt_truth (pv 1) (fun _ => rfl)) (pw_and1 (pt_cmpR (op_eqD hr.units) (pe_ix ix_tup (pe_ix ix_list (pv 1) (pe_un un_neg pe_int) (fun _ _ => rfl)) pe_int (fun _ _ => rfl)) (pv 4) (nomark _)))))
          (pss_one (ps_asg (pe_tup (pa_cons (pe_ix ix_tup (pe_ix ix_list (pv 1) (pe_un un_neg pe_int) (fun _ _ => rfl)) pe_int (fun _ _ => rfl)) (pa_cons (pv 3) (pa_cons (pv 4) pa_nil)))) (pg_sub (pv 1) (pe_un un_neg pe_int) set_list)))
          (pss_one (ps_expr (pe_bm PySem.F.plainAttrs_list PySem.F.slot_list_append PySem.F.type_list_append mt_append (pv 1) (pa_cons (pe_tup (pa_cons (pv 2) (pa_cons (pv 3) (pa_cons (pv 4) pa_nil)))) pa_nil)))))))
      (pss_one (ps_ret (pe_callTy call_tuple_of (by rfl) mt (by decide +kernel) (pa_cons (pv 1) pa_nil))))), ?_⟩
    have yl := dps_len dy
    rw [List.length_map] at yl
    refine ⟨Nat.zero_le _, fun D nD => ?_⟩
    have s0 := same_new (o := .lst ([] : List V)) nD
    refine ⟨_, rfl, l, rfl, ⟨_, s0.seq hl⟩, ?_⟩
    refine for_it (D := { nx := _, rt := _ }) (walk_list (K := K) (a := l) (xs := ys)) (fun i σ G => ∃ (u2 u3 u4 : Option V) (acc : List V), σ = [some (.ref l), some (.ref D), u2, u3, u4] ∧ G D = some (.lst acc) ∧ Same H (Off D G) ∧ DpAll K (Off D G) acc (((ts.take i).foldl (segB PyData.eqv) []).map triP))
      ⟨none, none, none, [], rfl, upd_same, off_newB nD, .nil⟩ (fun i σ G _ ⟨_, _, _, _, _, _, sc, _⟩ => (sc.trans (off_sub D G)).seq hl) ?_ ?_
    · rintro i y σ G0 G hi ⟨u2, u3, u4, acc, rfl, hD, sc, da⟩ ⟨rfl, hy⟩
      obtain ⟨d, hd, dd⟩ := dps_getV dy hy
      rw [List.getElem?_map] at hd
      obtain ⟨t, ht, rfl⟩ := Option.map_eq_some_iff.mp hd
      have sG := sc.trans (off_sub D G)
      obtain ⟨p, x1, x2, x3, rfl, q, e1, e2, e3⟩ := dp_threeB dd
      have e1 := dp_int e1
      subst e1
      have e2 := dp_int e2
      subst e2
      have tk : (ts.take (i + 1)).foldl (segB PyData.eqv) [] = segB PyData.eqv ((ts.take i).foldl (segB PyData.eqv) []) t := by
        rw [List.take_add_one, ht, List.foldl_append]
        rfl
      have al := dps_len da
      rw [List.length_map] at al
      have sl := foldl_seg_len PyData.eqv (ts.take i) []
      rw [List.length_take, List.length_nil] at sl
      have shs := seg_shaped (ts := ts.take i) (st := []) (fun t ht => sh t (List.mem_of_mem_take ht)) (fun t ht => nomatch ht)
      have sht := sh t (List.mem_of_getElem? ht)
      rw [tk]
      generalize (ts.take i).foldl (segB PyData.eqv) [] = st at da al sl shs ⊢
      refine ⟨p, _, rfl, same_seqT sG q, rfl, _, _, rfl, _, _, rfl, _, _, rfl, rfl, ?_⟩
      refine ⟨_, rfl, _, .inl ⟨_, SqL.of hD, rfl⟩, ?_⟩
      apply cutR (α := Prop) (F := fun R => segB PyData.eqv st t = st ++ [t] → R)
      · intro other
        rcases List.eq_nil_or_concat acc with ha | ⟨acc0, z, ha⟩
        · rw [ha]
          refine iteF ?_
          refine iteF (other ?_)
          rw [ha] at al
          have e : st = [] := List.length_eq_zero_iff.mp al.symm
          rw [e]
          rfl
        · rw [List.concat_eq_append] at ha
          obtain ⟨st0, q0, hs⟩ : ∃ st0 q0, st = st0 ++ [q0] := by
            rcases List.eq_nil_or_concat st with e | ⟨a, b, e⟩
            · rw [ha, e] at al
              simp at al
            · exact ⟨a, b, by rw [e, List.concat_eq_append]⟩
          have l0 : acc0.length = st0.length := by
            rw [ha, hs, List.length_append, List.length_append] at al
            simpa using al
          have hz : acc[acc0.length]? = some z := by rw [ha]; simp
          have ei : ixN acc.length (-1) = some acc0.length := by
            unfold ixN
            rw [ha, List.length_append]
            simp
            omega
          have hat : atI acc (-1) = some z := by
            unfold atI
            rw [ei]
            exact hz
          obtain ⟨dz, hdz, dpz⟩ := dps_getV da hz
          have edz : dz = triP q0 := by
            rw [hs, l0, List.map_append] at hdz
            simpa using hdz.symm
          subst edz
          obtain ⟨pz, z1, z2, z3, rfl, qz, f1, f2, f3⟩ := dp_threeB (dp_same (off_sub D G) dpz)
          have f1 := dp_int f1
          subst f1
          have f2 := dp_int f2
          subst f2
          have ne : (!acc.isEmpty) = true := by rw [ha]; simp
          rw [ne]
          refine iteT ?_
          have shq := shs q0 (by rw [hs]; simp)
          refine ⟨_, rfl, _, rfl, D, acc, _, _, rfl, rfl, SqL.of hD, hat, pz, _, _, _, rfl, rfl, qz, rfl, _, rfl, _, _, f3, dp_same sG e3, shq, sht, ?_⟩
          refine ⟨_, rfl, ?_⟩
          have seg : segB PyData.eqv st t = if PyData.eqv q0.2.2 t.2.2 = true then st0 ++ [(q0.1, t.2.1, t.2.2)] else st ++ [t] := by
            unfold segB
            rw [hs, List.getLast?_append]
            simp
          cases he : PyData.eqv q0.2.2 t.2.2 with
          | true =>
            refine iteT ?_
            refine ⟨_, rfl, _, rfl, D, acc, _, _, rfl, rfl, SqL.of hD, hat, pz, _, _, _, rfl, rfl, qz, rfl, _, rfl, _, rfl, by show 3 ≤ sizeLine; decide, fun tt nt => ?_⟩
            have st' := same_new (o := .tup [V.int q0.1, V.int t.2.1, x3]) nt
            have tD : tt ≠ D := (ne_of_none hD nt).symm
            refine ⟨_, rfl, _, rfl, D, acc, _, _, rfl, rfl, st'.at hD, ei, ?_⟩
            have eset : acc.set acc0.length (.ref tt) = acc0 ++ [.ref tt] := by
              rw [ha, List.set_append_right _ _ (Nat.le_refl _)]
              simp
            refine ⟨_, _, _, acc0 ++ [.ref tt], rfl, by rw [eset]; exact upd_same, ?_, ?_⟩
            · rw [off_upd]
              exact sc.trans (off_mono st')
            · rw [off_upd, seg, he, if_pos rfl, List.map_append]
              have sm := off_mono (a := D) st'
              have d0 : DpAll K (Off D G) acc0 (st0.map triP) := by
                have z := da
                rw [ha, hs, List.map_append] at z
                exact dps_front z (by rw [List.length_map]; exact l0)
              refine dps_app (dps_same sm d0) (.cons (.tup (a := tt) (SqT.of (by rw [off_ne tD, upd_same])) (.cons (.int _) (.cons (.int _) (.cons (dp_same (sc.trans sm) e3) .nil)))) .nil)
          | false =>
            refine iteF (other ?_)
            rw [seg, he, if_neg Bool.false_ne_true]
      intro eb
      refine ⟨_, rfl, .inl ⟨rfl, _, SqL.of hD⟩, _, rfl, _, rfl, _, rfl, by show 3 ≤ sizeLine; decide, fun tt nt => ?_⟩
      have st' := same_new (o := .tup [V.int t.1, V.int t.2.1, x3]) nt
      have tD : tt ≠ D := (ne_of_none hD nt).symm
      refine ⟨D, acc, _, rfl, rfl, st'.at hD, Nat.lt_of_le_of_lt (show acc.length ≤ 1000000 by omega) (by decide), ?_⟩
      refine ⟨_, _, _, acc ++ [.ref tt], rfl, upd_same, ?_, ?_⟩
      · rw [off_upd]
        exact sc.trans (off_mono st')
      · rw [off_upd, eb, List.map_append]
        have sm := off_mono (a := D) st'
        exact dps_app (dps_same sm da) (.cons (.tup (a := tt) (SqT.of (by rw [off_ne tD, upd_same])) (.cons (.int _) (.cons (.int _) (.cons (dp_same (sc.trans sm) e3) .nil)))) .nil)
    · rintro σ G ⟨u2, u3, u4, acc, rfl, hD, sc, da⟩
      rw [yl, List.take_length] at da
      refine ⟨_, rfl, D, acc, rfl, .inl ⟨SqL.of hD, fun t nt => ?_⟩⟩
      have st := same_new (o := .tup acc) nt
      exact k t _ ((sc.trans (off_sub D G)).trans st) (.tup (SqT.of upd_same) (dps_same ((off_sub D G).trans st) da))
end
end Vk
set_option maxHeartbeats 8000000
/-! a new course -/
namespace Vk
open PySem PySem.Spec PyProof.Rows L2 GxR
structure BdNew (P : Program) (w : World) (K : PySem.W.Frag) (mg : Str → Option Value) (base : Heap) (CB : Addr) : Prop where
  g : mg "Board" = some (.ref CB)
  ex : ∃ fI fd, Mk K CB fI ∧ Binds K fd ["self", "rule", "processors"] [] ∧ FnOk P w K mg base CX0 1 fI fd ["self", "rule", "processors"] (spBInit K CB)
/-- contents of stretches -/
def namP (f : Pc) : Pd := (f.1, f.2.1, .tuple (f.2.2.map PyData.str))
theorem eqv_names {a b : List Str} (ha : ∀ x ∈ a, PyData.strOk x = true) : PyData.eqv (.tuple (a.map PyData.str)) (.tuple (b.map PyData.str)) = decide (a = b) := by
  have gen : ∀ (a b : List Str), PyData.eqvAll (a.map PyData.str) (b.map PyData.str) = decide (a = b) := fun a => by
    induction a with
    | nil =>
      intro b
      cases b with
      | nil => simp [PyData.eqvAll]
      | cons y b => simp [PyData.eqvAll]
    | cons x a ih =>
      intro b
      cases b with
      | nil => simp [PyData.eqvAll]
      | cons y b =>
        simp [PyData.eqvAll, ih b, PyData.eqv]
        by_cases e : x = y <;> simp [e]
  have := gen a b
  simp [PyData.eqv]
  exact this
theorem seg_names : ∀ (ps st : List Pc), (∀ p ∈ ps, ∀ x ∈ p.2.2, PyData.strOk x = true) → (∀ p ∈ st, ∀ x ∈ p.2.2, PyData.strOk x = true) → (ps.map namP).foldl (segB PyData.eqv) (st.map namP) = (ps.foldl (segB fun a b => decide (a = b)) st).map namP
  | [], st, _, _ => rfl
  | p :: ps, st, h, hs => by
    have e : segB PyData.eqv (st.map namP) (namP p) = (segB (fun a b => decide (a = b)) st p).map namP := by
      unfold segB
      rw [List.getLast?_map]
      cases q : st.getLast? with
      | none => rfl
      | some q0 =>
        have hq := hs q0 (List.mem_of_getLast? q)
        show (if PyData.eqv (.tuple (q0.2.2.map PyData.str)) (.tuple (p.2.2.map PyData.str)) = true then _ else _) = List.map namP (if decide (q0.2.2 = p.2.2) = true then st.dropLast ++ [(q0.1, p.2.1, p.2.2)] else st ++ [p])
        rw [eqv_names hq]
        by_cases w : q0.2.2 = p.2.2
        · rw [if_pos (decide_eq_true w), if_pos (decide_eq_true w), List.map_append, ← List.map_dropLast]
          rfl
        · rw [if_neg (fun z => w (of_decide_eq_true z)), if_neg (fun z => w (of_decide_eq_true z)), List.map_append]
          rfl
    rw [List.map_cons, List.foldl_cons, List.foldl_cons, e]
    refine seg_names ps _ (fun x hx => h x (List.mem_cons_of_mem _ hx)) fun x hx => ?_
    have hp := h p (List.mem_cons_self ..)
    unfold segB at hx
    split at hx
    · split at hx
      · rcases List.mem_append.mp hx with hx | hx
        · exact hs x (List.dropLast_subset _ hx)
        · rw [List.mem_singleton.mp hx]
          exact hp
      · rcases List.mem_append.mp hx with hx | hx
        · exact hs x hx
        · rw [List.mem_singleton.mp hx]
          exact hp
    · rw [List.mem_singleton.mp hx]
      exact hp
abbrev joinP (ps : List Pc) : List Pc := joinB (fun a b => decide (a = b)) ps
theorem join_names {ps : List Pc} (h : ∀ p ∈ ps, ∀ x ∈ p.2.2, PyData.strOk x = true) : joinB PyData.eqv (ps.map namP) = (joinP ps).map namP := seg_names ps [] h (fun p hp => nomatch hp)
theorem triP_nam (f : Pc) : triP (namP f) = pieD f := rfl
section
variable {P : Program} {w : World} {K : PySem.W.Frag} {mg : Str → Option Value} {base : Heap} {CC CB : Addr}
def spStretch (K : PySem.W.Frag) (CC CB : Addr) : Sp := fun vs H Q _ => ∃ (a : Addr) (rv : V) (c : Int) (N : CoA) (C : Cs) (r : Rl) (ps : List Pc), vs = [.ref a] ∧ CoAt CC CB K H a rv c N C r ps ∧ ps.length ≤ 1000000 ∧ (∀ p ∈ ps, ∀ x ∈ p.2.2, PyData.strOk x = true) ∧
  ∀ (t : Addr) (H' : Hp), Same H H' → Dp K H' (.ref t) (.tuple ((joinP ps).map pieD)) → Q (.ref t) H'
theorem scStretch : FnScope ["self"] ["self"] (defScope sCoStretches) := ⟨rfl, rfl, rfl, by decide +kernel, rfl, by decide +kernel, by decide +kernel⟩
theorem ok_stretch (D : MDf K CC "stretches" "Course.stretches" sCoStretches ["self"]) (TC : CoC K CC) (JN : Cl P w K mg base CX0 1 "joined" ["pieces"] (spJoined K)) : MCl P w K mg base CX0 2 CC "stretches" ["self"] (spStretch K CC CB) := by
  refine mcl0 D scStretch (fun vs H Q E h => ?_) (fun f cdv Ar outer s0 H vs Q E hr h => ?_)
  · obtain ⟨a, rv, c, N, C, r, ps, rfl, _⟩ := h
    rfl
  · obtain ⟨a, rv, c, N, C, r, ps, rfl, B, pl, sh, k⟩ := h
    refine ⟨_, pss_one (ps_ret (pc JN hr (by decide) (pa_cons (pe_fld (pv 0) rfl) pa_nil))), ?_⟩
    obtain ⟨ys, hp, dy⟩ := B.pie
    have dy2 := dps_same (offL_sub (ftC a N) H) dy
    have em : ps.map pieD = (ps.map namP).map triP := by
      rw [List.map_map]
      rfl
    rw [em] at dy2
    refine ⟨_, rfl, a, CC, N.dn, _, _, rfl, B.ob, TC.cl, TC.nP, cf_pieces, N.p, ys, ps.map namP, rfl, SqL.of hp, dy2, by rw [List.length_map]; exact pl, fun t ht => ?_, fun t H' s d => k t H' s ?_⟩
    · obtain ⟨f, hf, rfl⟩ := List.mem_map.mp ht
      exact sh_names (sh f hf)
    · rw [join_names sh, List.map_map] at d
      exact d
theorem ft_freshC {a : Addr} {N N' : CoA} {G G' : Hp} (k : Same (OffL (ftC a N) G) (OffL (ftC a N') G')) : ∀ z ∈ ftC a N', z ∈ ftC a N ∨ G z = none := fun z hz => by
  by_cases m : z ∈ ftC a N
  · exact .inl m
  · right
    cases e : G z with
    | none => rfl
    | some o =>
      have y := k.has z (by rw [offL_out m, e]; exact fun w => nomatch w)
      rw [offL_in hz] at y
      exact absurd rfl y
def spCInit (K : PySem.W.Frag) (CC CB : Addr) : Sp := fun vs H Q _ => ∃ (x dx : Addr) (jv rv : V) (c : Int) (r : Rl) (nd : Str → Int) (J : List Jd), vs = [.ref x, jv, rv, .int c] ∧ H x = some (.ins CC dx []) ∧ Dp K (Off x H) jv (.tuple (J.map jdD)) ∧ Dp K (Off x H) rv (bRulD r) ∧ r.Ok ∧ JOk nd J ∧ JName J ∧
  ∀ (N : CoA) (H' : Hp), CoAt CC CB K H' x rv c N (Cs.zero r J) r [] → (∀ z ∈ ftC x N, z = x ∨ H z = none) → Same (Off x H) (OffL (ftC x N) H') → Q .non H'
theorem scCInit : FnScope ["self", "jobs", "rule", "processors"] ["self", "jobs", "rule", "processors"] (defScope sCoInit) := ⟨rfl, rfl, rfl, by decide +kernel, rfl, by decide +kernel, by decide +kernel⟩
theorem cf_make {b l p dn : Addr} {A : BdA} : putF "pieces" (.ref p) (putF "coming" (.ref l) (putF "board" (.ref b) [])) = cfl ⟨dn, b, l, p, A⟩ := by kernel_rfl
theorem ok_cinit {fI : Addr} {fd : FuncData} (F : Fun K "__init__" "Course.__init__" sCoInit fI fd) (TC : CoC K CC) (NB : BdNew P w K mg base CB) (ml : mg "list" = none) (LI : MCl P w K mg base CX0 2 CC "let_in" ["self"] (spLetIn K CC CB)) : FnOk P w K mg base CX0 3 fI fd ["self", "jobs", "rule", "processors"] (spCInit K CC CB) := by
  refine F.ok scCInit (fun vs H Q E h => ?_) (fun cdv Ar outer s0 H vs Q E hr h => ?_)
  · obtain ⟨x, dx, jv, rv, c, r, nd, J, rfl, _⟩ := h
    rfl
  · obtain ⟨x, dx, jv, rv, c, r, nd, J, rfl, hx, hj, hd, ro, jok, jn, k⟩ := h
    obtain ⟨fB, fdB, MB, bB, FB⟩ := NB.ex
    obtain ⟨fL, fdL, ML, bL, FL⟩ := LI.ex
    refine ⟨_, pss_cons (ps_fld (pv 0) (pe_make MB FB (hr.mono (by decide)) rfl NB.g bB .nil pass0 (pa_cons (pv 2) (pa_cons (pv 3) pa_nil))) rfl)
      (pss_cons (ps_fld (pv 0) (pe_callTy call_list_of (by rfl) ml (by decide +kernel) (pa_cons (pv 1) pa_nil)) rfl)
      (pss_cons (ps_fld (pv 0) (pe_lst pa_nil) rfl)
      (pss_one (ps_expr (pe_meth0 (pv 0) TC.cl ML FL hr bL .nil pass0))))), ?_⟩
    refine ⟨_, rfl, _, rfl, fun b db nb ndb bdb => ?_⟩
    have bx : b ≠ x := fun e => by rw [e, hx] at nb; cases nb
    have dbx : db ≠ x := fun e => by rw [e, hx] at ndb; cases ndb
    have sb : Same H (Off b (upd (upd H db (.own b)) b (.ins CB db []))) := by
      rw [off_upd]
      exact .of fun z o e => by
        rw [off_ne (fun y => by rw [y, nb] at e; cases e), upd_ne (fun y => by rw [y, ndb] at e; cases e)]
        exact e
    refine ⟨b, db, rv, c, r, rfl, upd_same, dp_same ((off_sub x H).trans sb) hd, ro.len1, ro.len6, fun A G2 edb B2 fr2 S2 => ⟨rfl, ?_⟩⟩
    have s12 : Same H G2 := sb.trans (S2.trans (offL_sub _ _))
    have fr1 : ∀ z ∈ ftB b A, H z = none := fun z hz => by
      rcases fr2 z hz with e | e
      · rw [e]; exact nb
      · by_cases z1 : z = b
        · rw [z1]; exact nb
        · rw [upd_ne z1] at e
          by_cases z2 : z = db
          · rw [z2]; exact ndb
          · rw [upd_ne z2] at e
            exact e
    have xft : x ∉ ftB b A := fun m => by
      have z := fr1 x m
      rw [hx] at z
      cases z
    have hx2 := s12.at hx
    refine ⟨_, rfl, x, CC, dx, _, rfl, hx2, TC.cl, TC.nB, by show 0 < 1000; decide, ?_⟩
    have B3 : BdAt CB K (upd G2 x (.ins CC dx (putF "board" (.ref b) []))) b rv c A (Bd.new r) := B2.keepT (fun z hz => upd_ne (fun e => xft (by rw [← e]; exact hz))) (fun a xs q => by
      rw [offL_put xft]
      exact sqt_put (by rw [offL_out xft]; exact hx2) noTup_ins q)
    have hx3 : upd G2 x (.ins CC dx (putF "board" (.ref b) [])) x = some (.ins CC dx (putF "board" (.ref b) [])) := upd_same
    have S3 : Same (Off x H) (Off x (upd G2 x (.ins CC dx (putF "board" (.ref b) [])))) := by
      rw [off_upd]
      exact off_mono s12
    generalize upd G2 x (.ins CC dx (putF "board" (.ref b) [])) = G3 at B3 hx3 S3 ⊢
    obtain ⟨pj, js, rfl, qj, rj⟩ := dp_tuple hj
    have s3 := S3.trans (off_sub x G3)
    refine ⟨_, rfl, pj, js, rfl, .inr (same_seqT s3 qj), fun l nl => ?_⟩
    have lx : l ≠ x := fun e => by rw [e, hx3] at nl; cases nl
    have nl0 : H l = none := by
      have z := S3.free (l := l) (by rw [off_ne lx]; exact nl)
      rw [off_ne lx] at z
      exact z
    have s4 := same_new (o := .lst js) nl
    have B4 := B3.same s4
    have hx4 := s4.at hx3
    have hl4 : upd G3 l (.lst js) l = some (.lst js) := upd_same
    refine ⟨_, rfl, x, CC, dx, _, rfl, hx4, TC.cl, TC.nC, by show 1 < 1000; decide, ?_⟩
    have B5 : BdAt CB K (upd (upd G3 l (.lst js)) x (.ins CC dx (putF "coming" (.ref l) (putF "board" (.ref b) [])))) b rv c A (Bd.new r) := B4.keepT (fun z hz => upd_ne (fun e => xft (by rw [← e]; exact hz))) (fun a xs q => by
      rw [offL_put xft]
      exact sqt_put (by rw [offL_out xft]; exact hx4) noTup_ins q)
    have hx5 : upd (upd G3 l (.lst js)) x (.ins CC dx (putF "coming" (.ref l) (putF "board" (.ref b) []))) x = some (.ins CC dx (putF "coming" (.ref l) (putF "board" (.ref b) []))) := upd_same
    have hl5 : upd (upd G3 l (.lst js)) x (.ins CC dx (putF "coming" (.ref l) (putF "board" (.ref b) []))) l = some (.lst js) := by rw [upd_ne lx]; exact hl4
    have S5 : Same (Off x H) (Off x (upd (upd G3 l (.lst js)) x (.ins CC dx (putF "coming" (.ref l) (putF "board" (.ref b) []))))) := by
      rw [off_upd]
      exact S3.trans (off_mono s4)
    generalize upd (upd G3 l (.lst js)) x (.ins CC dx (putF "coming" (.ref l) (putF "board" (.ref b) []))) = G5 at B5 hx5 hl5 S5 ⊢
    refine ⟨Nat.zero_le _, fun p np => ?_⟩
    have px : p ≠ x := fun e => by rw [e, hx5] at np; cases np
    have pl : p ≠ l := fun e => by rw [e, hl5] at np; cases np
    have np0 : H p = none := by
      have z := S5.free (l := p) (by rw [off_ne px]; exact np)
      rw [off_ne px] at z
      exact z
    have s6 := same_new (o := .lst ([] : List V)) np
    have B6 := B5.same s6
    have hx6 := s6.at hx5
    refine ⟨_, rfl, x, CC, dx, _, rfl, hx6, TC.cl, TC.nP, by show 2 < 1000; decide, ?_⟩
    rw [cf_make (dn := dx) (A := A)]
    have mem : ∀ z ∈ ftC x ⟨dx, b, l, p, A⟩, z = x ∨ H z = none := fun z hz => by
      simp only [ftC, List.mem_cons] at hz
      rcases hz with rfl | rfl | rfl | h
      · exact .inl rfl
      · exact .inr nl0
      · exact .inr np0
      · exact .inr (fr1 z h)
    have lft : l ∉ ftB b A := fun m => B4.here m |> fun w => (by
      have z := B3.here m
      exact z nl)
    have pft : p ∉ ftB b A := fun m => B5.here m np
    have B7 : BdAt CB K (upd (upd G5 p (.lst ([] : List V))) x (.ins CC dx (cfl ⟨dx, b, l, p, A⟩))) b rv c A (Bd.new r) := B6.keepT (fun z hz => upd_ne (fun e => xft (by rw [← e]; exact hz))) (fun a xs q => by
      rw [offL_put xft]
      exact sqt_put (by rw [offL_out xft]; exact hx6) noTup_ins q)
    have mx : x ∈ ftC x ⟨dx, b, l, p, A⟩ := by simp [ftC]
    have S7 : Same (Off x H) (OffL (ftC x ⟨dx, b, l, p, A⟩) (upd (upd G5 p (.lst ([] : List V))) x (.ins CC dx (cfl ⟨dx, b, l, p, A⟩)))) := by
      rw [offL_upd mx]
      have z := offL_mono (ft := ftC x ⟨dx, b, l, p, A⟩) (S5.trans (off_mono (a := x) s6))
      have e : OffL (ftC x ⟨dx, b, l, p, A⟩) (Off x (upd G5 p (.lst ([] : List V)))) = OffL (ftC x ⟨dx, b, l, p, A⟩) (upd G5 p (.lst ([] : List V))) := by
        funext y
        by_cases m : y ∈ ftC x ⟨dx, b, l, p, A⟩
        · rw [offL_in m, offL_in m]
        · rw [offL_out m, offL_out m, off_ne (fun w => m (by rw [w]; exact mx))]
      rw [e] at z
      refine Same.trans ?_ z
      have w := offL_swap (ft := [x]) (ft' := ftC x ⟨dx, b, l, p, A⟩) (H := H) fun y hy => (mem y hy).imp (fun e => by simp [e]) id
      rw [offL_one] at w
      have e2 : OffL (ftC x ⟨dx, b, l, p, A⟩) (Off x H) = OffL (ftC x ⟨dx, b, l, p, A⟩) H := by
        funext y
        by_cases m : y ∈ ftC x ⟨dx, b, l, p, A⟩
        · rw [offL_in m, offL_in m]
        · rw [offL_out m, offL_out m, off_ne (fun w => m (by rw [w]; exact mx))]
      rw [e2]
      exact w
    have C7 : CoAt CC CB K (upd (upd G5 p (.lst ([] : List V))) x (.ins CC dx (cfl ⟨dx, b, l, p, A⟩))) x rv c ⟨dx, b, l, p, A⟩ ⟨Bd.new r, J⟩ r [] :=
      ⟨upd_same, B7, dp_same S7 hd, (List.length_replicate ..).symm, ⟨js, by rw [upd_ne lx]; exact s6.at hl5, dps_same S7 rj⟩, ⟨[], by rw [upd_ne px, upd_same], .nil⟩, xft, lft, pft, pl.symm⟩
    generalize upd (upd G5 p (.lst ([] : List V))) x (.ins CC dx (cfl ⟨dx, b, l, p, A⟩)) = G7 at C7 S7 ⊢
    refine ⟨_, rfl, x, dx, _, rfl, C7.ob, by kernel_rfl, x, _, c, _, _, r, _, nd, J, rfl, C7, Cs.new_ok ro jok, jok, jn, ro, fun N' H8 C8 S8 en _ => ?_⟩
    refine k N' H8 C8 (fun z hz => ?_) (S7.trans S8)
    rcases ft_freshC S8 z hz with m | m
    · exact mem z m
    · by_cases e : z = x
      · exact .inl e
      · right
        by_cases m2 : z ∈ ftC x ⟨dx, b, l, p, A⟩
        · exact (mem z m2).resolve_left e
        · have w := S7.free (l := z) (by rw [offL_out m2]; exact m)
          rw [off_ne e] at w
          exact w
end
end Vk
set_option maxHeartbeats 2000000
/-! list(d.values()) -/
namespace Vk
open PySem PySem.Spec PyProof.Rows L2
def tListVals (te : TE) : TE := fun σ H Q => te σ H fun x H1 => ∃ (d : Addr) (kvs : List (Key × V)), x = .ref d ∧ H1 d = some (.dK kvs) ∧ ∀ p, H1 p = none → Q (.ref p) (upd H1 p (.lst (kvs.map (·.2))))
theorem kv_vals : ∀ {kvs : List (Key × V)} {vs : List (Key × Value)}, KV kvs vs → Vals (kvs.map (·.2)) (vs.map (·.2))
  | _, _, .nil => .nil
  | _, _, .cons h t => .cons h.2 (kv_vals t)
theorem pe_listVals {X : Cx} {e : Expr} {te : TE} {p apos cpos pos : Pos} (hc : X.calm = true) (he : PE X e te) (hg : Gl X "list") (hm : X.mg "list" = none) (hv : bootBuiltins "list" = some (.type "list")) (hbase : attributeBase e "values" X.env (eval e X.env) = eval e X.env := by rfl) (hline : (apos.endLine == cpos.line) = true := by rfl)
    (hs : starEach [.Call (.Attribute e "values" apos) [] [] cpos] X.env = (false, eval (.Call (.Attribute e "values" apos) [] [] cpos) X.env) :: starEach [] X.env := by rfl) :
    PE X (.Call (.Name "list" p) [.Call (.Attribute e "values" apos) [] [] cpos] [] pos) (tListVals te) := by
  refine ⟨fun pins s σ H Q I hq => ?_⟩
  refine wpAny_Call_Name_kw (ld_blt I hg hm hv (PyProof.Rows.callWith_type1 ?_ hs rfl))
  rw [hs]; show wpAny _ _ (spliced ((false, eval (.Call (.Attribute e "values" apos) [] [] cpos) X.env) :: backTo pos (starEach [] X.env))) _ _ s
  refine Calls.spliced_cons (wpAny_Call_method (T := "dict") (id := "dict.values") hbase rfl hline F.plainAttrs_dict F.slot_dict_values F.type_dict_values (thn (he.run pins s σ H _ I hq) fun u s1 ⟨x, H1, I1, rx, d, kvs, ex, hd, go⟩ => ?_))
  subst ex; obtain rfl : u = Value.ref d := rx
  obtain ⟨hz, hs0, vs, kv, hdo⟩ := I1.hok d _ hd
  obtain ⟨ep, hat⟩ := hdo.dictAt
  have lk : kvs.length = vs.length := Paired.length kv
  have I2 : Inv X pins σ H1 { s1 with heap := s1.heap.push { cls := .type "dict_values", data := .fields #[.ref d] } } := I1.kept (t' := s1.toks) fun b ob q => Heap.get?_push_of_some _ q
  have sz : (s1.heap.push { cls := .type "dict_values", data := .fields #[.ref d] }).objs.size = s1.heap.objs.size + 1 := Heap.size_push _ _
  refine ⟨hdo.typeIs, hdo.mapOf.noDict, ?_⟩
  show wpAny _ _ (callWith cpos (.builtin "dict.values") [.ref d] [] []) _ X.xe s1
  refine method_meetsIn F.slot_dict_values F.entry_dict_values rfl (PySem.evalArgs_none ⟨rfl, hdo.typeIs, F.args_dict_values_1 _, _, meets_dict_values (mixKind X.prog X.w) d hs0, ⟨vs, hdo⟩, Calls.spliced_nil ?_⟩)
  refine PySem.W.kdl_call (PySem.W.kdl_values (knd := mixKind X.prog X.w) (kvs := vs) (ep := ep) (r := s1.heap.objs.size) (d := d)) (I1.ok.hd hc) ⟨⟨_, Heap.get?_push_size _ rfl, rfl, rfl⟩, hat.push _⟩ (by omega) fun h' tk acc c hk hS hacc => ?_
  have ev : acc.toList = vs.map (·.2) := by
    refine List.ext_getElem? fun i => ?_
    rw [List.getElem?_map]
    by_cases q : i < vs.length
    · have l : i < acc.size := by rw [hacc.1]; exact q
      obtain ⟨k, e⟩ := hacc.2 i acc[i] (Array.getElem?_eq_getElem l)
      rw [e, Array.getElem?_toList, Array.getElem?_eq_getElem l]
      rfl
    · rw [List.getElem?_eq_none (Nat.le_of_not_lt q), List.getElem?_eq_none (by rw [Array.length_toList, hacc.1]; exact Nat.le_of_not_lt q)]
      rfl
  have I3 : Inv X pins σ (upd H1 (s1.heap.push { cls := .type "dict_values", data := .fields #[.ref d] }).objs.size (.lst (kvs.map (·.2)))) { s1 with heap := h', toks := tk } := by
    refine I1.laid (t' := tk) (fun b o e => hk b o (Heap.get?_push_of_some _ e)) (by rw [sz]; exact Nat.le_succ _) ?_
    refine ⟨by rw [List.length_map]; omega, acc.toList, c, by rw [ev]; exact kv_vals kv, ?_⟩
    rw [Array.toArray_toList]
    exact hS
  exact ⟨.ref _, _, I3, rfl, go _ (by rw [sz]; exact I1.hok.fresh (Nat.le_succ _))⟩
end Vk
set_option maxHeartbeats 2000000
/-! zip of a list and a tuple, its iterators known by what they do -/
namespace Vk
open PySem
section
variable (prog : Program) (w : World)
/-- an iterator it over l: st tells where it is -/
structure Nxt (it l : Addr) (st : Heap → Nat → Prop) (xs : Array Value) : Prop where
  item : ∀ {A : Around} {E : Value → Shared → Prop} {s : Shared} {k : Nat} {x : Value} {Q : Value → Shared → Prop}, st s.heap k → xs[k]? = some x → (∀ h', st h' (k + 1) → Heap.SameBut it s.heap h' → Q x { s with heap := h' }) → wpAny (model prog w) A (Builtin.SmallTypes.nextOf (.ref it)) Q E s
  done : ∀ {A : Around} {E : Value → Shared → Prop} {s : Shared} {k : Nat} {Q : Value → Shared → Prop}, A.handled = none → st s.heap k → xs[k]? = none → (∀ h' e, Heap.ExtBut it s.heap h' → (∃ o, h'.get? e = some o ∧ o.cls = .type "StopIteration") → E (.ref e) { s with heap := h' }) → wpAny (model prog w) A (Builtin.SmallTypes.nextOf (.ref it)) Q E s
  keep : ∀ {h h' : Heap} {k : Nat}, st h k → (∀ o, h.get? it = some o → h'.get? it = some o) → (∀ o, h.get? l = some o → h'.get? l = some o) → st h' k
  here : ∀ {h : Heap} {k : Nat}, st h k → (∃ o, h.get? it = some o) ∧ ∃ o, h.get? l = some o
variable {prog w}
theorem nxt_list (it l : Addr) (xs : Array Value) : Nxt prog w it l (fun h k => h.IsListIter it l k ∧ h.IsList l xs ∧ it ≠ l) xs where
  item := fun st e go => wpAny_nextOf_list_item st.1 st.2.1 e fun h' a b => go h' ⟨a, st.2.1.at fun o q => b.extBut _ _ st.2.2.symm q, st.2.2⟩ b
  done := fun hh st e go => wpAny_nextOf_list_end hh st.1 st.2.1 e fun h' x a b => go h' x a b
  keep := fun st a b => ⟨st.1.at fun o q => a o q, st.2.1.at fun o q => b o q, st.2.2⟩
  here := fun st => ⟨let ⟨o, e, _⟩ := st.1; ⟨o, e⟩, let ⟨o, e, _⟩ := st.2.1; ⟨o, e⟩⟩
theorem nxt_tup (it l : Addr) (xs : Array Value) : Nxt prog w it l (fun h k => h.IsTupleIter it l k ∧ h.IsTuple l xs ∧ it ≠ l) xs where
  item := fun st e go => RZ.nextOf_tuple_item st.1 st.2.1 e fun h' a b => go h' ⟨a, st.2.1.at fun o q => b.extBut _ _ st.2.2.symm q, st.2.2⟩ b
  done := fun hh st e go => RZ.nextOf_tuple_end hh st.1 st.2.1 e fun h' x a b => go h' x a b
  keep := fun st a b => ⟨st.1.at fun o q => a o q, st.2.1.at fun o q => b o q, st.2.2⟩
  here := fun st => ⟨let ⟨o, e, _⟩ := st.1; ⟨o, e⟩, let ⟨o, e, _⟩ := st.2.1; ⟨o, e⟩⟩
section
variable {prog : Program} {w : World} {A : Around} {E : Value → Shared → Prop} {s : Shared} {z TI TO T i1 i2 l1 l2 : Addr} {st1 st2 : Heap → Nat → Prop} {k1 k2 : Nat} {xs ys : Array Value} {x y a b : Value} {f : Bool} {oT : Obj}
/-- what an update of one object leaves -/
theorem Nxt.but {it l c : Addr} {st : Heap → Nat → Prop} (N : Nxt prog w it l st xs) {h h' : Heap} {k : Nat} (q : st h k) (u : Heap.SameBut c h h') (n1 : it ≠ c) (n2 : l ≠ c) : st h' k := N.keep q (fun _ e => u.extBut _ _ n1 e) (fun _ e => u.extBut _ _ n2 e)
/-- the next pair, where no tuple is out yet -/
theorem zipx_item {Q : Value → Shared → Prop} (D : ZipApart z TI TO i1 i2 l1 l2) (N1 : Nxt prog w i1 l1 st1 xs) (N2 : Nxt prog w i2 l2 st2 ys) (hz : IsZip s.heap z TI TO .none) (hI : IsPair s.heap TI (.ref i1) (.ref i2)) (hO : IsPair s.heap TO a b) (q1 : st1 s.heap k1) (q2 : st2 s.heap k2) (ex : xs[k1]? = some x) (ey : ys[k2]? = some y)
    (go : ∀ h', IsZip h' z TI TO (rawInt s.heap.objs.size) → IsPair h' TO x y → st1 h' (k1 + 1) → st2 h' (k2 + 1) → IsPair h' s.heap.objs.size x y → h'.objs.size = s.heap.objs.size + 1 → (∀ c o, c ≠ z → c ≠ TO → c ≠ i1 → c ≠ i2 → s.heap.get? c = some o → h'.get? c = some o) → Q (.ref s.heap.objs.size) { s with heap := h' }) :
    wpAny (model prog w) A (Builtin.«zip.__next__» ⟨[.ref z], []⟩) (fun fin s' => ∃ v, fin = .done (.ret v) ∧ Q v s') E s := by
  show wpAny _ _ (field (.ref z) 2 >>= _) _ _ _; refine wpAny_bind (wpAny_field hz rfl (x := .bool false) rfl ?_); show wpAny _ _ (field (.ref z) 3 >>= _) _ _ _; refine wpAny_bind (wpAny_field hz rfl (x := .ref TI) rfl (wpAny_bind (wpAny_seqItems hI rfl ?_)))
  show wpAny _ _ (Builtin.SmallTypes.ownedTupleIsFree (.ref z) >>= _) _ _ _; refine wpAny_bind ?_; unfold Builtin.SmallTypes.ownedTupleIsFree; refine wpAny_bind (wpAny_field hz rfl (x := .none) rfl (wpAny_pure ?_)); simp only [if_true]
  refine wpAny_bind (wpAny_rule (wpAny_bind (wpAny_field hz rfl (x := .ref TO) rfl (wpAny_bind (wpAny_setField_rec hz (by simp) fun g1 z1 u1 => ?_)))))
  replace z1 : IsZip g1 z TI TO .ellipsis := z1
  refine wpAny_bind ?_; simp only [List.zipIdx_cons, List.zipIdx_nil, List.forIn_cons, List.forIn_nil]
  refine wpAny_bind (wpAny_bind (wpAny_onRaise ?_)); show wpAny _ _ (Builtin.SmallTypes.nextOf (.ref i1) >>= _) _ _ _
  refine wpAny_bind (N1.item (s := { s with heap := g1 }) (N1.but q1 u1 D.i1z D.l1z) ex fun g2 p1 u2 => wpAny_pure ?_)
  have o2 : IsPair g2 TO a b := u2.extBut _ _ D.TOi1 (u1.extBut _ _ D.TOz hO)
  refine wpAny_bind (wpAny_seqItems o2 rfl (wpAny_bind (wpAny_updateSeq_pair o2 fun g3 o3 u3 => ?_)))
  replace o3 : IsPair g3 TO x b := o3
  refine wpAny_bind (wpAny_letGo (wpAny_pure (wpAny_bind (wpAny_bind (wpAny_onRaise ?_))))); show wpAny _ _ (Builtin.SmallTypes.nextOf (.ref i2) >>= _) _ _ _
  refine wpAny_bind (N2.item (s := { s with heap := g3 }) (N2.but (N2.but (N2.but q2 u1 D.i2z D.l2z) u2 D.i12.symm D.l2i1) u3 D.TOi2.symm D.l2TO) ey fun g4 p2 u4 => wpAny_pure ?_)
  have o4 : IsPair g4 TO x b := u4.extBut _ _ D.TOi2 o3
  refine wpAny_bind (wpAny_seqItems o4 rfl (wpAny_bind (wpAny_updateSeq_pair o4 fun g5 o5 u5 => ?_)))
  replace o5 : IsPair g5 TO x y := o5
  refine wpAny_bind (wpAny_letGo (wpAny_pure (wpAny_pure (wpAny_bind (wpAny_seqItems o5 rfl (wpAny_bind (wpAny_newTuple ?_)))))))
  have sz : g5.objs.size = s.heap.objs.size := by rw [u5.1, u4.1, u3.1, u2.1, u1.1]
  have z5 : IsZip g5 z TI TO .ellipsis := u5.extBut _ _ D.TOz.symm (u4.extBut _ _ D.i2z.symm (u3.extBut _ _ D.TOz.symm (u2.extBut _ _ D.i1z.symm z1)))
  have kp : ∀ c o, c ≠ z → c ≠ TO → c ≠ i1 → c ≠ i2 → s.heap.get? c = some o → g5.get? c = some o := fun c o n1 n2 n3 n4 e => u5.extBut _ _ n2 (u4.extBut _ _ n4 (u3.extBut _ _ n2 (u2.extBut _ _ n3 (u1.extBut _ _ n1 e))))
  have r1 : st1 g5 (k1 + 1) := N1.but (N1.but (N1.but p1 u3 D.TOi1.symm D.l1TO) u4 D.i12 D.l1i2) u5 D.TOi1.symm D.l1TO
  have r2 : st2 g5 (k2 + 1) := N2.but p2 u5 D.TOi2.symm D.l2TO
  have zl : z < g5.objs.size := Heap.lt_size z5
  show wpAny _ _ (Builtin.SmallTypes.ownedTupleHandOut (.ref z) (.ref g5.objs.size) >>= _) _ _ _; refine wpAny_bind ?_; unfold Builtin.SmallTypes.ownedTupleHandOut
  have z6 : IsZip (g5.push { cls := .type "tuple", data := .seq #[x, y] }) z TI TO .ellipsis := Heap.get?_push_of_some _ z5
  refine wpAny_bind (wpAny_setField_rec z6 (by simp) fun g7 z7 u7 => ?_)
  replace z7 : IsZip g7 z TI TO (rawInt g5.objs.size) := z7
  refine wpAny_setField_rec z7 (by simp) fun g8 z8 u8 => ?_
  replace z8 : IsZip g8 z TI TO (rawInt g5.objs.size) := z8
  have up : ∀ c o, c ≠ z → g5.get? c = some o → g8.get? c = some o := fun c o n e => u8.extBut _ _ n (u7.extBut _ _ n (Heap.get?_push_of_some _ e))
  have t8 : IsPair g8 g5.objs.size x y := u8.extBut _ _ (Nat.ne_of_gt zl) (u7.extBut _ _ (Nat.ne_of_gt zl) (Heap.get?_push_size _ rfl))
  have s8 : g8.objs.size = g5.objs.size + 1 := by rw [u8.1, u7.1, Heap.size_push]
  rw [sz] at z8 t8 s8
  refine wpAny_pure ⟨_, rfl, ?_⟩; show Q (.ref g5.objs.size) _
  rw [sz]
  exact go g8 z8 (up _ _ D.TOz o5) (N1.keep r1 (fun o e => up _ o D.i1z e) fun o e => up _ o D.l1z e) (N2.keep r2 (fun o e => up _ o D.i2z e) fun o e => up _ o D.l2z e) t8 s8 fun c o n1 n2 n3 n4 e => up c o n1 (kp c o n1 n2 n3 n4 e)
/-- .. where the tuple is out -/
theorem zipx_held {Q : Value → Shared → Prop} (D : ZipApart z TI TO i1 i2 l1 l2) (N1 : Nxt prog w i1 l1 st1 xs) (N2 : Nxt prog w i2 l2 st2 ys) (hz : IsZipHeld s.heap z TI TO T f) (hT : s.heap.get? T = some oT) (hI : IsPair s.heap TI (.ref i1) (.ref i2)) (q1 : st1 s.heap k1) (q2 : st2 s.heap k2) (ex : xs[k1]? = some x) (ey : ys[k2]? = some y)
    (go : ∀ h', IsZipHeld h' z TI TO T true → st1 h' (k1 + 1) → st2 h' (k2 + 1) → IsPair h' s.heap.objs.size x y → h'.objs.size = s.heap.objs.size + 1 → (∀ c o, c ≠ z → c ≠ i1 → c ≠ i2 → s.heap.get? c = some o → h'.get? c = some o) → Q (.ref s.heap.objs.size) { s with heap := h' }) :
    wpAny (model prog w) A (Builtin.«zip.__next__» ⟨[.ref z], []⟩) (fun fin s' => ∃ v, fin = .done (.ret v) ∧ Q v s') E s := by
  show wpAny _ _ (field (.ref z) 2 >>= _) _ _ _; refine wpAny_bind (wpAny_field hz rfl (x := .bool false) rfl ?_); show wpAny _ _ (field (.ref z) 3 >>= _) _ _ _; refine wpAny_bind (wpAny_field hz rfl (x := .ref TI) rfl (wpAny_bind (wpAny_seqItems hI rfl ?_)))
  show wpAny _ _ (Builtin.SmallTypes.ownedTupleIsFree (.ref z) >>= _) _ _ _; refine wpAny_bind (wpAny_tupleHeld_zip hz hT fun g1 z1 u1 => ?_); simp only [Bool.false_eq_true, if_false]; refine wpAny_bind ?_; rw [← Array.forIn_toList]; simp only [List.forIn_cons, List.forIn_nil]
  refine wpAny_bind (wpAny_bind (wpAny_holding ?_)); show wpAny _ _ (Builtin.SmallTypes.nextOf (.ref i1) >>= _) _ _ _
  refine wpAny_bind (N1.item (s := { s with heap := g1 }) (N1.but q1 u1 D.i1z D.l1z) ex fun g2 p1 u2 => wpAny_pure (wpAny_pure ?_))
  refine wpAny_bind (wpAny_bind (wpAny_holding ?_)); show wpAny _ _ (Builtin.SmallTypes.nextOf (.ref i2) >>= _) _ _ _
  refine wpAny_bind (N2.item (s := { s with heap := g2 }) (N2.but (N2.but q2 u1 D.i2z D.l2z) u2 D.i12.symm D.l2i1) ey fun g3 p2 u3 => wpAny_pure (wpAny_pure (wpAny_pure ?_)))
  show wpAny _ _ (newTuple [x, y] >>= _) _ _ _; refine wpAny_bind (wpAny_newTuple ?_)
  have sz : g3.objs.size = s.heap.objs.size := by rw [u3.1, u2.1, u1.1]
  have z3 : IsZipHeld g3 z TI TO T true := u3.extBut _ _ D.i2z.symm (u2.extBut _ _ D.i1z.symm z1)
  have kp : ∀ c o, c ≠ z → c ≠ i1 → c ≠ i2 → s.heap.get? c = some o → g3.get? c = some o := fun c o n1 n2 n3 e => u3.extBut _ _ n3 (u2.extBut _ _ n2 (u1.extBut _ _ n1 e))
  have r1 : st1 g3 (k1 + 1) := N1.but p1 u3 D.i12 D.l1i2
  refine wpAny_pure ⟨_, rfl, ?_⟩; show Q (.ref g3.objs.size) _
  have tp : IsPair (g3.push { cls := .type "tuple", data := .seq #[x, y] }) g3.objs.size x y := Heap.get?_push_size _ rfl
  have s4 : (g3.push { cls := .type "tuple", data := .seq #[x, y] }).objs.size = g3.objs.size + 1 := Heap.size_push ..
  rw [sz] at tp s4 ⊢
  exact go _ (Heap.get?_push_of_some _ z3) (N1.keep r1 (fun o e => Heap.get?_push_of_some _ e) fun o e => Heap.get?_push_of_some _ e) (N2.keep p2 (fun o e => Heap.get?_push_of_some _ e) fun o e => Heap.get?_push_of_some _ e) tp s4 fun c o n1 n2 n3 e => Heap.get?_push_of_some _ (kp c o n1 n2 n3 e)
/-- the end -/
theorem zipx_end {Q : Fin → Shared → Prop} (hh : A.handled = none) (D : ZipApart z TI TO i1 i2 l1 l2) (N1 : Nxt prog w i1 l1 st1 xs) (N2 : Nxt prog w i2 l2 st2 ys) (hz : IsZip s.heap z TI TO .none) (hI : IsPair s.heap TI (.ref i1) (.ref i2)) (hO : IsPair s.heap TO a b) (q1 : st1 s.heap k1) (q2 : st2 s.heap k2) (none_ : xs[k1]? = none ∨ ys[k2]? = none)
    (go : ∀ h' e, (∀ c o, c ≠ z → c ≠ TO → c ≠ i1 → c ≠ i2 → s.heap.get? c = some o → h'.get? c = some o) → (∃ o, h'.get? e = some o ∧ o.cls = .type "StopIteration") → E (.ref e) { s with heap := h' }) : wpAny (model prog w) A (Builtin.«zip.__next__» ⟨[.ref z], []⟩) Q E s := by
  show wpAny _ _ (field (.ref z) 2 >>= _) _ _ _; refine wpAny_bind (wpAny_field hz rfl (x := .bool false) rfl ?_); show wpAny _ _ (field (.ref z) 3 >>= _) _ _ _; refine wpAny_bind (wpAny_field hz rfl (x := .ref TI) rfl (wpAny_bind (wpAny_seqItems hI rfl ?_)))
  show wpAny _ _ (Builtin.SmallTypes.ownedTupleIsFree (.ref z) >>= _) _ _ _; refine wpAny_bind ?_; unfold Builtin.SmallTypes.ownedTupleIsFree; refine wpAny_bind (wpAny_field hz rfl (x := .none) rfl (wpAny_pure ?_)); simp only [if_true]
  refine wpAny_bind (wpAny_rule (wpAny_bind (wpAny_field hz rfl (x := .ref TO) rfl (wpAny_bind (wpAny_setField_rec hz (by simp) fun g1 z1 u1 => ?_)))))
  replace z1 : IsZip g1 z TI TO .ellipsis := z1
  refine wpAny_bind ?_; simp only [List.zipIdx_cons, List.zipIdx_nil, List.forIn_cons, List.forIn_nil]
  refine wpAny_bind (wpAny_bind (wpAny_onRaise ?_)); show wpAny _ _ (Builtin.SmallTypes.nextOf (.ref i1) >>= _) _ _ _
  cases ex : xs[k1]? with
  | none =>
    refine wpAny_bind (N1.done (s := { s with heap := g1 }) hh (N1.but q1 u1 D.i1z D.l1z) ex fun g2 e u2 ⟨oe, e1, e2⟩ => ?_)
    have z2 : IsZip g2 z TI TO .ellipsis := u2 _ _ D.i1z.symm z1
    have ez : e ≠ z := fun q => by rw [q, z2] at e1; cases e1; simp at e2
    exact wpAny_setField_rec z2 (by simp) fun g3 _ u3 => go g3 e (fun c o n1 _ n3 _ q => u3.extBut _ _ n1 (u2 _ _ n3 (u1.extBut _ _ n1 q))) ⟨oe, u3.extBut _ _ ez e1, e2⟩
  | some x =>
    have ey : ys[k2]? = none := none_.resolve_left fun q => by rw [ex] at q; cases q
    refine wpAny_bind (N1.item (s := { s with heap := g1 }) (N1.but q1 u1 D.i1z D.l1z) ex fun g2 p1 u2 => wpAny_pure ?_)
    have o2 : IsPair g2 TO a b := u2.extBut _ _ D.TOi1 (u1.extBut _ _ D.TOz hO)
    refine wpAny_bind (wpAny_seqItems o2 rfl (wpAny_bind (wpAny_updateSeq_pair o2 fun g3 o3 u3 => ?_)))
    refine wpAny_bind (wpAny_letGo (wpAny_pure (wpAny_bind (wpAny_bind (wpAny_onRaise ?_))))); show wpAny _ _ (Builtin.SmallTypes.nextOf (.ref i2) >>= _) _ _ _
    refine wpAny_bind (N2.done (s := { s with heap := g3 }) hh (N2.but (N2.but (N2.but q2 u1 D.i2z D.l2z) u2 D.i12.symm D.l2i1) u3 D.TOi2.symm D.l2TO) ey fun g4 e u4 ⟨oe, e1, e2⟩ => ?_)
    have z4 : IsZip g4 z TI TO .ellipsis := u4 _ _ D.i2z.symm (u3.extBut _ _ D.TOz.symm (u2.extBut _ _ D.i1z.symm z1))
    have ez : e ≠ z := fun q => by rw [q, z4] at e1; cases e1; simp at e2
    exact wpAny_setField_rec z4 (by simp) fun g5 _ u5 => go g5 e (fun c o n1 n2 n3 n4 q => u5.extBut _ _ n1 (u4 _ _ n4 (u3.extBut _ _ n2 (u2.extBut _ _ n3 (u1.extBut _ _ n1 q))))) ⟨oe, u5.extBut _ _ ez e1, e2⟩
theorem zipx_endHeld {Q : Fin → Shared → Prop} (hh : A.handled = none) (D : ZipApart z TI TO i1 i2 l1 l2) (N1 : Nxt prog w i1 l1 st1 xs) (N2 : Nxt prog w i2 l2 st2 ys) (hz : IsZipHeld s.heap z TI TO T f) (hT : s.heap.get? T = some oT) (hI : IsPair s.heap TI (.ref i1) (.ref i2)) (q1 : st1 s.heap k1) (q2 : st2 s.heap k2) (none_ : xs[k1]? = none ∨ ys[k2]? = none)
    (go : ∀ h' e, (∀ c o, c ≠ z → c ≠ i1 → c ≠ i2 → s.heap.get? c = some o → h'.get? c = some o) → (∃ o, h'.get? e = some o ∧ o.cls = .type "StopIteration") → E (.ref e) { s with heap := h' }) : wpAny (model prog w) A (Builtin.«zip.__next__» ⟨[.ref z], []⟩) Q E s := by
  show wpAny _ _ (field (.ref z) 2 >>= _) _ _ _; refine wpAny_bind (wpAny_field hz rfl (x := .bool false) rfl ?_); show wpAny _ _ (field (.ref z) 3 >>= _) _ _ _; refine wpAny_bind (wpAny_field hz rfl (x := .ref TI) rfl (wpAny_bind (wpAny_seqItems hI rfl ?_)))
  show wpAny _ _ (Builtin.SmallTypes.ownedTupleIsFree (.ref z) >>= _) _ _ _; refine wpAny_bind (wpAny_tupleHeld_zip hz hT fun g1 z1 u1 => ?_); simp only [Bool.false_eq_true, if_false]; refine wpAny_bind ?_; rw [← Array.forIn_toList]; simp only [List.forIn_cons, List.forIn_nil]
  refine wpAny_bind (wpAny_bind (wpAny_holding ?_)); show wpAny _ _ (Builtin.SmallTypes.nextOf (.ref i1) >>= _) _ _ _
  cases ex : xs[k1]? with
  | none => exact wpAny_bind (N1.done (s := { s with heap := g1 }) hh (N1.but q1 u1 D.i1z D.l1z) ex fun g2 e u2 ee => go g2 e (fun c o n1 n2 _ q => u2 _ _ n2 (u1.extBut _ _ n1 q)) ee)
  | some x =>
    have ey : ys[k2]? = none := none_.resolve_left fun q => by rw [ex] at q; cases q
    refine wpAny_bind (N1.item (s := { s with heap := g1 }) (N1.but q1 u1 D.i1z D.l1z) ex fun g2 p1 u2 => wpAny_pure (wpAny_pure ?_))
    refine wpAny_bind (wpAny_bind (wpAny_holding ?_)); show wpAny _ _ (Builtin.SmallTypes.nextOf (.ref i2) >>= _) _ _ _
    exact wpAny_bind (N2.done (s := { s with heap := g2 }) hh (N2.but (N2.but q2 u1 D.i2z D.l2z) u2 D.i12.symm D.l2i1) ey fun g3 e u3 ee => go g3 e (fun c o n1 n2 n3 q => u3 _ _ n3 (u2.extBut _ _ n2 (u1.extBut _ _ n1 q))) ee)
theorem zipx_pyItem {Q : Option Value → Shared → Prop} (D : ZipApart z TI TO i1 i2 l1 l2) (N1 : Nxt prog w i1 l1 st1 xs) (N2 : Nxt prog w i2 l2 st2 ys) (hz : IsZip s.heap z TI TO .none) (hI : IsPair s.heap TI (.ref i1) (.ref i2)) (hO : IsPair s.heap TO a b) (q1 : st1 s.heap k1) (q2 : st2 s.heap k2) (ex : xs[k1]? = some x) (ey : ys[k2]? = some y)
    (go : ∀ h', IsZip h' z TI TO (rawInt s.heap.objs.size) → st1 h' (k1 + 1) → st2 h' (k2 + 1) → IsPair h' s.heap.objs.size x y → (∀ c o, c ≠ z → c ≠ TO → c ≠ i1 → c ≠ i2 → s.heap.get? c = some o → h'.get? c = some o) → Q (some (.ref s.heap.objs.size)) { s with heap := h' }) : wpAny (model prog w) A (pyNext (.ref z)) Q E s := by
  have ty : s.TypeIs (.ref z) "zip" := ⟨_, hz, rfl⟩
  unfold pyNext; exact wpAny_bind (wpAny_attempt (wpAny_callSpecial?_slot (name := Str.ofString "__next__") ty F.slot_zip_next (wpAny_call_entry F.slot_zip_next ty F.entry_zip_next (zipx_item D N1 N2 hz hI hO q1 q2 ex ey fun h' a1 _ a3 a4 a5 _ a7 => wpAny_pure (go h' a1 a3 a4 a5 a7)) (F.args_zip_next_1 _))))
theorem zipx_pyHeld {Q : Option Value → Shared → Prop} (D : ZipApart z TI TO i1 i2 l1 l2) (N1 : Nxt prog w i1 l1 st1 xs) (N2 : Nxt prog w i2 l2 st2 ys) (hz : IsZipHeld s.heap z TI TO T f) (hT : s.heap.get? T = some oT) (hI : IsPair s.heap TI (.ref i1) (.ref i2)) (q1 : st1 s.heap k1) (q2 : st2 s.heap k2) (ex : xs[k1]? = some x) (ey : ys[k2]? = some y)
    (go : ∀ h', IsZipHeld h' z TI TO T true → st1 h' (k1 + 1) → st2 h' (k2 + 1) → IsPair h' s.heap.objs.size x y → (∀ c o, c ≠ z → c ≠ i1 → c ≠ i2 → s.heap.get? c = some o → h'.get? c = some o) → Q (some (.ref s.heap.objs.size)) { s with heap := h' }) : wpAny (model prog w) A (pyNext (.ref z)) Q E s := by
  have ty : s.TypeIs (.ref z) "zip" := ⟨_, hz, rfl⟩
  unfold pyNext; exact wpAny_bind (wpAny_attempt (wpAny_callSpecial?_slot (name := Str.ofString "__next__") ty F.slot_zip_next (wpAny_call_entry F.slot_zip_next ty F.entry_zip_next (zipx_held D N1 N2 hz hT hI q1 q2 ex ey fun h' a1 a3 a4 a5 _ a7 => wpAny_pure (go h' a1 a3 a4 a5 a7)) (F.args_zip_next_1 _))))
theorem zipx_pyEnd {Q : Option Value → Shared → Prop} (hh : A.handled = none) (D : ZipApart z TI TO i1 i2 l1 l2) (N1 : Nxt prog w i1 l1 st1 xs) (N2 : Nxt prog w i2 l2 st2 ys) (hz : IsZip s.heap z TI TO .none) (hI : IsPair s.heap TI (.ref i1) (.ref i2)) (hO : IsPair s.heap TO a b) (q1 : st1 s.heap k1) (q2 : st2 s.heap k2) (none_ : xs[k1]? = none ∨ ys[k2]? = none)
    (go : ∀ h', (∀ c o, c ≠ z → c ≠ TO → c ≠ i1 → c ≠ i2 → s.heap.get? c = some o → h'.get? c = some o) → Q none { s with heap := h' }) : wpAny (model prog w) A (pyNext (.ref z)) Q E s := by
  have ty : s.TypeIs (.ref z) "zip" := ⟨_, hz, rfl⟩
  unfold pyNext; refine wpAny_bind (wpAny_attempt (wpAny_callSpecial?_slot (name := Str.ofString "__next__") ty F.slot_zip_next (wpAny_call_entry F.slot_zip_next ty F.entry_zip_next (zipx_end hh D N1 N2 hz hI hO q1 q2 none_ fun h' e kp ⟨o, e1, e2⟩ => ?_) (F.args_zip_next_1 _))))
  exact wpAny_bind (wpAny_isInstance (T := "StopIteration") (b := true) ⟨o, e1, e2⟩ isSubtype_stop (wpAny_pure (go _ kp)))
theorem zipx_pyEndHeld {Q : Option Value → Shared → Prop} (hh : A.handled = none) (D : ZipApart z TI TO i1 i2 l1 l2) (N1 : Nxt prog w i1 l1 st1 xs) (N2 : Nxt prog w i2 l2 st2 ys) (hz : IsZipHeld s.heap z TI TO T f) (hT : s.heap.get? T = some oT) (hI : IsPair s.heap TI (.ref i1) (.ref i2)) (q1 : st1 s.heap k1) (q2 : st2 s.heap k2) (none_ : xs[k1]? = none ∨ ys[k2]? = none)
    (go : ∀ h', (∀ c o, c ≠ z → c ≠ i1 → c ≠ i2 → s.heap.get? c = some o → h'.get? c = some o) → Q none { s with heap := h' }) : wpAny (model prog w) A (pyNext (.ref z)) Q E s := by
  have ty : s.TypeIs (.ref z) "zip" := ⟨_, hz, rfl⟩
  unfold pyNext; refine wpAny_bind (wpAny_attempt (wpAny_callSpecial?_slot (name := Str.ofString "__next__") ty F.slot_zip_next (wpAny_call_entry F.slot_zip_next ty F.entry_zip_next (zipx_endHeld hh D N1 N2 hz hT hI q1 q2 none_ fun h' e kp ⟨o, e1, e2⟩ => ?_) (F.args_zip_next_1 _))))
  exact wpAny_bind (wpAny_isInstance (T := "StopIteration") (b := true) ⟨o, e1, e2⟩ isSubtype_stop (wpAny_pure (go _ kp)))
/-- a zip as what dict() takes -/
theorem zipx_arg (D : ZipApart z TI TO i1 i2 l1 l2) (N1 : Nxt prog w i1 l1 st1 xs) (N2 : Nxt prog w i2 l2 st2 ys) : PairArg prog w "zip" z [z, TI, TO, i1, i2, l1, l2] [z, TO, i1, i2] (min xs.size ys.size) (fun i k v => xs[i]? = some k ∧ ys[i]? = some v)
    (fun h => IsZip h z TI TO .none ∧ IsPair h TI (.ref i1) (.ref i2) ∧ (∃ a b, IsPair h TO a b) ∧ st1 h 0 ∧ st2 h 0) where
  type := fun s ok => ⟨_, ok.1, rfl⟩
  notDict := by decide
  keep := fun h h' ⟨c1, c2, ⟨a, b, c3⟩, c4, c5⟩ hk => ⟨hk _ _ c1, hk _ _ c2, ⟨a, b, hk _ _ c3⟩, N1.keep c4 (fun o e => hk _ o e) (fun o e => hk _ o e), N2.keep c5 (fun o e => hk _ o e) fun o e => hk _ o e⟩
  there := fun h ⟨c1, c2, ⟨a, b, c3⟩, c4, c5⟩ y hy => by
    obtain ⟨d1, d2⟩ := N1.here c4
    obtain ⟨d3, d4⟩ := N2.here c5
    simp only [List.mem_cons, List.not_mem_nil, or_false] at hy
    rcases hy with rfl | rfl | rfl | rfl | rfl | rfl | rfl <;> first | exact ⟨_, c1⟩ | exact ⟨_, c2⟩ | exact ⟨_, c3⟩ | exact d1 | exact d2 | exact d3 | exact d4
  sub := fun y hy => by simp at hy ⊢; rcases hy with rfl | rfl | rfl | rfl <;> simp
  noKeys := fun A s Q E hA ok go => getAttrOr_miss_zip ok.1 rfl rfl rfl zip_no_keys (by decide +kernel) hA go
  iter := fun A s d Q E hA ⟨c1, c2, ⟨a, b, c3⟩, c4, c5⟩ hd hdf go => by
    simp only [List.mem_cons, List.not_mem_nil, or_false, not_or] at hdf
    obtain ⟨e1, e2, e3, e4, e5, e6, e7⟩ := hdf
    refine wpAny_pyIter_zip c1 (go z [z, TO, i1, i2] (fun i h => IsPair h TI (.ref i1) (.ref i2) ∧ st1 h i ∧ st2 h i ∧ ((IsZip h z TI TO .none ∧ ∃ a b, IsPair h TO a b) ∨ ∃ T f oT, IsZipHeld h z TI TO T f ∧ h.get? T = some oT ∧ T ≠ z ∧ T ≠ i1 ∧ T ≠ i2 ∧ T ≠ d)) s.heap s.toks ?_ ⟨c2, c4, c5, .inl ⟨c1, a, b, c3⟩⟩ (fun _ _ e => e) fun y hy => .inl hy)
    exact {
      off := fun m => by
        simp only [List.mem_cons, List.not_mem_nil, or_false] at m
        rcases m with q | q | q | q
        · exact e1 q
        · exact e3 q
        · exact e4 q
        · exact e5 q
      frame := fun i g g' ⟨f1, f2, f3, f4⟩ hk => by
        refine ⟨hk _ _ (Ne.symm e2) f1, N1.keep f2 (fun o e => hk _ o (Ne.symm e4) e) (fun o e => hk _ o (Ne.symm e6) e), N2.keep f3 (fun o e => hk _ o (Ne.symm e5) e) (fun o e => hk _ o (Ne.symm e7) e), ?_⟩
        rcases f4 with ⟨f5, a, b, f6⟩ | ⟨T, f, oT, f5, f6, r1, r2, r3, r4⟩
        · exact .inl ⟨hk _ _ (Ne.symm e1) f5, a, b, hk _ _ (Ne.symm e3) f6⟩
        · exact .inr ⟨T, f, oT, hk _ _ (Ne.symm e1) f5, hk _ _ r4 f6, r1, r2, r3, r4⟩
      item := fun i t Q' E' hi ⟨f1, f2, f3, f4⟩ hds hQ => by
        have ex := Array.getElem?_eq_getElem (Nat.lt_of_lt_of_le hi (Nat.min_le_left ..))
        have ey := Array.getElem?_eq_getElem (Nat.lt_of_lt_of_le hi (Nat.min_le_right ..))
        have lt : ∀ {c o}, t.heap.get? c = some o → t.heap.objs.size ≠ c := fun e => Nat.ne_of_gt (Heap.lt_size e)
        have n1 : t.heap.objs.size ≠ i1 := let ⟨_, e⟩ := (N1.here f2).1; lt e
        have n2 : t.heap.objs.size ≠ i2 := let ⟨_, e⟩ := (N2.here f3).1; lt e
        rcases f4 with ⟨f5, a, b, f6⟩ | ⟨T, f, oT, f5, f6, r1, r2, r3, r4⟩
        · refine zipx_pyItem D N1 N2 f5 f1 f6 f2 f3 ex ey fun g a1 a3 a4 a5 hk => hQ t.heap.objs.size _ _ g t.toks ⟨ex, ey⟩ (.inl ⟨_, a5, rfl, _, rfl⟩) ⟨hk _ _ D.TIz D.TITO D.TIi1 D.TIi2 f1, a3, a4, .inr ⟨t.heap.objs.size, false, _, a1, a5, lt f5, n1, n2, Nat.ne_of_gt hds⟩⟩ ?_
          exact fun c o hc e => hk c o (fun q => hc (by simp [q])) (fun q => hc (by simp [q])) (fun q => hc (by simp [q])) (fun q => hc (by simp [q])) e
        · refine zipx_pyHeld D N1 N2 f5 f6 f1 f2 f3 ex ey fun g a1 a3 a4 a5 hk => hQ t.heap.objs.size _ _ g t.toks ⟨ex, ey⟩ (.inl ⟨_, a5, rfl, _, rfl⟩) ⟨hk _ _ D.TIz D.TIi1 D.TIi2 f1, a3, a4, .inr ⟨T, true, oT, a1, hk _ _ r1 r2 r3 f6, r1, r2, r3, r4⟩⟩ ?_
          exact fun c o hc e => hk c o (fun q => hc (by simp [q])) (fun q => hc (by simp [q])) (fun q => hc (by simp [q])) e
      done := fun t Q' E' ⟨f1, f2, f3, f4⟩ hQ => by
        have hend : xs[min xs.size ys.size]? = none ∨ ys[min xs.size ys.size]? = none := by
          rcases Nat.le_total xs.size ys.size with q | q
          · exact .inl (Array.getElem?_eq_none (by rw [Nat.min_eq_left q]; exact Nat.le_refl _))
          · exact .inr (Array.getElem?_eq_none (by rw [Nat.min_eq_right q]; exact Nat.le_refl _))
        rcases f4 with ⟨f5, a, b, f6⟩ | ⟨T, f, oT, f5, f6, r1, r2, r3, r4⟩
        · exact zipx_pyEnd hA D N1 N2 f5 f1 f6 f2 f3 hend fun g hk => hQ g t.toks fun c o hc e => hk c o (fun q => hc (by simp [q])) (fun q => hc (by simp [q])) (fun q => hc (by simp [q])) (fun q => hc (by simp [q])) e
        · exact zipx_pyEndHeld hA D N1 N2 f5 f6 f1 f2 f3 hend fun g hk => hQ g t.toks fun c o hc e => hk c o (fun q => hc (by simp [q])) (fun q => hc (by simp [q])) (fun q => hc (by simp [q])) e }
end
end
section
abbrev zg1 (h : Heap) (l1 : Addr) : Heap := h.push { cls := .type "list_iterator", data := .fields #[.ref l1, .int 0 0] }
abbrev zg2 (h : Heap) (l1 l2 : Addr) : Heap := (zg1 h l1).push { cls := .type "tuple_iterator", data := .fields #[.ref l2, .int 0 0] }
abbrev zg3 (h : Heap) (l1 l2 : Addr) : Heap := (zg2 h l1 l2).push { cls := .type "tuple", data := .seq #[.ref h.objs.size, .ref (zg1 h l1).objs.size] }
abbrev zg4 (h : Heap) (l1 l2 : Addr) : Heap := (zg3 h l1 l2).push { cls := .type "tuple", data := .seq #[.none, .none] }
abbrev zg5 (h : Heap) (l1 l2 : Addr) : Heap := (zg4 h l1 l2).push { cls := .type "zip", data := .fields #[.none, .bool false, .bool false, .ref (zg2 h l1 l2).objs.size, .ref (zg3 h l1 l2).objs.size] }
theorem meets_zipLT (l1 l2 : Addr) (xs ys : Array Value) :
    Meets (Builtin.«zip.__new__» ⟨[.type "zip", .ref l1, .ref l2], []⟩) (fun _ R s => s.heap.IsList l1 xs ∧ s.heap.IsTuple l2 ys ∧ R (.ok (.ret (.ref (zg4 s.heap l1 l2).objs.size))) { s with heap := zg5 s.heap l1 l2 }) :=
  .of_wp fun prog w A R s h => by
    obtain ⟨hp, g, d, tk, os⟩ := s; obtain ⟨hl1, hl2, h⟩ := h
    have hsub := sub_zip
    have hL1 : Heap.IsList (Shared.heap ⟨hp, g, d, tk, os⟩) l1 xs := hl1
    have hL2 : Heap.IsTuple (Shared.heap ⟨hp.push { cls := .type "list_iterator", data := .fields #[.ref l1, .int 0 0] }, g, d, tk, os⟩) l2 ys := Heap.IsTuple.push hl2 _
    wp_walk using wpAny_pyIter_list hL1, wpAny_pyIter_tuple hL2
    exact ⟨_, rfl, h⟩
variable {prog : Program} {w : World} {A : Around} {E : Value → Shared → Prop} {s : Shared}
theorem call_zipLT {l1 l2 : Addr} {xs ys : Array Value} {Q : Value → Shared → Prop} (hl1 : s.heap.IsList l1 xs) (hl2 : s.heap.IsTuple l2 ys)
    (go : ∀ h', IsZip h' (s.heap.objs.size + 4) (s.heap.objs.size + 2) (s.heap.objs.size + 3) .none → IsPair h' (s.heap.objs.size + 2) (.ref s.heap.objs.size) (.ref (s.heap.objs.size + 1)) → IsPair h' (s.heap.objs.size + 3) .none .none → h'.IsListIter s.heap.objs.size l1 0 → h'.IsTupleIter (s.heap.objs.size + 1) l2 0 → h'.objs.size = s.heap.objs.size + 5 →
      (∀ c o, s.heap.get? c = some o → h'.get? c = some o) → Q (.ref (s.heap.objs.size + 4)) { s with heap := h' }) : wpAny (model prog w) A (call (.type "zip") [.ref l1, .ref l2]) Q E s := by
  refine callType_new F.called_zip (by decide) (F.typeCall_zip_2 _ _) (F.newCall_zip_2 _ _) (fun obj => F.args_object_init_3 obj _ _) F.entry_zip_new (meets_zipLT l1 l2 xs ys) ⟨hl1, hl2, ?_⟩
  have z1 : (zg1 s.heap l1).objs.size = s.heap.objs.size + 1 := Heap.size_push ..
  have z2 : (zg2 s.heap l1 l2).objs.size = s.heap.objs.size + 2 := by rw [Heap.size_push, z1]
  have z3 : (zg3 s.heap l1 l2).objs.size = s.heap.objs.size + 3 := by rw [Heap.size_push, z2]
  have z4 : (zg4 s.heap l1 l2).objs.size = s.heap.objs.size + 4 := by rw [Heap.size_push, z3]
  have z5 : (zg5 s.heap l1 l2).objs.size = s.heap.objs.size + 5 := by rw [Heap.size_push, z4]
  have up : ∀ {h : Heap} {c : Addr} {o u : Obj}, h.get? c = some o → (h.push u).get? c = some o := fun e => Heap.get?_push_of_some _ e
  have g5 : (zg5 s.heap l1 l2).get? (zg4 s.heap l1 l2).objs.size = some _ := Heap.get?_push_size _ rfl
  have g4 : (zg5 s.heap l1 l2).get? (zg3 s.heap l1 l2).objs.size = some _ := up (Heap.get?_push_size _ rfl)
  have g3 : (zg5 s.heap l1 l2).get? (zg2 s.heap l1 l2).objs.size = some _ := up (up (Heap.get?_push_size _ rfl))
  have g2 : (zg5 s.heap l1 l2).get? (zg1 s.heap l1).objs.size = some _ := up (up (up (Heap.get?_push_size _ rfl)))
  have g1 : (zg5 s.heap l1 l2).get? s.heap.objs.size = some _ := up (up (up (up (Heap.get?_push_size _ rfl))))
  show _ ∧ _; rw [z2, z3, z4] at g5; rw [z1, z2] at g3; rw [z3] at g4; rw [z1] at g2; rw [z4]
  exact ⟨⟨_, g5, rfl⟩, go _ g5 g3 g4 ⟨_, g1, rfl, rfl⟩ ⟨_, g2, rfl, rfl⟩ z5 fun c o x => up (up (up (up (up x))))⟩
end
section
open PySem.Spec PyProof.Rows L2
def tDictZip (K : PySem.W.Frag) (ta : TA) : TE := fun σ H Q => ta σ H fun vs H1 => ∃ (a b : Addr) (xs : List Str) (ys : List V), vs = [.ref a, .ref b] ∧ SqL K H1 a (xs.map V.str) ∧ SqT K H1 b ys ∧ xs.length = ys.length ∧
  ∀ p, H1 p = none → Q (.ref p) (upd H1 p (.dK (mergeK [] ((xs.map (Sum.inr : Str → Key)).zip ys))))
/-- the keys and values, as the machine holds them -/
theorem zipV (P : Program) (w : World) : ∀ {xs : List Str} {ys : List V} {us zs : List Value}, Vals (xs.map V.str) us → Vals ys zs → xs.length = ys.length → KV ((xs.map (Sum.inr : Str → Key)).zip ys) ((xs.map (Sum.inr : Str → Key)).zip zs) ∧ us.length = xs.length ∧ zs.length = xs.length ∧ ∀ (i : Nat) (k v : Value), us[i]? = some k ∧ zs[i]? = some v → ∃ x : Key, ((xs.map (Sum.inr : Str → Key)).zip zs)[i]? = some (x, v) ∧ keyIs x k = true
  | [], [], _, _, .nil, .nil, _ => ⟨.nil, rfl, rfl, fun i k v h => by simp at h⟩
  | x :: xs, y :: ys, _, _, .cons r1 t1, .cons r2 t2, h => by
    obtain ⟨a1, a2, a3, a4⟩ := zipV P w t1 t2 (Nat.succ.inj h)
    refine ⟨.cons ⟨rfl, r2⟩ a1, by rw [List.length_cons, List.length_cons, a2], by rw [List.length_cons, List.length_cons, a3], fun i k v e => ?_⟩
    cases i with
    | zero =>
      obtain ⟨e1, e2⟩ := e
      cases Option.some.inj e1
      cases Option.some.inj e2
      exact ⟨.inr x, rfl, kV_is (P := P) (w := w) (k := Sum.inr x) r1⟩
    | succ i => exact a4 i k v (by simpa using e)
theorem pe_dictZip {X : Cx} {e e2 : Expr} {ta : TA} {p p2 q pos : Pos} (hc : X.calm = true) (hg : Gl X "dict") (hm : X.mg "dict" = none) (hg2 : Gl X "zip") (hm2 : X.mg "zip" = none) (bd : bootBuiltins "dict" = some (.type "dict")) (ha : PA X [e, e2] ta)
    (hs : starEach [e, e2] X.env = (false, eval e X.env) :: starEach [e2] X.env := by rfl) (hpl : (backTo q (starEach [e2] X.env)).any (·.1) = false := by rfl) (hs2 : starEach [.Call (.Name "zip" p2) [e, e2] [] q] X.env = (false, eval (.Call (.Name "zip" p2) [e, e2] [] q) X.env) :: starEach [] X.env := by rfl) :
    PE X (.Call (.Name "dict" p) [.Call (.Name "zip" p2) [e, e2] [] q] [] pos) (tDictZip X.K ta) := by
  refine ⟨fun pins s σ H Q I h => ?_⟩
  refine Call_ (ld_blt I hg hm bd (PyProof.Rows.callWith_type1 (PyProof.Rows.args_cons ?_ hs2) hs2 rfl))
  refine Call_ (ld_blt I hg2 hm2 PyProof.Rows.boot_zip (PyProof.Rows.callWith_type1 (thn (ha.run q pins s σ H _ I h) fun us s1 ⟨vs, H1, I1, r1, q1⟩ => ?_) hs hpl))
  obtain ⟨a, b, xs, ys, rfl, qa, qb, len, go⟩ := q1
  obtain ⟨u1, u2, rfl, ra, rb⟩ := vals2 r1
  cases ra
  cases rb
  obtain ⟨its, rv, p1, z1⟩ := I1.list qa
  obtain ⟨its2, rv2, p2', z2⟩ := I1.tuple qb
  obtain ⟨o2, ho2, _⟩ := id p2'
  obtain ⟨kv, l1, l2, ks⟩ := zipV X.prog X.w rv rv2 len
  have ap := PySem.W.ktu_apart s1.heap.objs.size a b p1.lt (Heap.lt_size ho2)
  refine call_zipLT p1.isList (show s1.heap.IsTuple b its2.toArray from p2') fun h' c1 c2 c3 c4 c5 sz hk => ?_
  refine PyProof.Rows.args_nil ?_
  have I2 : Inv X pins σ H1 { s1 with heap := h' } := I1.kept (t' := s1.toks) hk
  have fr : ∀ i, H1 (s1.heap.objs.size + i) = none := fun i => I1.hok.fresh (Nat.le_add_right _ _)
  refine PySem.call_dict_pairs (knd := mixKind X.prog X.w) (kvs := (xs.map (Sum.inr : Str → Key)).zip its2) (zipx_arg ap (nxt_list s1.heap.objs.size a its.toArray) (nxt_tup (s1.heap.objs.size + 1) b its2.toArray)) (I2.ok.hd hc) ⟨c1, c2, ⟨_, _, c3⟩, ⟨c4, p1.isList.at fun o e => hk _ o e, Ne.symm ap.l1i1⟩, ⟨c5, Heap.IsTuple.at (show s1.heap.IsTuple b its2.toArray from p2') fun o e => hk _ o e, Ne.symm ap.l2i2⟩⟩ ⟨?_, fun i k v e => ?_⟩ ?_ fun g tk hd' k => ?_
  · simp [l1, l2]
  · exact ks i k v (by simpa using e)
  · rw [List.size_toArray, List.size_toArray, l1, l2, Nat.min_self]
    rw [List.length_map] at z1
    exact z1
  have hm : ((h'.objs.size : Addr) == sysModules) = false := beq_eq_false_iff_ne.mpr (Nat.ne_of_gt I2.big)
  have lm : (mergeK [] ((xs.map (Sum.inr : Str → Key)).zip ys)).length ≤ sizeLine := by
    refine Nat.le_trans (length_mergeK _ []) ?_
    rw [List.length_nil, Nat.zero_add, List.length_zip, List.length_map, ← len, Nat.min_self]
    rw [List.length_map] at z1
    exact z1
  have I3 : Inv X pins σ (upd H1 h'.objs.size (.dK (mergeK [] ((xs.map (Sum.inr : Str → Key)).zip ys)))) { s1 with heap := g, toks := tk } := by
    exact I1.laid (t' := tk) (fun b o e => k b o (fun z => by
      have l := Heap.lt_size e
      simp only [List.mem_cons, List.not_mem_nil, or_false] at z
      rcases z with z | z | z | z <;> (rw [z] at l; exact absurd l (Nat.not_lt.mpr (by first | exact Nat.le_refl _ | exact Nat.le_add_right _ _)))) (hk b o e)) (by rw [sz]; exact Nat.le_add_right _ _) (show ObjOk X.prog X.w _ _ _ (.dK (mergeK [] ((xs.map (Sum.inr : Str → Key)).zip ys))) from ⟨lm, hm, merged [] ((xs.map (Sum.inr : Str → Key)).zip its2), KV.merge kv .nil, hd'⟩)
  exact ⟨.ref h'.objs.size, _, I3, rfl, go _ (by rw [sz]; exact fr 5)⟩
end
end Vk
set_option maxHeartbeats 8000000
/-! a whole course by lengths -/
namespace Vk
open PySem PySem.Spec PyProof.Rows L2 GxR
section
variable {P : Program} {w : World} {K : PySem.W.Frag} {mg : Str → Option Value} {base : Heap} {CC CB : Addr}
/-- lengths that are right -/
def spLens0 (K : PySem.W.Frag) : Sp := fun vs H Q _ => ∃ (v : V) (ls : List Int), vs = [v, .int (ls.length : Nat)] ∧ Dp K H v (.tuple (ls.map PyData.int)) ∧ ls.length ≤ 1000 ∧ (∀ l ∈ ls, 1 ≤ l) ∧ ∀ H', Same H H' → Q .non H'
theorem scLens0 : FnScope ["lengths", "many", "place", "length"] ["lengths", "many"] (defScope sCheckLens) := ⟨rfl, rfl, rfl, by decide +kernel, rfl, by decide +kernel, by decide +kernel⟩
theorem ok_lens0 (D : Df K mg "check_lengths" sCheckLens ["lengths", "many"]) (B : Blt mg) (IN : Cl P w K mg base CX0 1 "is_integer" ["value", "least"] (spInteger K)) : Cl P w K mg base CX0 2 "check_lengths" ["lengths", "many"] (spLens0 K) := by
  refine cl0 D scLens0 (fun vs H Q E h => ?_) (fun f cdv A outer s H vs Q E hr h => ?_)
  · obtain ⟨v, ls, rfl, _⟩ := h
    rfl
  · obtain ⟨v, ls, rfl, dv, l1000, one, k⟩ := h
    refine ⟨_, pss_cons (ps_if (pt_not (pt_val (pe_callB call_isi (by rfl) B.isi (by decide +kernel) (pa_cons (pv 0) (pa_cons (pe_bltn (v := .ty "tuple") (u := .type "tuple") (by rfl) B.tuple (by decide +kernel) rfl) pa_nil))))) (pss_one ps_never) pss_nil)
      (pss_cons (ps_for PassesOwn.never rfl (pi_enumT B.enum (pa_cons (pv 0) pa_nil)) (pg_tup rfl (pgs_cons (pg_name (i := 2) scLens0.nd rfl (.inl rfl)) (pgs_cons (pg_name (i := 3) scLens0.nd rfl (.inl rfl)) pgs_nil)))
        (pss_one (ps_if (PW.pt (pw_or (pt_cmpR op_ge (pv 2) (pv 1) (nomark _)) (pw_or1 (pt_not (pt_val (pc IN hr (by decide) (pa_cons (pv 3) (pa_cons pe_int pa_nil)))))))) (pss_one ps_never) pss_nil)))
      (pss_one (ps_if (pt_cmpR op_lt (pe_callB call_len_seq (by rfl) B.len PySem.boot_len (pa_cons (pv 0) pa_nil)) (pv 1) (nomark _)) (pss_one ps_never) pss_nil))), ?_⟩
    obtain ⟨pj, xs, rfl, qj, rj⟩ := dp_tuple dv
    have xl := dps_len rj
    rw [List.length_map] at xl
    refine ⟨_, rfl, .ref pj, _, _, _, _, rfl, .ty "tuple", dp_ty dv, kit_tup dv, _, rfl, ?_⟩
    refine iteF ?_
    refine ⟨_, rfl, pj, xs, rfl, qj, for_it (D := { nx := _, rt := _ }) (walk_enumT (K := K) (a := pj) (xs := xs)) (fun i σ H' => ∃ (u2 u3 : Option V), σ = [some (.ref pj), some (.int (ls.length : Nat)), u2, u3] ∧ Same H H')
      ⟨none, none, rfl, Same.refl _⟩ (fun i σ H' _ ⟨_, _, _, s1⟩ => same_seqT s1 qj) ?_ ?_⟩
    · rintro i v1 σ H1 H2 hi ⟨u2, u3, rfl, s1⟩ ⟨TT, x1, y1, rfl, nT, rfl, ex, ey⟩
      cases ex
      obtain ⟨d1, hd1, dp1⟩ := dps_getV rj ey
      rw [List.getElem?_map] at hd1
      obtain ⟨n, hn, rfl⟩ := Option.map_eq_some_iff.mp hd1
      have s2 := s1.trans (same_new (o := .tup [V.int (i : Nat), y1]) nT)
      refine ⟨TT, _, rfl, SqT.of upd_same, rfl, _, _, rfl, _, _, rfl, rfl, ?_⟩
      have n1 := one n (List.mem_of_getElem? hn)
      have en := dp_int dp1
      subst en
      refine ⟨_, rfl, _, rfl, _, _, rfl, rfl, _, rfl, ?_⟩
      rw [decide_eq_false (by have := hi; omega)]
      refine iteF ?_
      refine ⟨_, rfl, .int n, .int n, 1, rfl, .int n, _, rfl, ?_⟩
      rw [show integerD 1 (.int n) = true from decide_eq_true n1]
      refine iteF ?_
      exact ⟨_, _, rfl, s2⟩
    · rintro σ H1 ⟨u2, u3, rfl, s1⟩
      refine ⟨_, rfl, pj, xs, rfl, .inr (same_seqT s1 qj), _, rfl, _, _, rfl, rfl, _, rfl, ?_⟩
      rw [decide_eq_false (by rw [xl]; omega)]
      exact iteF (k _ s1)
structure CoNew (P : Program) (w : World) (K : PySem.W.Frag) (mg : Str → Option Value) (base : Heap) (CC CB : Addr) : Prop where
  g : mg "Course" = some (.ref CC)
  ex : ∃ fI fd, Mk K CC fI ∧ Binds K fd ["self", "jobs", "rule", "processors"] [] ∧ FnOk P w K mg base CX0 3 fI fd ["self", "jobs", "rule", "processors"] (spCInit K CC CB)
theorem mergeK_nd : ∀ {l acc : List (Str × Int)}, ((acc ++ l).map (·.1)).Nodup → mergeK (kvS acc) (kvS l) = kvS (acc ++ l)
  | [], acc, _ => by rw [List.append_nil]; rfl
  | p :: l, acc, nd => by
    have nd2 : ((acc ++ [p] ++ l).map (·.1)).Nodup := by rw [List.append_assoc]; exact nd
    have nx : p.1 ∉ acc.map (·.1) := fun h => by
      rw [List.map_append] at nd
      exact (List.nodup_append.mp nd).2.2 _ h p.1 (List.mem_cons_self ..) rfl
    show mergeK (putK (kvS acc) (Sum.inr p.1) (V.int p.2)) (kvS l) = _
    rw [putK_new_S nx, mergeK_nd nd2, List.append_assoc]
    rfl
/-- the dictionary of the lengths -/
def needS (nd : Str → Int) (J : List Jd) : List (Str × Int) := J.map fun j => (j.n, nd j.n)
theorem need_zip {nd : Str → Int} : ∀ {J : List Jd}, ((J.map (·.n)).map (Sum.inr : Str → Key)).zip ((J.map fun j => nd j.n).map V.int) = kvS (needS nd J)
  | [] => rfl
  | j :: J => congrArg _ (need_zip (J := J))
theorem need_get {nd : Str → Int} {J : List Jd} {x : Str} (h : x ∈ J.map (·.n)) : (needS nd J).lookup x = some (nd x) := by
  induction J with
  | nil => cases h
  | cons j J ih =>
    show ((j.n, nd j.n) :: needS nd J).lookup x = _
    rw [List.lookup_cons]
    by_cases e : x = j.n
    · rw [e, beq_self_eq_true]
    · rw [show (x == j.n) = false from beq_eq_false_iff_ne.mpr e]
      exact ih ((List.mem_cons.mp h).resolve_left e)
abbrev NBL : List Str := ["jobs", "lengths", "rule", "processors", "course", "board", "needed", "left", "units", "job", "name"]
/-- the running jobs, unit by unit -/
def Cs.names (r : Rl) (c : Int) (nd : Str → Int) (C : Cs) (k : Nat) : List Str := (C.at r c nd k).s.run c
/-- a whole course -/
structure Whole1 (CC CB : Addr) (K : PySem.W.Frag) (H : Hp) (a : Addr) (rv : V) (c : Int) (N : CoA) (r : Rl) (nd : Str → Int) (J : List Jd) (T : Nat) (ps : List Pc) : Prop where
  at_ : CoAt CC CB K H a rv c N ((Cs.zero r J).at r c nd T) r ps
  don : ((Cs.zero r J).at r c nd T).s.done = (J.length : Nat)
  first : ∀ k < T, ((Cs.zero r J).at r c nd k).s.done ≠ (J.length : Nat)
  join : joinP ps = segU (fun a b => decide (a = b)) ((Cs.zero r J).names r c nd) T
  small : ps.length ≤ 1000000
  ok : ∀ p ∈ ps, ∀ x ∈ p.2.2, PyData.strOk x = true
def spByLens (K : PySem.W.Frag) (CC CB : Addr) : Sp := fun vs H Q _ => ∃ (jv lv rv : V) (c : Int) (r : Rl) (nd : Str → Int) (J : List Jd), vs = [jv, lv, rv, .int c] ∧ Dp K H jv (.tuple (J.map jdD)) ∧ Dp K H lv (.tuple ((J.map fun j => nd j.n).map PyData.int)) ∧ Dp K H rv (bRulD r) ∧ r.Ok ∧ 1 ≤ c ∧ JOk nd J ∧ JName J ∧ (J.map fun j => nd j.n).sum ≤ 900000 ∧
  ∀ (a : Addr) (N : CoA) (T : Nat) (ps : List Pc) (H' : Hp), Whole1 CC CB K H' a rv c N r nd J T ps → (∀ z ∈ ftC a N, H z = none) → Same H (OffL (ftC a N) H') → Q (.ref a) H'
theorem scByLens : FnScope NBL ["jobs", "lengths", "rule", "processors"] (defScope sByLens) := ⟨rfl, rfl, rfl, by decide +kernel, rfl, by decide +kernel, by decide +kernel⟩
theorem ok_byLens (D : Df K mg "course_by_lengths" sByLens ["jobs", "lengths", "rule", "processors"]) (B : Blt mg) (mD : mg "dict" = none) (mZ : mg "zip" = none) (mM : mg "min" = none) (TC : CoC K CC) (TB : BdC K CB) (NC : CoNew P w K mg base CC CB) (MF : MCl P w K mg base CX0 1 CB "many_finished" ["self"] (spMany K CB)) (RU : MCl P w K mg base CX0 2 CB "running" ["self"] (spRun K CB))
    (CE : MCl P w K mg base CX0 4 CC "ends" ["self"] (spCEnds K CC CB)) (GO : MCl P w K mg base CX0 4 CC "go_on" ["self", "units", "finishing"] (spGoOn K CC CB)) : Cl P w K mg base CX0 5 "course_by_lengths" ["jobs", "lengths", "rule", "processors"] (spByLens K CC CB) := by
  refine cl0 D scByLens (fun vs H Q E h => ?_) (fun f cdv A outer s H vs Q E hr h => ?_)
  · obtain ⟨jv, lv, rv, c, r, nd, J, rfl, _⟩ := h
    rfl
  · obtain ⟨jv, lv, rv, c, r, nd, J, rfl, dj, dl, dr, rok, c1, jok, jn, sum, k⟩ := h
    obtain ⟨fI, fdI, MI, bI, FI⟩ := NC.ex
    obtain ⟨fM, fdM, MM, bM, FM⟩ := MF.ex
    obtain ⟨fR, fdR, MR, bR, FR⟩ := RU.ex
    obtain ⟨fE, fdE, ME, bE, FE⟩ := CE.ex
    obtain ⟨fG, fdG, MG, bG, FG⟩ := GO.ex
    refine ⟨_, pss_cons (ps_set (i := 4) scByLens.nd rfl (Or.inl rfl) (pe_make MI FI (hr.mono (by decide)) rfl NC.g bI .nil pass0 (pa_cons (pv 0) (pa_cons (pv 2) (pa_cons (pv 3) pa_nil)))))
      (pss_cons (ps_set (i := 5) scByLens.nd rfl (Or.inr rfl) (pe_fld (pv 4) rfl))
      (pss_cons (ps_set (i := 6) scByLens.nd rfl (Or.inr rfl) (pe_dictZip rfl rfl mD rfl mZ (by decide +kernel) (pa_cons (pe_lc (own := [("job", 9)]) (g := gName 9) (tt := tYes) (te := tOp (rIxT K) (tVar 9) (tC (.int 0))) (by rfl) scByLens.nd (pi_tup (pv 0)) (blkOk_by (own := [("job", 9)]) (N := NBL) (sc := defScope sByLens) (by decide +kernel))
          (fun _ _ _ _ _ => pg_name (i := 9) scByLens.nd rfl (Or.inl rfl)) (fun _ _ _ _ _ => pts_nil) (fun _ _ _ _ _ => pe_ix ix_tup (pv 9) pe_int (fun _ _ => rfl))) (pa_cons (pv 1) pa_nil))))
      (pss_cons (ps_while PassesOwn.never (pt_cmpR op_lt (pe_meth0 (pv 5) TB.cl MM FM (hr.mono (by decide)) bM .nil pass0) (pe_callB call_len_seq (by rfl) B.len PySem.boot_len (pa_cons (pv 0) pa_nil)) (nomark _))
        (pss_cons (ps_set (i := 7) scByLens.nd rfl (Or.inr rfl) (pe_dc (own := [("name", 10)]) (g := gName 10) (tt := tYes) (tk := tVar 10) (tv := tOp (rI0 fun i j => .int (i - j)) (tDGet (tVar 6) (tVar 10)) (tDGet (tFld K (tVar 5) "ran") (tVar 10))) (by rfl) scByLens.nd (pi_tup (pe_meth0 (pv 5) TB.cl MR FR (hr.mono (by decide)) bR .nil pass0)) (blkOk_by (own := [("name", 10)]) (N := NBL) (sc := defScope sByLens) (by decide +kernel))
            (fun _ _ _ _ _ => pg_name (i := 10) scByLens.nd rfl (Or.inl rfl)) (fun _ _ _ _ _ => pts_nil) (fun _ _ _ _ _ => pv 10) (fun _ _ _ _ _ => pe_op op_sub (pe_dget (hu_of hr) (pv 6) (pv 10) (fun _ _ => rfl)) (pe_dget (hu_of hr) (pe_fld (pv 5) rfl) (pv 10) (fun _ _ => rfl)))))
        (pss_cons (ps_set (i := 8) scByLens.nd rfl (Or.inr rfl) (pe_callB (cr_min rfl) (by rfl) mM (by decide +kernel) (pa_cons (pe_op op_cat (pe_meth0 (pv 4) TC.cl ME FE hr bE .nil pass0) (pe_listVals rfl (pv 7) rfl B.list (by decide +kernel))) pa_nil)))
        (pss_one (ps_expr (pe_meth (pv 4) TC.cl MG FG hr bG .nil pass0 (pa_cons (pv 8) (pa_cons (pe_lock (pe_lc (own := [("name", 10)]) (g := gName 10) (tt := tTest (tOp rEq (tDGet (tVar 7) (tVar 10)) (tVar 8))) (te := tVar 10) (by rfl) scByLens.nd (pi_keys (pv 7)) (blkOk_by (own := [("name", 10)]) (N := NBL) (sc := defScope sByLens) (by decide +kernel))
            (fun _ _ _ _ _ => pg_name (i := 10) scByLens.nd rfl (Or.inl rfl)) (fun _ _ _ _ _ => pts_one (pt_cmpR op_eq (pe_dget (hu_of hr) (pv 7) (pv 10) (fun _ _ => rfl)) (pv 8) (nomark _))) (fun _ _ _ _ _ => pv 10))) pa_nil))))))))
      (pss_one (ps_ret (pv 4)))))), ?_⟩
    have hz : ∀ n : Nat, n ≤ 1000 → n < sizeLine := fun n hn => Nat.lt_of_le_of_lt hn (by decide)
    refine ⟨_, rfl, _, rfl, _, rfl, fun a da na nda bda => ?_⟩
    have made : Same H (Off a (upd (upd H da (.own a)) a (.ins CC da []))) := by
      rw [off_upd]
      exact .of fun z o e => by
        rw [off_ne (fun y => by rw [y, na] at e; cases e), upd_ne (fun y => by rw [y, nda] at e; cases e)]
        exact e
    refine ⟨a, da, jv, rv, c, r, nd, J, rfl, upd_same, dp_same made dj, dp_same made dr, rok, jok, jn, fun N G2 C2 fr2 S2 => ⟨rfl, ?_⟩⟩
    have S02 : Same H (OffL (ftC a N) G2) := made.trans S2
    have fr : ∀ z ∈ ftC a N, H z = none := fun z hz => by
      rcases fr2 z hz with e | e
      · rw [e]; exact na
      · by_cases z1 : z = a
        · rw [z1]; exact na
        · rw [upd_ne z1] at e
          by_cases z2 : z = da
          · rw [z2]; exact nda
          · rw [upd_ne z2] at e
            exact e
    refine ⟨_, rfl, a, CC, N.dn, _, _, rfl, C2.ob, TC.cl, TC.nB, cf_board, ?_⟩
    have s02 : Same H G2 := S02.trans (offL_sub _ _)
    obtain ⟨pj, xs, rfl, qj, rj⟩ := dp_tuple dj
    have xl := dps_len rj
    rw [List.length_map] at xl
    have j900 := jok.small
    -- what is needed
    refine ⟨_, rfl, pj, rfl, ⟨_, same_seqT s02 qj⟩, fun D1 nD1 => ?_⟩
    refine lc_it (walk_tup (K := K) (a := pj) (xs := xs)) (fun i Hc => Hc = upd G2 D1 (.lst (((J.take i).map (·.n)).map V.str))) rfl (fun i Hc _ e => by rw [e]; exact same_seqT (s02.trans (same_new nD1)) qj) ?_ ?_
    · rintro i y Hc0 Hc hi rfl ⟨rfl, hy⟩
      obtain ⟨d, hd, dd⟩ := dps_getV rj hy
      rw [List.getElem?_map] at hd
      obtain ⟨j, hj, rfl⟩ := Option.map_eq_some_iff.mp hd
      obtain ⟨p, x1, x2, x3, rfl, q, e1, e2, e3⟩ := dp_threeB dd
      have e1 := dp_str e1
      subst e1
      refine ⟨rfl, _, rfl, p, _, _, _, rfl, rfl, same_seqT (s02.trans (same_new nD1)) q, rfl, _, upd_same, ?_, ?_⟩
      · rw [List.length_map, List.length_map, List.length_take]
        exact hz _ (by omega)
      · rw [upd_upd, List.take_add_one, hj, List.map_append, List.map_append]
        rfl
    rintro Hc rfl
    rw [xl, List.take_length]
    have sD1 := same_new (o := .lst ((J.map (·.n)).map V.str)) nD1
    have hD1 : upd G2 D1 (.lst ((J.map (·.n)).map V.str)) D1 = some (.lst ((J.map (·.n)).map V.str)) := upd_same
    generalize upd G2 D1 (.lst ((J.map (·.n)).map V.str)) = G3 at sD1 hD1 ⊢
    obtain ⟨pl, ls, rfl, ql, rl⟩ := dp_tuple dl
    have el : ls = (J.map fun j => nd j.n).map V.int := by
      have gen : ∀ {vs : List V} {l : List Int}, DpAll K H vs (l.map PyData.int) → vs = l.map V.int := fun {vs l} h => by
        induction l generalizing vs with
        | nil => cases h; rfl
        | cons x l ih =>
          cases h with
          | cons a t =>
            rw [ih t, dp_int a]
            rfl
      exact gen rl
    subst el
    refine ⟨_, rfl, D1, pl, J.map (·.n), _, rfl, SqL.of hD1, same_seqT (s02.trans sD1) ql, by rw [List.length_map, List.length_map, List.length_map], fun dn ndn => ?_⟩
    have ndk : ((needS nd J).map (·.1)).Nodup := by
      have e : (needS nd J).map (·.1) = J.map (·.n) := by
        unfold needS
        rw [List.map_map]
        rfl
      rw [e]
      exact jok.nodup
    have em : mergeK [] (((J.map (·.n)).map (Sum.inr : Str → Key)).zip ((J.map fun j => nd j.n).map V.int)) = kvS (needS nd J) := by
      rw [need_zip]
      exact mergeK_nd (acc := []) ndk
    rw [em]
    have sDn := same_new (o := .dK (kvS (needS nd J))) ndn
    have s24 := sD1.trans sDn
    have hdn : upd G3 dn (.dK (kvS (needS nd J))) dn = some (.dK (kvS (needS nd J))) := upd_same
    have C4 := C2.same s24
    have S04 := S02.trans (offL_mono (ft := ftC a N) s24)
    have dnf : dn ∉ ftC a N := fun m => (C2.same sD1).here m ndn
    generalize upd G3 dn (.dK (kvS (needS nd J))) = G4 at C4 S04 hdn ⊢
    -- the turns
    obtain ⟨M, hM⟩ := some_max J
    obtain ⟨z1, z2⟩ := Cs.zero_ok (r := r) rok jok
    obtain ⟨T, _, hT, hT'⟩ := Cs.ends rok jok c1 hM _ (Cs.zero r J) z1 z2 (Nat.le_refl _)
    have rem0 : (Cs.zero r J).rem nd J + ((Cs.zero r J).cm.length : Nat) ≤ 900000 + 900 := by
      have h1 : (Cs.zero r J).rem nd J = (⟨Bd.new r, J⟩ : Cs).rem nd J := (Cs.new_ok rok jok).letIn_rem
      have h2 : (⟨Bd.new r, J⟩ : Cs).rem nd J = (J.map fun j => nd j.n).sum := sum_congr fun j _ => by
        show nd j.n - 0 = _
        rw [Int.sub_zero]
      have h3 : (Cs.zero r J).cm.length ≤ J.length := rest_len ⟨Bd.new r, J⟩
      rw [h1, h2]
      omega
    have okAt : ∀ k, ((Cs.zero r J).at r c nd k).Ok r nd J ∧ ((Cs.zero r J).at r c nd k).Settled ∧ ((Cs.zero r J).at r c nd k).s.now = (k : Int) := fun k => by
      obtain ⟨o1, o2, o3⟩ := Cs.at_ok (c := c) rok jok z1 z2 k
      refine ⟨o1, o2, ?_⟩
      rw [o3, Cs.zero_now, Int.zero_add]
    refine ⟨fun m σ G => ∃ (u7 u8 : Option V) (N2 : CoA) (k : Nat) (ps : List Pc), σ = [some (.ref pj), some (.ref pl), some rv, some (.int c), some (.ref a), some (.ref N.b), some (.ref dn), u7, u8, none, none] ∧ m = T - k ∧ k ≤ T ∧ N2.b = N.b ∧ CoAt CC CB K G a rv c N2 ((Cs.zero r J).at r c nd k) r ps ∧
        joinP ps = segU (fun a b => decide (a = b)) ((Cs.zero r J).names r c nd) k ∧ (∀ p ∈ ps, ∀ x ∈ p.2.2, PyData.strOk x = true) ∧ (ps.length : Int) + ((Cs.zero r J).at r c nd k).rem nd J + (((Cs.zero r J).at r c nd k).cm.length : Nat) ≤ 900900 ∧ Same H (OffL (ftC a N2) G) ∧ (∀ z ∈ ftC a N2, H z = none) ∧ OffL (ftC a N2) G dn = some (.dK (kvS (needS nd J))),
      ⟨_, none, none, N, 0, [], rfl, rfl, Nat.zero_le _, rfl, C4, rfl, (fun p hp => nomatch hp), (show ((0 : Nat) : Int) + (Cs.zero r J).rem nd J + ((Cs.zero r J).cm.length : Nat) ≤ 900900 from by omega), S04, fr, by rw [offL_out dnf]; exact hdn⟩, ?_⟩
    rintro m σ G ⟨u7, u8, N2, k', ps, rfl, rfl, kT, eb, BG, jn2, psok, room, SG, frG, hdnG⟩
    obtain ⟨o1, o2, o3⟩ := okAt k'
    have sG := SG.trans (offL_sub (ftC a N2) G)
    have bo := BG.bd.ob
    have bd := BG.bd
    rw [eb] at bo bd
    refine ⟨_, rfl, N.b, N2.A.dx, _, rfl, bo, by kernel_rfl, N.b, _, c, N2.A, _, rfl, bd, _, rfl, pj, xs, rfl, .inr (same_seqT sG qj), _, _, rfl, rfl, _, rfl, ?_⟩
    have rem1 := o1.rem_nonneg jok
    by_cases un : ((Cs.zero r J).at r c nd k').s.done = (J.length : Nat)
    · rw [decide_eq_false (by rw [un, xl]; omega)]
      refine iteF ?_
      have kk : k' = T := by
        rcases Nat.lt_or_ge k' T with lt | ge
        · exact absurd un (hT' k' lt)
        · omega
      rw [kk] at BG jn2 un
      exact ⟨_, rfl, k a N2 T ps G ⟨BG, un, hT', jn2, by omega, psok⟩ frG SG⟩
    · have lt : ((Cs.zero r J).at r c nd k').s.done < (J.length : Nat) := by
        have := o1.done_le
        omega
      rw [decide_eq_true (by rw [xl]; exact lt)]
      refine iteT ?_
      refine ⟨_, fun σ' H' h => h, ?_⟩
      have kT' : k' < T := by
        rcases Nat.lt_or_ge k' T with lt | ge
        · exact lt
        · have : k' = T := by omega
          rw [this] at un
          exact absurd hT un
      have nm : ∀ j, (Cs.zero r J).names r c nd (k' + j) = (((Cs.zero r J).at r c nd k').at r c nd j).s.run c := fun j => by
        unfold Cs.names
        rw [Cs.at_add]
      have atk : ∀ j, (Cs.zero r J).at r c nd (k' + j) = ((Cs.zero r J).at r c nd k').at r c nd j := fun j => Cs.at_add k' j
      generalize (Cs.zero r J).at r c nd k' = C at *
      have ok0 := o1.bd.toOk0
      refine ⟨_, rfl, N.b, N2.A.dx, _, rfl, bo, by kernel_rfl, N.b, _, c, N2.A, _, rfl, bd, ok0, by omega, fun DR G1 nDR s1 hDR => ?_⟩
      have rnd := Bd.run_nd ok0 (c := c)
      have rle := Bd.run_le ok0 (c := c)
      have hdn1 : G1 dn = some (.dK (kvS (needS nd J))) := s1.at (offL_some hdnG).2
      have B1 := BG.same s1
      have bd1 := B1.bd
      rw [eb] at bd1
      have inJ : ∀ x ∈ C.s.run c, x ∈ J.map (·.n) := fun x hx => o1.keys x (o1.bd.sub x (Bd.run_sub x hx))
      -- what is left
      refine ⟨DR, rfl, ⟨_, SqT.of hDR⟩, fun D3 nD3 => ?_⟩
      refine dc_it (walk_tup (K := K) (a := DR) (xs := (C.s.run c).map V.str)) (fun i Hc => Hc = upd G1 D3 (.dK (kvS (((C.s.run c).take i).map fun x => (x, nd x - getS C.s.ran x))))) rfl (fun i Hc _ e => by rw [e]; exact SqT.of ((same_new nD3).at hDR)) ?_ ?_
      · rintro i y Hc0 Hc hi rfl ⟨rfl, hy⟩
        rw [List.getElem?_map] at hy
        obtain ⟨x, hx, rfl⟩ := Option.map_eq_some_iff.mp hy
        have xm := List.mem_of_getElem? hx
        have s3 := same_new (o := .dK (kvS (((C.s.run c).take i).map fun x => (x, nd x - getS C.s.ran x)))) nD3
        have b3 := bd1.same s3
        have nx : x ∉ (((C.s.run c).take i).map fun x => (x, nd x - getS C.s.ran x)).map (·.1) := by
          rw [List.map_map]
          intro h
          obtain ⟨z, hz', e⟩ := List.mem_map.mp h
          have e : z = x := e
          rw [e] at hz'
          exact nd_take rnd hx hz'
        refine ⟨rfl, _, rfl, _, rfl, _, rfl, dn, .int (nd x), rfl, ?_, _, rfl, N.b, CB, N2.A.dx, _, _, rfl, b3.ob, TB.cl, TB.nA, bf_ran, _, rfl, N2.A.n, .int (getS C.s.ran x), rfl, ?_, _, _, rfl, rfl, _, .inr x, rfl, upd_same, ?_, ?_⟩
        · have z := DGet.k (k := (.inr x : Key)) (s3.at hdn1)
          rw [valS, need_get (inJ x xm)] at z
          exact z
        · have z := DGet.k (k := (.inr x : Key)) b3.ran
          rw [valS, lookS (ok0.sub x (Bd.run_sub x xm))] at z
          exact z
        · unfold kvS
          rw [List.length_map, List.length_map, List.length_take]
          exact hz _ (by omega)
        · rw [upd_upd, putK_new_S nx, List.take_add_one, hx, List.map_append]
          rfl
      rintro Hc rfl
      rw [List.length_map, List.take_length]
      have sD3 := same_new (o := .dK (kvS ((C.s.run c).map fun x => (x, nd x - getS C.s.ran x)))) nD3
      have hD3 : upd G1 D3 (.dK (kvS ((C.s.run c).map fun x => (x, nd x - getS C.s.ran x)))) D3 = some (.dK (kvS ((C.s.run c).map fun x => (x, nd x - getS C.s.ran x)))) := upd_same
      have sC3 := s1.trans sD3
      have B3 := BG.same sC3
      have D3f : D3 ∉ ftC a N2 := fun m => B1.here m nD3
      generalize upd G1 D3 (.dK (kvS ((C.s.run c).map fun x => (x, nd x - getS C.s.ran x)))) = G5 at hD3 sC3 B3 ⊢
      have bq : ∀ q, r.boost = some q → q ≠ 0 := fun q e => by have := rok.boost q e; omega
      have cl : C.cm.length ≤ 900 := by
        have := o1.len
        omega
      refine ⟨_, rfl, a, N2.dn, _, rfl, B3.ob, by kernel_rfl, a, _, c, N2, C, r, ps, rfl, B3, ok0, cl, by omega, bq, fun D4 G6 nD4 s6 hD4 => ?_⟩
      refine ⟨_, rfl, D3, _, rfl, s6.at hD3, fun D5 nD5 => ?_⟩
      have s7 := same_new (o := .lst ((kvS ((C.s.run c).map fun x => (x, nd x - getS C.s.ran x))).map (·.2))) nD5
      have ev : (kvS ((C.s.run c).map fun x => (x, nd x - getS C.s.ran x))).map (·.2) = (C.left c nd).map V.int := by
        unfold kvS Cs.left
        rw [List.map_map, List.map_map, List.map_map]
        rfl
      rw [ev] at s7 ⊢
      have elen : (C.endsL r c).length ≤ 2001 := by
        unfold Cs.endsL Cs.waits
        rw [List.length_append, List.length_append, List.length_map]
        have b1 : (Bd.boEnds r C.s (C.s.run c)).length ≤ 1 := by
          unfold Bd.boEnds
          split
          · exact Nat.zero_le _
          · split
            · exact Nat.le_refl _
            · exact Nat.zero_le _
        have b2 : (Bd.quEnds r C.s (C.s.run c)).length ≤ 1000 := Nat.le_trans (List.length_filterMap_le ..) rle
        have b3 := List.length_filter_le (fun j : Jd => j.at_) C.cm
        omega
      have llen : (C.left c nd).length ≤ 1000 := by
        unfold Cs.left
        rw [List.length_map]
        exact rle
      refine ⟨D4, D5, _, _, rfl, rfl, s7.at hD4, upd_same, ?_, fun D6 nD6 => ?_⟩
      · rw [List.length_map, List.length_map]
        exact Nat.le_trans (show _ ≤ 3001 by omega) (by decide)
      have s8 := same_new (o := .lst ((C.endsL r c).map V.int ++ (C.left c nd).map V.int)) nD6
      refine ⟨D6, C.endsL r c ++ C.left c nd, rfl, SqL.of (by rw [List.map_append]; exact upd_same), List.length_pos_iff.mpr (Cs.ends_some jok o1 o2 c1 un), fun m mm mle => ?_⟩
      have s58 := s6.trans (s7.trans s8)
      have hD38 := s58.at hD3
      have B8 := B3.same s58
      have sC8 := sC3.trans s58
      generalize upd (upd G6 D5 (.lst ((C.left c nd).map V.int))) D6 (.lst ((C.endsL r c).map V.int ++ (C.left c nd).map V.int)) = G8 at hD38 B8 sC8 ⊢
      obtain ⟨far, m1⟩ := Cs.least rok o1 o2 mm mle
      refine ⟨_, rfl, a, N2.dn, _, rfl, B8.ob, by kernel_rfl, _, rfl, D3, _, hD38, trivial, fun od => ?_⟩
      refine ⟨_, rfl, D3, od, rfl, .inl ⟨_, upd_same, fun D7 nD7 => ?_⟩⟩
      have D73 : D7 ≠ D3 := fun e => by rw [e, upd_same] at nD7; cases nD7
      have nD7' : G8 D7 = none := by rw [upd_ne D73] at nD7; exact nD7
      refine lc_it (walk_keys (d := D3) (o := od) (kvs := kvS ((C.s.run c).map fun x => (x, nd x - getS C.s.ran x)))) (fun i Hc => Hc = upd (upd G8 D3 (.frz od (.dK (kvS ((C.s.run c).map fun x => (x, nd x - getS C.s.ran x)))))) D7 (.lst ((((C.s.run c).take i).filter fun x => decide (getS C.s.ran x + m = nd x)).map V.str))) rfl (fun i Hc _ e => by rw [e, upd_ne D73.symm, upd_same]) ?_ ?_
      · rintro i y Hc0 Hc hi rfl ⟨rfl, k0, v0, hk, rfl⟩
        unfold kvS at hk
        rw [List.getElem?_map, List.getElem?_map] at hk
        obtain ⟨q, hq, e⟩ := Option.map_eq_some_iff.mp hk
        obtain ⟨x, hx, rfl⟩ := Option.map_eq_some_iff.mp hq
        cases e
        have xm := List.mem_of_getElem? hx
        have tk : ((C.s.run c).take (i + 1)).filter (fun x => decide (getS C.s.ran x + m = nd x)) = ((C.s.run c).take i).filter (fun x => decide (getS C.s.ran x + m = nd x)) ++ (if getS C.s.ran x + m = nd x then [x] else []) := by
          rw [List.take_add_one, hx, List.filter_append]
          congr 1
          by_cases w : getS C.s.ran x + m = nd x <;> simp [w]
        have fl := List.length_filter_le (fun x => decide (getS C.s.ran x + m = nd x)) ((C.s.run c).take i)
        rw [List.length_take] at fl
        have lk : ((C.s.run c).map fun x => (x, nd x - getS C.s.ran x)).lookup x = some (nd x - getS C.s.ran x) := by
          have gen : ∀ l : List Str, x ∈ l → (l.map fun x => (x, nd x - getS C.s.ran x)).lookup x = some (nd x - getS C.s.ran x) := fun l => by
            induction l with
            | nil => intro h; cases h
            | cons z l ih =>
              intro h
              rw [List.map_cons, List.lookup_cons]
              by_cases e : x = z
              · rw [e, beq_self_eq_true]
              · rw [show (x == z) = false from beq_eq_false_iff_ne.mpr e]
                exact ih ((List.mem_cons.mp h).resolve_left e)
          exact gen _ xm
        refine ⟨rfl, _, rfl, _, rfl, D3, .int (nd x - getS C.s.ran x), rfl, .inl ⟨kvS ((C.s.run c).map fun x => (x, nd x - getS C.s.ran x)), .inr x, .inr ⟨od, by rw [upd_ne D73.symm, upd_same]⟩, rfl, ?_⟩, _, rfl, rfl, _, rfl, ?_⟩
        · rw [valS, lk]
          rfl
        have de : decide (V.int (nd x - getS C.s.ran x) = V.int m) = decide (getS C.s.ran x + m = nd x) := by
          by_cases w : getS C.s.ran x + m = nd x
          · rw [decide_eq_true w]
            exact decide_eq_true (congrArg V.int (by omega))
          · rw [decide_eq_false w]
            exact decide_eq_false fun e => w (by have := V.int.inj e; omega)
        rw [de, tk]
        by_cases w : getS C.s.ran x + m = nd x
        · rw [decide_eq_true w, if_pos w]
          refine iteT ⟨_, rfl, _, upd_same, ?_, ?_⟩
          · rw [List.length_map]
            exact hz _ (by omega)
          · rw [upd_upd, List.map_append]
            rfl
        · rw [decide_eq_false w, if_neg w, List.append_nil]
          exact iteF rfl
      rintro Hc rfl
      have lk : (kvS ((C.s.run c).map fun x => (x, nd x - getS C.s.ran x))).length = (C.s.run c).length := by
        unfold kvS
        rw [List.length_map, List.length_map]
      rw [lk, List.take_length]
      refine ⟨by rw [upd_ne D73.symm, upd_same], ?_⟩
      have back : ∀ (o : HO) (u : HO), upd (upd (upd G8 D3 u) D7 o) D3 (.dK (kvS ((C.s.run c).map fun x => (x, nd x - getS C.s.ran x)))) = upd G8 D7 o := fun o u => by
        funext z
        by_cases z1 : z = D3
        · rw [z1, upd_same, upd_ne D73.symm]
          exact hD38.symm
        · rw [upd_ne z1]
          by_cases z2 : z = D7
          · rw [z2, upd_same, upd_same]
          · rw [upd_ne z2, upd_ne z1, upd_ne z2]
      rw [back]
      have e7 : ((C.s.run c).filter fun x => decide (getS C.s.ran x + m = nd x)) = C.fin c nd m := rfl
      rw [e7]
      have s9 := same_new (o := .lst ((C.fin c nd m).map V.str)) nD7'
      have hD7 : upd G8 D7 (.lst ((C.fin c nd m).map V.str)) D7 = some (.lst ((C.fin c nd m).map V.str)) := upd_same
      have B9 := B8.same s9
      have sC9 := sC8.trans s9
      have D7f : D7 ∉ ftC a N2 := fun w => B8.here w nD7'
      have hdn9 := (offL_mono (ft := ftC a N2) sC9).at hdnG
      generalize upd G8 D7 (.lst ((C.fin c nd m).map V.str)) = G9 at hD7 B9 sC9 hdn9 ⊢
      obtain ⟨d', rfl⟩ : ∃ d' : Nat, m = (d' : Int) + 1 := ⟨(m - 1).toNat, by omega⟩
      have okN := Cs.far_ok rok jok c1 d' C o1 o2 far
      obtain ⟨f1, f2, f3, f4, f5⟩ := Cs.far_many rok c1 d' C ok0 o2 far
      have less := Cs.go_less jok c1 o1 m1 okN mm
      have fsm : C.s.fins.length < 100000 := by
        have e1 := o1.fl
        have e2 := o1.done_len
        have := o1.bd.small
        omega
      refine ⟨a, _, c, N2, C, r, ps, nd, J, _, D7, C.fin c nd ((d' : Int) + 1), rfl, B9, o1.bd, by omega, .inl (SqL.of (by rw [offL_out D7f]; exact hD7)), fsm, by omega, okN, jok, jn, rok, fun N3 GX BX SX en eb3 => ?_⟩
      have kd : k' + (d' + 1) ≤ T := by
        rcases Nat.lt_or_ge T (k' + (d' + 1)) with lt' | ge
        · exfalso
          obtain ⟨_, w, _⟩ := f5 (T - k') (by omega)
          rw [← atk, show k' + (T - k') = T by omega, hT] at w
          exact un w.symm
        · exact ge
      have remX := ((okAt (k' + (d' + 1))).1).rem_nonneg jok
      rw [f1] at BX less
      rw [← atk] at BX less
      rw [o3] at BX
      refine ⟨T - (k' + (d' + 1)), by omega, _, _, N3, k' + (d' + 1), _, rfl, rfl, kd, by rw [eb3, eb], BX, ?_, ?_, ?_, (SG.trans (offL_mono sC9)).trans SX, ?_, SX.at hdn9⟩
      · have z := segU_more (eq := fun a b : List Str => decide (a = b)) (fun x => decide_eq_true rfl) (d := d') (x := C.s.run c) jn2 fun j hj => by
          rw [nm]
          exact f2 j hj
        have e : (k' : Int) + ((d' + 1 : Nat) : Int) = (k' : Int) + ((d' : Int) + 1) := by omega
        rw [e] at z
        exact z
      · intro p hp x hx
        rcases List.mem_append.mp hp with hp | hp
        · exact psok p hp x hx
        · rw [List.mem_singleton.mp hp] at hx
          obtain ⟨j, hj, ej⟩ := List.mem_map.mp (inJ x hx)
          rw [← ej]
          exact jn.ok hj
      · rw [List.length_append, List.length_singleton]
        omega
      · intro z hz'
        rcases ft_freshC SX z hz' with w | w
        · exact frG z w
        · exact (sG.trans sC9).free w
end
end Vk
set_option maxHeartbeats 4000000
/-! f(a, b, k = c, ..) of a def with some keyword-only parameters: the keywords ks are written, the others by default; what is raised goes to W -/
namespace Vk
open PySem PySem.Spec PyProof.Rows L2
/-- a def of the module's top, called with n positional values and the keywords ks; gV: the values of its parameters ps -/
structure DfM (K : PySem.W.Frag) (mg : Str → Option Value) (x : Str) (st : Stmt) (ps : List Str) (n : Nat) (ks : List Str) (gV : List V → List V → List V) : Prop where
  ex : ∃ f fd kws g, mg x = some (.ref f) ∧ FunD K x x (defArgs st) (defBody st) (defScope st) [] kws f fd ∧ KBn K fd ps n ks g gV
structure ClM (P : Program) (w : World) (K : PySem.W.Frag) (mg : Str → Option Value) (base : Heap) (CX : CXT) (k : Nat) (x : Str) (ps : List Str) (n : Nat) (ks : List Str) (gV : List V → List V → List V) (sp : Sp) : Prop where
  ex : ∃ f fd g, mg x = some (.ref f) ∧ PySem.W.keepIn K (.ref f) = true ∧ KBn K fd ps n ks g gV ∧ FnOk P w K mg base CX k f fd ps sp
section
variable {P : Program} {w : World} {K : PySem.W.Frag} {mg : Str → Option Value} {base : Heap}
theorem clM {CX : CXT} {x : Str} {st : Stmt} {N ps ks : List Str} {n k : Nat} {gV : List V → List V → List V} {sp : Sp} (D : DfM K mg x st ps n ks gV) (S : FnScope N ps (defScope st)) (len : ∀ vs H Q E, sp vs H Q E → vs.length = ps.length)
    (body : ∀ (f : Addr) (cdv : Value) (A : Around) (outer : List Env) (s : Shared) (H : Hp) (vs : List V) (Q : VK) (E : XK), Room k (A.deeper (envOfC x (defScope st) s.heap.objs.size f cdv)) → sp vs H Q E →
      ∃ t, PSs (cxOf CX P w K mg base N x (defScope st) f cdv A outer s H E) (defBody st) t ∧ t { nx := fun _ H' => Q .non H', rt := Q } (start N vs) H) : ClM P w K mg base CX (k + 1) x ps n ks gV sp := by
  obtain ⟨f, fd, kws, g, hm, F, kb⟩ := D.ex
  exact ⟨f, fd, g, hm, F.kp, kb, F.ok S len (body f)⟩
/-- both promises of one def -/
theorem fn_or {CX : CXT} {k : Nat} {f : Addr} {fd : FuncData} {ps : List Str} {sp1 sp2 : Sp} (F1 : FnOk P w K mg base CX k f fd ps sp1) (F2 : FnOk P w K mg base CX k f fd ps sp2) : FnOk P w K mg base CX k f fd ps (fun vs H Q E => sp1 vs H Q E ∨ sp2 vs H Q E) :=
  ⟨fun vs H Q E h => h.elim (F1.len vs H Q E) (F2.len vs H Q E), fun A outer s H args us vs Q E hr he hb hv hs => hs.elim (F1.run A outer s H args us vs Q E hr he hb hv) (F2.run A outer s H args us vs Q E hr he hb hv)⟩
end
def tCallM (sp : Sp) (ex : L2.St → XK) (n m : Nat) (gV : List V → List V → List V) (t tk : TA) : TE := fun σ H Q => t σ H fun vs H1 => tk σ H1 fun zs H2 => vs.length = n ∧ zs.length = m ∧ sp (gV vs zs) H2 Q (ex σ)
section
variable {X : Cx} {CX : CXT} {k n : Nat} {fa : Addr} {fdat : FuncData} {names ks : List Str} {sp : Sp} {ex : L2.St → XK} {x : Str} {p pos : Pos} {e1 : Expr} {es1 : List Expr} {kws1 : List Keyword} {ta1 tk1 : TA} {g : List Value → List Value → List Value} {gV : List V → List V → List V}
theorem pe_callM (fn : FnOk X.prog X.w X.K X.mg X.base CX k fa fdat names sp) (room : Room k X.A) (gx : Gl X x) (mx : X.mg x = some (.ref fa)) (kx : PySem.W.keepIn X.K (.ref fa) = true) (kb : KBn X.K fdat names n ks g gV) (px : ∀ σ, PassesAt CX X σ (ex σ))
    (args : PA X (e1 :: es1) ta1) (kargs : PK X kws1 tk1) (all1 : (backToKw pos (keywordEach kws1 X.env)).all (·.1.isSome) = true := by rfl) (names1 : (backToKw pos (keywordEach kws1 X.env)).filterMap (·.1) = ks := by rfl)
    (nodebug : (x == ("__debug__" : Str)) = false := by decide) (first1 : starEach (e1 :: es1) X.env = (false, eval e1 X.env) :: starEach es1 X.env := by rfl)
    (plain1 : ((backTo pos (starEach (e1 :: es1) X.env)).any (·.1) || (backToKw pos (keywordEach kws1 X.env)).any (·.1.isNone)) = false := by rfl) :
    PE X (.Call (.Name x p) (e1 :: es1) kws1 pos) (tCallM sp ex n ks.length gV ta1 tk1) := ⟨fun pins s σ H Q I h => by
  refine wpAny_Call_Name_kw (ld_glob I gx mx ?_ nodebug)
  refine PySem.W.callWith_KW (h₀ := X.base) I.ok.mod.kin kx all1 (thn (args.run pos pins s σ H _ I h) fun us s1 got => ?_) plain1 first1
  obtain ⟨vs, H1, I1, rv, q⟩ := got
  refine thn (kargs.run pos pins s1 σ H1 _ I1 q) fun ws s2 got2 => ?_
  obtain ⟨zs, H2, I2, rz, n1, n2, q2⟩ := got2
  refine ⟨I2.kIn, ?_⟩
  rw [names1]
  have len1 : us.length = n := rv.length.symm.trans n1
  have len2 : ws.length = ks.length := rz.length.symm.trans n2
  refine wpAny_call (codeAny_mono (fn.run X.A X.stack s2 H2 ⟨us, ks.zip ws⟩ (g us ws) (gV vs zs) Q (ex σ) room I2.env0 (kb.to s2 us ws I2.kIn len1 len2) (kb.rel rv rz) q2) fun res s3 hq => ?_)
  match res, hq with
  | .error er, hq => exact px σ pins H2 s2 er s3 I2 hq
  | .ok (.ret u), hq => exact I2.after hq
  | .ok .next, hq => exact False.elim hq
  | .ok .brk, hq => exact False.elim hq
  | .ok .cont, hq => exact False.elim hq⟩
/-- what is never reached -/
theorem pe_dead {e : Expr} : PE X e (fun _ _ _ => False) := ⟨fun _ _ _ _ _ _ h => h.elim⟩
theorem pss_dead {ss : List Stmt} : PSs X ss (fun _ _ _ => False) := ⟨fun _ _ _ _ _ _ h => h.elim⟩
theorem pt_dead {e : Expr} : PT X e (fun _ _ _ => False) := ⟨fun _ _ _ _ _ _ h => h.elim⟩
end
end Vk
set_option maxHeartbeats 4000000
/-! a def of the top with whatever is known of its binding (R) -/
namespace Vk
open PySem PySem.Spec PyProof.Rows L2 GxR
structure DfE (K : PySem.W.Frag) (mg : Str → Option Value) (x : Str) (st : Stmt) (R : FuncData → Prop) : Prop where
  ex : ∃ f fd kws, mg x = some (.ref f) ∧ FunD K x x (defArgs st) (defBody st) (defScope st) [] kws f fd ∧ R fd
structure ClE (P : Program) (w : World) (K : PySem.W.Frag) (mg : Str → Option Value) (base : Heap) (CX : CXT) (k : Nat) (x : Str) (ps : List Str) (sp : Sp) (R : FuncData → Prop) : Prop where
  ex : ∃ f fd, mg x = some (.ref f) ∧ PySem.W.keepIn K (.ref f) = true ∧ R fd ∧ FnOk P w K mg base CX k f fd ps sp
/-- all keywords written -/
def RAll (K : PySem.W.Frag) (ps : List Str) (n : Nat) (ks : List Str) (gV : List V → List V → List V) : FuncData → Prop := fun fd => ∃ g, KBn K fd ps n ks g gV
/-- no keyword written: these defaults -/
def RDfl (K : PySem.W.Frag) (ps : List Str) (dvs : List V) : FuncData → Prop := fun fd => ∃ ds, Vals dvs ds ∧ Binds K fd ps ds
section
variable {P : Program} {w : World} {K : PySem.W.Frag} {mg : Str → Option Value} {base : Heap} {x : Str} {st : Stmt} {ps ks : List Str} {n k : Nat} {gV : List V → List V → List V} {sp : Sp} {R R' : FuncData → Prop} {CX : CXT}
theorem DfM.toE (D : DfM K mg x st ps n ks gV) : DfE K mg x st (RAll K ps n ks gV) := by
  obtain ⟨f, fd, kws, g, hm, F, kb⟩ := D.ex
  exact ⟨f, fd, kws, hm, F, g, kb⟩
theorem ClE.toM (C : ClE P w K mg base CX k x ps sp (RAll K ps n ks gV)) : ClM P w K mg base CX k x ps n ks gV sp := by
  obtain ⟨f, fd, hm, kp, ⟨g, kb⟩, F⟩ := C.ex
  exact ⟨f, fd, g, hm, kp, kb, F⟩
theorem ClE.weak (C : ClE P w K mg base CX k x ps sp R) (h : ∀ fd, R fd → R' fd) : ClE P w K mg base CX k x ps sp R' := by
  obtain ⟨f, fd, hm, kp, r, F⟩ := C.ex
  exact ⟨f, fd, hm, kp, h fd r, F⟩
theorem clE0 {N : List Str} (D : DfE K mg x st R) (S : FnScope N ps (defScope st)) (len : ∀ vs H Q E, sp vs H Q E → vs.length = ps.length)
    (body : ∀ (f : Addr) (cdv : Value) (A : Around) (outer : List Env) (s : Shared) (H : Hp) (vs : List V) (Q : VK) (E : XK), Room k (A.deeper (envOfC x (defScope st) s.heap.objs.size f cdv)) → sp vs H Q E →
      ∃ t, PSs (cxOf CX0 P w K mg base N x (defScope st) f cdv A outer s H E).nox (defBody st) t ∧ t { nx := fun _ H' => Q .non H', rt := Q } (start N vs) H) : ClE P w K mg base CX0 (k + 1) x ps sp R := by
  obtain ⟨f, fd, kws, hm, F, r⟩ := D.ex
  exact ⟨f, fd, hm, F.kp, r, F.ok S len fun cdv A outer s H vs Q E hr h => by
    obtain ⟨t, h1, h2⟩ := body f cdv A outer s H vs Q E hr h
    exact ⟨t, h1.nox, h2⟩⟩
end
end Vk
set_option maxHeartbeats 4000000
namespace Vk
open PySem PySem.Spec PyProof.Rows L2
section
variable {P : Program} {w : World} {K : PySem.W.Frag} {mg : Str → Option Value} {base : Heap}
theorem scRuleInit : FnScope ["self", "place"] ["self", "place"] (defScope sRuleInit) := ⟨rfl, rfl, rfl, by decide +kernel, rfl, by decide +kernel, by decide +kernel⟩
theorem ok_ruleInit {C fI : Addr} {fd : FuncData} (F : Fun K "__init__" "NoRule.__init__" sRuleInit fI fd) (T : OexC K C) (no : PySem.W.findIn K (.ref C) "place" = some none) : FnOk P w K mg base CX0 1 fI fd ["self", "place"] (spIni C "place") := by
  refine F.ok scRuleInit (fun vs H Q E h => ?_) (fun cdv A outer s H vs Q E hr h => ?_)
  · obtain ⟨a, v, rfl, _⟩ := h
    rfl
  · obtain ⟨a, v, rfl, ha, k⟩ := h
    refine ⟨_, pss_one (ps_ost (pv 0) (pv 1)), ?_⟩
    exact ⟨_, rfl, _, rfl, a, C, rfl, T, no, .inl ⟨ha, fun dx n1 n2 => k dx n1 n2⟩⟩
theorem erc_rule {C : Addr} (g : mg "NoRule" = some (.ref C)) (T : OexC K C) (no : PySem.W.findIn K (.ref C) "place" = some none) (N : Nit K "NoRule" "NoRule.__init__" "place" sRuleInit C) : ErC P w K mg base "NoRule" "place" C := by
  obtain ⟨fI, fd, h1, h2, h3, h4⟩ := N.ex
  exact ⟨g, T, fI, fd, h1, h2, h4, ok_ruleInit h3 T no⟩
end
end Vk
set_option maxHeartbeats 4000000
namespace Vk
open PySem PySem.Spec PyProof.Rows L2
/-- the place of the first fault of a rule -/
def rulePlace : PyData → Option Int
  | .tuple [.tuple ls, b] => if 1 ≤ ls.length ∧ ls.length ≤ 6 then (match ls.findIdx? (fun d => !levelD d) with
    | some i => some (i : Int)
    | none => if countD b = true then none else some (ls.length : Int)) else some 0
  | _ => some 0
def goodHeads : PyData → Bool
  | .tuple [.tuple ls, _] => ls.all headD
  | _ => true
theorem place_two {d : PyData} (h : tupleND 2 d = false) : rulePlace d = some 0 := by
  cases d with
  | tuple ds =>
    have z : ¬ (ds.length : Int) = 2 := of_decide_eq_false h
    match ds, z with
    | [a, b], z => exact absurd rfl z
    | [], _ => rfl
    | [_], _ => simp [rulePlace]
    | _ :: _ :: _ :: l, _ => simp [rulePlace]
  | _ => rfl
theorem place_tup {a b : PyData} (h : isTupD a = false) : rulePlace (.tuple [a, b]) = some 0 := by
  cases a with
  | tuple ds => cases h
  | _ => rfl
theorem bad_at {ls : List PyData} {i : Nat} {d : PyData} (h : ls[i]? = some d) (hd : levelD d = false) (ok : ∀ j < i, ∀ e, ls[j]? = some e → levelD e = true) : ls.findIdx? (fun d => !levelD d) = some i := by
  rw [List.findIdx?_eq_some_iff_getElem]
  obtain ⟨h1, h2⟩ := List.getElem?_eq_some_iff.mp h
  refine ⟨h1, by rw [h2, hd]; rfl, fun j hj => ?_⟩
  have z := ok j hj ls[j] (List.getElem?_eq_getElem (by omega))
  rw [z]
  decide
theorem bad_no {ls : List PyData} (ok : ∀ j < ls.length, ∀ e, ls[j]? = some e → levelD e = true) : ls.findIdx? (fun d => !levelD d) = none := by
  rw [List.findIdx?_eq_none_iff]
  intro x hx
  obtain ⟨j, hj, e⟩ := List.getElem_of_mem hx
  have z := ok j hj x (by rw [List.getElem?_eq_getElem hj, e])
  rw [z]
  rfl
section
variable {P : Program} {w : World} {K : PySem.W.Frag} {mg : Str → Option Value} {base : Heap}
def spCheckR (K : PySem.W.Frag) (C : Addr) : Sp := fun vs H Q E => ∃ (v : V) (d : PyData), vs = [v] ∧ Dp K H v d ∧ goodHeads d = true ∧ (rulePlace d = none → ∀ H', Same H H' → Q .non H') ∧
  (∀ p, rulePlace d = some p → ∀ (dx : Addr) (H' : Hp), Same H H' → H' dx = some (.xd [("place", .int p)]) → E (.ref C) (some dx) H')
theorem scCheckR : FnScope ["rule", "levels", "boost", "place", "level"] ["rule"] (defScope sCheckR) := ⟨rfl, rfl, rfl, by decide +kernel, rfl, by decide +kernel, by decide +kernel⟩
theorem ok_checkR {C : Addr} (D : Df K mg "check_rule" sCheckR ["rule"]) (B : Blt mg) (M : ∃ u, mg "MOST_LEVELS" = some u ∧ RelV (.int 6) u) (ER : ErC P w K mg base "NoRule" "place" C) (T : Cl P w K mg base CX0 1 "is_tuple_of" ["value", "many"] (spTupleOf K))
    (L : Cl P w K mg base CX0 3 "is_level" ["level"] (spLevel K)) (CN : Cl P w K mg base CX0 2 "is_count" ["value"] (spIsCnt K)) : Cl P w K mg base (L2.CX P w) 4 "check_rule" ["rule"] (spCheckR K C) := by
  refine clX D scCheckR (fun vs H Q E h => ?_) (fun f cdv A outer s H vs Q E hr h => ?_)
  · obtain ⟨v, d, rfl, _⟩ := h
    rfl
  · obtain ⟨v, d, rfl, hd, gh, kN, kE⟩ := h
    obtain ⟨mu, mm, mr⟩ := M
    refine ⟨_, pss_cons (ps_if (pt_not (pt_val (pc T hr (by decide) (pa_cons (pv 0) (pa_cons pe_int pa_nil))))) (pss_one (ps_raiseE ER rfl hr (by decide) (takes_of rfl rfl rfl rfl) pe_int)) pss_nil)
      (pss_cons (ps_asg (pv 0) (pg_tup rfl (pgs_cons (pg_name (i := 1) scCheckR.nd rfl (.inl rfl)) (pgs_cons (pg_name (i := 2) scCheckR.nd rfl (.inl rfl)) pgs_nil))))
      (pss_cons (ps_if (PW.pt (pw_or (pt_not (pt_val (pe_callB call_isi (by rfl) B.isi (by decide +kernel) (pa_cons (pv 1) (pa_cons (pe_bltn (v := .ty "tuple") (u := .type "tuple") (by rfl) B.tuple (by decide +kernel) rfl) pa_nil))))) (pw_or1 (pt_not (pt_chain op_le op_le pe_int (pe_callB call_len_seq (by rfl) B.len PySem.boot_len (pa_cons (pv 1) pa_nil)) (pe_glob rfl mm mr))))))
        (pss_one (ps_raiseE ER rfl hr (by decide) (takes_of rfl rfl rfl rfl) pe_int)) pss_nil)
      (pss_cons (ps_for (passes_of rfl) rfl (pi_enumT B.enum (pa_cons (pv 1) pa_nil)) (pg_tup rfl (pgs_cons (pg_name (i := 3) scCheckR.nd rfl (.inl rfl)) (pgs_cons (pg_name (i := 4) scCheckR.nd rfl (.inl rfl)) pgs_nil)))
        (pss_one (ps_if (pt_not (pt_val (pc L hr (by decide) (pa_cons (pv 4) pa_nil)))) (pss_one (ps_raiseE ER rfl hr (by decide) (takes_of rfl rfl rfl rfl) (pv 3))) pss_nil)))
      (pss_one (ps_if (pt_not (pt_val (pc CN hr (by decide) (pa_cons (pv 2) pa_nil)))) (pss_one (ps_raiseE ER rfl hr (by decide) (takes_of rfl rfl rfl rfl) (pe_callB call_len_seq (by rfl) B.len PySem.boot_len (pa_cons (pv 1) pa_nil)))) pss_nil))))), ?_⟩
    refine ⟨_, rfl, v, d, 2, rfl, hd, _, rfl, ?_⟩
    cases ht : tupleND 2 d with
    | false =>
      refine iteT ?_
      exact raise_go fun dx H2 s1 _ hx => kE 0 (place_two ht) dx H2 s1 hx
    | true =>
      obtain ⟨a, b, rfl⟩ := level_two ht
      obtain ⟨p, x, y, rfl, q, ha, hb⟩ := dp_two hd
      refine iteF ?_
      -- levels, boost = rule
      refine ⟨_, rfl, p, _, rfl, q, rfl, _, _, rfl, _, _, rfl, rfl, ?_⟩
      refine ⟨_, rfl, x, _, _, _, _, rfl, .ty "tuple", dp_ty ha, kit_tup ha, _, rfl, ?_⟩
      cases hta : isTupD a with
      | false =>
        refine iteT ?_
        refine iteT ?_
        exact raise_go fun dx H2 s1 _ hx => kE 0 (place_tup hta) dx H2 s1 hx
      | true =>
        obtain ⟨ls, rfl⟩ : ∃ ls, a = .tuple ls := by
          cases a with
          | tuple ls => exact ⟨ls, rfl⟩
          | _ => cases hta
        obtain ⟨pl, xs, rfl, ql, rl⟩ := dp_tuple ha
        have ll := dps_len rl
        refine iteF ?_
        -- 1 <= len(levels) <= 6
        refine ⟨_, rfl, pl, xs, rfl, .inr ql, _, _, rfl, rfl, _, rfl, ?_⟩
        have small : rulePlace (.tuple [.tuple ls, b]) = some 0 ∨ (1 ≤ ls.length ∧ ls.length ≤ 6) := by
          by_cases z : 1 ≤ ls.length ∧ ls.length ≤ 6
          · exact .inr z
          · refine .inl ?_
            simp only [rulePlace]
            rw [if_neg z]
        have noSmall : ¬ (1 ≤ ls.length ∧ ls.length ≤ 6) → rulePlace (.tuple [.tuple ls, b]) = some 0 := fun z => by
          rcases small with h | h
          · exact h
          · exact absurd h z
        have loop : ∀ H1 : Hp, 1 ≤ ls.length → ls.length ≤ 6 → True := fun _ _ _ => trivial
        refine ite2 (fun z1 => ?_) (fun z1 => ?_)
        case refine_2 =>
          have n1 : ¬ (1 ≤ ls.length) := fun y => z1 (decide_eq_true (by omega))
          refine ⟨_, rfl, iteT ?_⟩
          exact raise_go fun dx H2 s1 _ hx => kE 0 (noSmall fun y => n1 y.1) dx H2 s1 hx
        refine ⟨_, _, rfl, rfl, _, rfl, ?_⟩
        by_cases n6 : ls.length ≤ 6
        case neg =>
          rw [decide_eq_false (show ¬ ((xs.length : Nat) : Int) ≤ 6 by omega)]
          refine iteT ?_
          exact raise_go fun dx H2 s1 _ hx => kE 0 (noSmall fun y => n6 y.2) dx H2 s1 hx
        rw [decide_eq_true (show ((xs.length : Nat) : Int) ≤ 6 by omega)]
        refine iteF ?_
        have n1 : 1 ≤ ls.length := by
          have z := of_decide_eq_true z1
          omega
        -- for place, level in enumerate(levels)
        refine ⟨_, rfl, pl, xs, rfl, ql, for_it (walk_enumT (K := K) (a := pl) (xs := xs)) (fun i σ H' => ∃ (u1 u2 : Option V), σ = [some (.ref p), some (.ref pl), some y, u1, u2] ∧ Same H H' ∧ ∀ j < i, ∀ e, ls[j]? = some e → levelD e = true)
          ⟨none, none, rfl, Same.refl H, fun j hj => absurd hj (Nat.not_lt_zero _)⟩ (fun i σ H' _ ⟨_, _, _, s1, _⟩ => same_seqT s1 ql) ?_ ?_⟩
        · rintro i v1 σ H1 H2 hi ⟨u1, u2, rfl, s1, okl⟩ ⟨TT, x1, y1, rfl, nT, rfl, ex, ey⟩
          cases ex
          obtain ⟨d1, hd1, dp1⟩ := dps_getV rl ey
          have s2 := s1.trans (same_new (o := .tup [V.int (i : Nat), y1]) nT)
          refine ⟨TT, _, rfl, SqT.of upd_same, rfl, _, _, rfl, _, _, rfl, rfl, ?_⟩
          have hh : headD d1 = true := List.all_eq_true.mp gh d1 (List.mem_of_getElem? hd1)
          refine ⟨_, rfl, y1, d1, rfl, dp_same s2 dp1, hh, fun H3 s3 => ⟨_, rfl, ?_⟩⟩
          cases hl : levelD d1 with
          | true =>
            refine iteF ?_
            refine ⟨_, _, rfl, s2.trans s3, fun j hj e he => ?_⟩
            by_cases z : j = i
            · subst z
              rw [hd1] at he
              cases he
              exact hl
            · exact okl j (by omega) e he
          | false =>
            refine iteT ⟨_, rfl, ?_⟩
            refine raise_go fun dx H4 s4 _ hx => kE (i : Int) ?_ dx H4 ((s2.trans s3).trans s4) hx
            simp only [rulePlace]
            rw [if_pos ⟨n1, n6⟩, bad_at hd1 hl okl]
        · rintro σ H1 ⟨u1, u2, rfl, s1, okl⟩
          have none1 := bad_no (ls := ls) (fun j hj => okl j (by omega))
          have pl1 : rulePlace (.tuple [.tuple ls, b]) = if countD b = true then none else some (ls.length : Int) := by
            simp only [rulePlace]
            rw [if_pos ⟨n1, n6⟩, none1]
          refine ⟨_, rfl, y, b, rfl, dp_same s1 hb, _, rfl, ?_⟩
          cases hc : countD b with
          | true =>
            rw [hc] at pl1
            exact iteF (kN pl1 _ s1)
          | false =>
            rw [hc] at pl1
            refine iteT ⟨_, rfl, pl, xs, rfl, .inr (same_seqT s1 ql), ?_⟩
            refine raise_go fun dx H4 s4 _ hx => kE (ls.length : Int) pl1 dx H4 (s1.trans s4) ?_
            rw [← ll]
            exact hx
end
end Vk
set_option maxHeartbeats 8000000
/-! runs -/
namespace Vk
open PySem PySem.Spec PyProof.Rows L2 GxR
theorem passE0c {X : Cx} : Passes (L2.CX X.prog X.w) X E0 := fun _ _ _ _ _ _ _ ⟨_, _, _, _, _, _, _, _, _, _, _, _, h⟩ => False.elim h
theorem count_opt {q : Option Int} (h : ∀ i, q = some i → 1 ≤ i) : countD (bOptD q) = true := by
  cases q with
  | none => rfl
  | some i =>
    show decide (1 ≤ i) = true
    exact decide_eq_true (h i rfl)
theorem level_ok {l : Bool × Option Int} (h : ∀ i, l.2 = some i → 1 ≤ i) : levelD (bLevD l) = true := by
  show (kindD (.str (bKindS l.1)) && countD (bOptD l.2)) = true
  rw [count_opt h, Bool.and_true]
  cases l.1 <;> decide
theorem rule_ok {r : Rl} (h : r.Ok) : rulePlace (bRulD r) = none ∧ goodHeads (bRulD r) = true := by
  constructor
  · show (if 1 ≤ (r.levels.map bLevD).length ∧ (r.levels.map bLevD).length ≤ 6 then (match (r.levels.map bLevD).findIdx? (fun d => !levelD d) with
      | some i => some (i : Int)
      | none => if countD (bOptD r.boost) = true then none else some ((r.levels.map bLevD).length : Int)) else some 0) = none
    have e : (r.levels.map bLevD).findIdx? (fun d => !levelD d) = none := by
      rw [List.findIdx?_eq_none_iff]
      intro x hx
      obtain ⟨l, hl, rfl⟩ := List.mem_map.mp hx
      rw [level_ok (h.quanta l hl)]
      rfl
    rw [if_pos ⟨by rw [List.length_map]; exact h.len1, by rw [List.length_map]; exact h.len6⟩, e]
    show (if countD (bOptD r.boost) = true then none else _) = none
    rw [if_pos (count_opt h.boost)]
  · show (r.levels.map bLevD).all headD = true
    exact List.all_eq_true.mpr fun d hd => by
      obtain ⟨l, _, rfl⟩ := List.mem_map.mp hd
      rfl
/-! ### jobs that are fine -/
theorem jd_of {d : PyData} (h : jobD d = true) : ∃ j : Jd, d = jdD j := by
  obtain ⟨n, k, t, e, rfl, hn, hk⟩ := job_parts h
  have h2 : (nameD (.str n) && (arrivalD (.tuple [.str k, .int t]) && (integerD 0 (.int e) && le9 (.int e)))) = true := h
  simp only [Bool.and_eq_true] at h2
  have e0 : 0 ≤ e := of_decide_eq_true h2.2.2.1
  have ee : ((e.toNat : Nat) : Int) = e := Int.toNat_of_nonneg e0
  rcases hk with rfl | rfl
  · refine ⟨⟨n, true, t, e.toNat⟩, ?_⟩
    unfold jdD Jd.kind
    rw [if_pos rfl, ee]
  · refine ⟨⟨n, false, t, e.toNat⟩, ?_⟩
    unfold jdD Jd.kind
    rw [if_neg Bool.false_ne_true, ee]
theorem jds_of : ∀ {js : List PyData}, js.all jobD = true → ∃ J : List Jd, js = J.map jdD
  | [], _ => ⟨[], rfl⟩
  | d :: js, h => by
    rw [List.all_cons, Bool.and_eq_true] at h
    obtain ⟨j, rfl⟩ := jd_of h.1
    obtain ⟨J, rfl⟩ := jds_of h.2
    exact ⟨j :: J, rfl⟩
theorem jname_of {J : List Jd} (h : (J.map jdD).all jobD = true) : JName J := by
  have job : ∀ j ∈ J, jobD (jdD j) = true := fun j hj => List.all_eq_true.mp h _ (List.mem_map.mpr ⟨j, hj, rfl⟩)
  refine ⟨fun j hj => ?_, job⟩
  have h2 : (nameD (.str j.n) && (arrivalD (.tuple [.str j.kind, .int j.t]) && (integerD 0 (.int (j.e : Nat)) && le9 (.int (j.e : Nat))))) = true := job j hj
  simp only [Bool.and_eq_true] at h2
  exact h2.1
theorem bef_jd {i : Jd} {t : Int} : befA t (arrD (jdD i)) = (i.at_ || decide (i.t < t)) := by
  show (atS "at" (.str i.kind) || decide (i.t < t)) = _
  have e : atS "at" (.str i.kind) = i.at_ := by
    show decide (i.kind = "at") = i.at_
    unfold Jd.kind
    cases i.at_ with
    | true => rfl
    | false => decide +kernel
  rw [e]
theorem jok_of {nd : Str → Int} {J : List Jd} (f : Fine (J.map jdD)) (len : J.length ≤ 900) (one : ∀ j ∈ J, 1 ≤ nd j.n) : JOk nd J := by
  obtain ⟨f1, f2⟩ := f
  rw [List.map_map] at f1
  refine ⟨f1, len, one, fun j hj => ?_⟩
  have m : PyData.tuple [.str j.kind, .int j.t] ∈ (J.map jdD).map arrD := by
    rw [List.map_map]
    exact List.mem_map.mpr ⟨j, hj, rfl⟩
  cases h : j.at_ with
  | true => exact .inl rfl
  | false =>
    right
    have k : j.kind = "after" := by
      unfold Jd.kind
      rw [h, if_neg Bool.false_ne_true]
    rcases f2 _ _ m with w | w
    · rw [k] at w
      exact absurd w (by decide +kernel)
    · rw [List.map_map, List.countP_map] at w
      have e : J.countP (befA j.t ∘ (arrD ∘ jdD)) = J.countP (fun i => i.at_ || decide (i.t < j.t)) := List.countP_congr fun i _ => by
        show befA j.t (arrD (jdD i)) = true ↔ _
        rw [bef_jd]
      rw [e] at w
      exact w
/-- what is asked of the arguments of a run -/
structure RunOk (nd : Str → Int) (J : List Jd) (r : Rl) (c : Int) : Prop where
  fine : Fine (J.map jdD)
  job : (J.map jdD).all jobD = true
  len : J.length ≤ 900
  one : ∀ j ∈ J, 1 ≤ nd j.n
  sum : (J.map fun j => nd j.n).sum ≤ 900000
  rok : r.Ok
  c1 : 1 ≤ c
theorem RunOk.jok {nd : Str → Int} {J : List Jd} {r : Rl} {c : Int} (h : RunOk nd J r c) : JOk nd J := jok_of h.fine h.len h.one
theorem RunOk.jn {nd : Str → Int} {J : List Jd} {r : Rl} {c : Int} (h : RunOk nd J r c) : JName J := jname_of h.job
section
variable {P : Program} {w : World} {K : PySem.W.Frag} {mg : Str → Option Value} {base : Heap} {CC CB : Addr}
/-- the arguments of a run -/
structure RunAt (K : PySem.W.Frag) (H : Hp) (T : Addr) (jv lv rv : V) (c : Int) (r : Rl) (nd : Str → Int) (J : List Jd) : Prop where
  dj : Dp K H jv (.tuple (J.map jdD))
  dl : Dp K H lv (.tuple ((J.map fun j => nd j.n).map PyData.int))
  dr : Dp K H rv (bRulD r)
  ok : RunOk nd J r c
  tg : TabG H T
/-- where a whole course ends -/
structure EndAt (r : Rl) (c : Int) (nd : Str → Int) (J : List Jd) (T : Nat) : Prop where
  don : ((Cs.zero r J).at r c nd T).s.done = (J.length : Nat)
  first : ∀ k < T, ((Cs.zero r J).at r c nd k).s.done ≠ (J.length : Nat)
theorem EndAt.uniq {r : Rl} {c : Int} {nd : Str → Int} {J : List Jd} {T T' : Nat} (h : EndAt r c nd J T) (h' : EndAt r c nd J T') : T = T' := by
  rcases Nat.lt_trichotomy T T' with e | e | e
  · exact absurd h.don (h'.first T e)
  · exact e
  · exact absurd h'.don (h.first T' e)
abbrev PRW : List Str := ["jobs", "lengths", "rule", "processors"]
/-- the units of the finishes -/
def finS (s : Bd) : List (Str × Int) := s.fins.flatMap fun f => f.2.2.map fun y => (y, f.1)
theorem finS_keys (s : Bd) : (finS s).map (·.1) = s.fins.flatMap fun f => f.2.2 := by
  unfold finS
  rw [List.map_flatMap]
  congr 1
  funext f
  rw [List.map_map]
  exact List.map_id _
theorem all_fin {r : Rl} {nd : Str → Int} {J : List Jd} {C : Cs} (h : C.Ok r nd J) (don : C.s.done = (J.length : Nat)) : ∀ j ∈ J, j.n ∈ (finS C.s).map (·.1) := fun j hj => by
  rw [finS_keys]
  have len : (C.s.fins.flatMap fun f => f.2.2).length = (J.map (·.n)).length := by
    have := h.dn
    rw [don] at this
    rw [List.length_map]
    omega
  have sub : ∀ x ∈ C.s.fins.flatMap (fun f => f.2.2), x ∈ J.map (·.n) := fun x hx => by
    obtain ⟨fi, h1, h2⟩ := List.mem_flatMap.mp hx
    exact h.keys x ((h.bd.fst fi h1).2.2 x h2)
  refine Classical.byContradiction fun no => ?_
  have z := nd_len (l := j.n :: C.s.fins.flatMap (fun f => f.2.2)) (m := J.map (·.n)) (List.nodup_cons.mpr ⟨no, h.bd.ndf⟩) fun x hx => by
    rcases List.mem_cons.mp hx with e | m
    · rw [e]
      exact List.mem_map.mpr ⟨j, hj, rfl⟩
    · exact sub x m
  rw [List.length_cons, len] at z
  omega
end
end Vk
set_option maxHeartbeats 4000000
/-! the end where the program has classes with methods: what is looked at behind the top -/
namespace Vk
open PySem PySem.Spec PyProof.Rows L2
abbrev SeeC : Type := Bool × List He.FnV × List He.FnW
def seeC (fs : List (PySem.W.Frag → Bool)) (fn : List He.FnD) (fw : List He.DefD) (K : PySem.W.Frag) : SeeC := (fs.all fun f => f K, fn.map fun d => He.fnObs K d.at_, fw.map fun d => He.fnW K d.at_)
def dueC (fn : List He.FnD) (fw : List He.DefD) : SeeC := (true, fn.map He.FnD.val, fw.map He.DefD.val)
def asC (g : Addr → Option Obj) : List Addr :=
  let l1 := valsV g mainGlobals
  let l2 := l1.flatMap (backV g)
  let l3 := l2.flatMap (valsV g)
  let l4 := l3.flatMap (backV g)
  mainGlobals :: (l1 ++ (l2 ++ (l3 ++ (l4 ++ l4.flatMap (valsV g)))))
def partC (_ : Nat) (g : Addr → Option Obj) : PySem.W.Frag := He.frT g (asC g)
def hookC (n : Nat) (fs : List (PySem.W.Frag → Bool)) (fn : List He.FnD) (fw : List He.DefD) : PySem.W.Hook where
  α := SeeC
  obs := fun s => seeC fs fn fw (partC n s.heap.get?)
  val := fun _ => dueC fn fw
  says := fun _ h => ∃ K : PySem.W.Frag, K.In h ∧ seeC fs fn fw K = dueC fn fw
  of := fun _ _ e => ⟨_, He.frT_in, e⟩
  keeps := fun _ _ _ ⟨K, hK, c⟩ k => ⟨K, PySem.W.Frag.In.keeps hK k, c⟩
theorem seeC_eq {n : Nat} {fs : List (PySem.W.Frag → Bool)} {fn : List He.FnD} {fw : List He.DefD} {g : Addr → Option Obj} {s : Shared} (h : ∀ a, g a = s.heap.get? a) : seeC fs fn fw (partC n g) = (hookC n fs fn fw).obs s := by
  have e : g = s.heap.get? := funext h
  rw [e]
  rfl
section
variable {fs : List (PySem.W.Frag → Bool)} {fn : List He.FnD} {fw : List He.DefD} {K : PySem.W.Frag}
theorem facC (c : seeC fs fn fw K = dueC fn fw) (i : Nat) {f : PySem.W.Frag → Bool} (h : fs[i]? = some f) : f K = true :=
  List.all_eq_true.mp (show (fs.all fun f => f K) = true from congrArg (fun z : SeeC => z.1) c) f (List.mem_of_getElem? h)
theorem defC (c : seeC fs fn fw K = dueC fn fw) (i : Nat) {d : He.FnD} (h : fn[i]? = some d) : He.fnObs K d.at_ = d.val := by
  have e : fn.map (fun d => He.fnObs K d.at_) = fn.map He.FnD.val := congrArg (fun z : SeeC => z.2.1) c
  have e2 : (fn.map fun d => He.fnObs K d.at_)[i]? = (fn.map He.FnD.val)[i]? := by rw [e]
  rw [List.getElem?_map, List.getElem?_map, h] at e2
  exact Option.some.inj e2
theorem dfwC (c : seeC fs fn fw K = dueC fn fw) (i : Nat) {d : He.DefD} (h : fw[i]? = some d) : He.fnW K d.at_ = d.val := by
  have e : fw.map (fun d => He.fnW K d.at_) = fw.map He.DefD.val := congrArg (fun z : SeeC => z.2.2) c
  have e2 : (fw.map fun d => He.fnW K d.at_)[i]? = (fw.map He.DefD.val)[i]? := by rw [e]
  rw [List.getElem?_map, List.getElem?_map, h] at e2
  exact Option.some.inj e2
end
/-- a method m of the class C -/
def mW (C m q : Str) (st : Stmt) (dfl : List He.Dv) (kwd : List (Str × He.Dv)) : He.DefD := ⟨(C, some m), m, q, defArgs st, defBody st, defScope st, dfl, kwd⟩
/-- its address -/
abbrev mA (K : PySem.W.Frag) (C m : Str) : Addr := He.ma K (He.ga K C) m
/-- an empty tuple of the top -/
def tupE (K : PySem.W.Frag) (a : Addr) : Bool := match K.lookup a with
  | some ⟨.type c, _, .seq its _, _⟩ => decide (c = "tuple") && its.isEmpty
  | _ => false
theorem tupE_ok {K : PySem.W.Frag} {a : Addr} (h : tupE K a = true) (H : Hp) : SqT K H a [] := by
  unfold tupE at h
  cases q : K.lookup a with
  | none =>
    rw [q] at h
    cases h
  | some o =>
    obtain ⟨oc, od, dt, osl⟩ := o
    rw [q] at h
    cases oc with
    | type c =>
      cases dt with
      | seq its n =>
        obtain ⟨h1, h2⟩ := He.ba (show (decide (c = "tuple") && its.isEmpty) = true from h)
        have h3 : its = #[] := Array.isEmpty_iff.mp h2
        subst h3
        exact .inr ⟨_, #[], n, q, congrArg Value.type (of_decide_eq_true h1), rfl, Nat.zero_le _, .nil⟩
      | _ => cases h
    | _ => cases od <;> cases dt <;> cases h
section
variable {P : Program} {w : World} {K : PySem.W.Frag} {mg : Str → Option Value} {base : Heap}
theorem fund_fun {x qual : Str} {st : Stmt} {f : Addr} {fd : FuncData} (F : FunD K x qual (defArgs st) (defBody st) (defScope st) [] [] f fd) : Fun K x qual st f fd := by
  obtain ⟨oc, od, dV, kV, doc, pm, an, cdv, ct, osl, rfl, lk, hcd, hD, _⟩ := F.ex
  rcases hD with ⟨_, rfl⟩ | ⟨h, _⟩
  · exact ⟨⟨oc, od, kV, doc, pm, an, cdv, ct, osl, rfl, lk, hcd⟩, F.kp⟩
  · exact absurd rfl h
theorem mdf_mk {C f : Addr} {m q : Str} {st : Stmt} {ps : List Str} (M : Meth K C m f) (F : ∃ fd, FunD K m q (defArgs st) (defBody st) (defScope st) [] [] f fd)
    (hb : ∀ (kV doc pm : Value) (an : Option Addr) (cdv ct : Value) (us : List Value), us.length = ps.length → bindArgs (PySem.W.fnOf m q (defArgs st) (defBody st) (defScope st) .none kV doc pm an cdv ct) ⟨us, []⟩ = pure (ps.zip us)) : MDf K C m q st ps := by
  obtain ⟨fd, F⟩ := F
  exact ⟨f, fd, M, fund_fun F, F.bindsN hb⟩
/-- one keyword-only parameter behind two others -/
theorem kw_mk {m q kn p1 p2 : Str} {st : Stmt} {f : Addr} {fd : FuncData} {dv : V} (F : FunD K m q (defArgs st) (defBody st) (defScope st) [] [(kn, dv)] f fd)
    (hb : ∀ (D : Addr) (doc pm : Value) (an : Option Addr) (cdv ct a b z : Value), bindArgs (PySem.W.fnOf m q (defArgs st) (defBody st) (defScope st) .none (.ref D) doc pm an cdv ct) ⟨[a, b], [(kn, z)]⟩ = pure [(p1, a), (p2, b), (kn, z)])
    (hd : ∀ (D : Addr) (doc pm : Value) (an : Option Addr) (cdv ct a b z : Value), KwChain D [(kn, z)] (bindArgs (PySem.W.fnOf m q (defArgs st) (defBody st) (defScope st) .none (.ref D) doc pm an cdv ct) ⟨[a, b], []⟩) [(p1, a), (p2, b), (kn, z)]) :
    KBn K fd ([p1, p2] ++ [kn]) 2 [kn] (fun us ws => us ++ ws) (fun vs zs => vs ++ zs) ∧ ∃ ds, Vals [dv] ds ∧ Binds K fd ([p1, p2] ++ [kn]) ds := by
  obtain ⟨oc, od, dV, kV, doc, pm, an, cdv, ct, osl, rfl, lk, hcd, hD, hK⟩ := F.ex
  rcases hD with ⟨_, rfl⟩ | ⟨h, _⟩
  · rcases hK with e | ⟨D, rfl, hq⟩
    · cases e
    · obtain ⟨u, n, r⟩ := hq _ (List.mem_singleton_self _)
      refine ⟨⟨fun s us ws X l1 l2 => ?_, fun r1 r2 => r1.append r2⟩, [u], .cons r .nil, fun s us X hl => ?_⟩
      · match us, ws, l1, l2 with
        | [a, b], [z], _, _ => exact .of_eq (hb D doc pm an cdv ct a b z)
      · have two : us.length = 2 := by
          rw [List.length_append] at hl
          simp only [List.length_cons, List.length_nil, List.length_append] at hl
          omega
        match us, two with
        | [a, b], _ =>
          refine BindsTo.of_looks fun M => KwChain.looks X (fun q hq => ?_) (hd D doc pm an cdv ct a b u)
          rw [List.mem_singleton.mp hq]
          exact n
  · exact absurd rfl h
end
end Vk
set_option maxHeartbeats 8000000
namespace Vk
open PySem PySem.Spec PyProof.Rows L2 GxR
theorem cnt_ok {K : PySem.W.Frag} {x : V} (hx : x = .non ∨ ∃ i : Int, 1 ≤ i ∧ x = .int i) : ∃ d, countD d = true ∧ ∀ H, Dp K H x d := by
  rcases hx with rfl | ⟨i, h, rfl⟩
  · exact ⟨.none, rfl, fun _ => .non⟩
  · exact ⟨.int i, decide_eq_true h, fun _ => .int i⟩
theorem kind_ok {K : PySem.W.Frag} {x : V} (hx : x ∈ [V.str ("queue" : Str), .str ("stack" : Str)]) : ∃ d, kindD d = true ∧ ∀ H, Dp K H x d := by
  simp only [List.mem_cons, List.not_mem_nil, or_false] at hx
  rcases hx with rfl | rfl
  · exact ⟨.str ("queue" : Str), by decide +kernel, fun _ => .str _⟩
  · exact ⟨.str ("stack" : Str), by decide +kernel, fun _ => .str _⟩
section
variable {P : Program} {w : World} {K : PySem.W.Frag} {mg : Str → Option Value} {base : Heap}
def spRule (K : PySem.W.Frag) : Sp := fun vs H Q _ => ∃ (a sc : Addr) (n : Int), vs = [.ref a] ∧ Sto sc a n H ∧ n ≤ 900000 ∧
  ∀ (v : V) (ls : List PyData) (b : PyData) (H' : Hp), Sto sc a (n + 40) H' → Kept a H H' → Dp K (Off a H') v (.tuple [.tuple ls, b]) → 1 ≤ ls.length → ls.length ≤ 6 → ls.all levelD = true → countD b = true → Q v H'
theorem scRule : FnScope ["store", "count", "levels", "k", "few", "quantum", "boosts"] ["store"] (defScope sRule) := ⟨rfl, rfl, rfl, by decide +kernel, rfl, by decide +kernel, by decide +kernel⟩
theorem ok_rule (D : Df K mg "_law_rule" sRule ["store"]) (B : Blt mg) (PK : Cl P w K mg base CX0 2 "_law_pick" ["store", "count"] spPick) : Cl P w K mg base CX0 3 "_law_rule" ["store"] (spRule K) := by
  refine cl0 D scRule (fun vs H Q E h => ?_) (fun f cdv A outer s H vs Q E hr h => ?_)
  · obtain ⟨a, sc, n, rfl, _⟩ := h
    rfl
  · obtain ⟨a, sc, n, rfl, S, n1, k⟩ := h
    refine ⟨_, pss_cons (ps_set (i := 1) scRule.nd rfl (Or.inl rfl) (pe_op op_add pe_int (pc PK hr (by decide) (pa_cons (pv 0) (pa_cons (pe_ix ix_list (pe_lst (pa_cons pe_int (pa_cons pe_int (pa_cons pe_int (pa_cons pe_int (pa_cons pe_int (pa_cons pe_int (pa_cons pe_int (pa_cons pe_int pa_nil))))))))) (pc PK hr (by decide) (pa_cons (pv 0) (pa_cons pe_int pa_nil))) (fun _ _ => rfl)) pa_nil)))))
      (pss_cons (ps_set (i := 2) scRule.nd rfl (Or.inl rfl) (pe_lst pa_nil))
      (pss_cons (ps_for PassesOwn.never rfl (pi_range1 rfl B.range (pa_cons (pv 1) pa_nil)) (pg_name (i := 3) scRule.nd rfl (Or.inl rfl))
        (pss_cons (ps_set (i := 4) scRule.nd rfl (Or.inl rfl) (pe_op op_add pe_int (pc PK hr (by decide) (pa_cons (pv 0) (pa_cons pe_int pa_nil)))))
        (pss_cons (ps_set (i := 5) scRule.nd rfl (Or.inl rfl) (pe_ix ix_list (pe_lst (pa_cons pe_non (pa_cons pe_int (pa_cons (pv 4) (pa_cons (pv 4) (pa_cons (pe_op op_add pe_int (pc PK hr (by decide) (pa_cons (pv 0) (pa_cons pe_int pa_nil)))) (pa_cons (pe_op op_pow pe_int pe_int) pa_nil))))))) (pc PK hr (by decide) (pa_cons (pv 0) (pa_cons pe_int pa_nil))) (fun _ _ => rfl)))
        (pss_one (ps_expr (pe_bm PySem.F.plainAttrs_list PySem.F.slot_list_append PySem.F.type_list_append mt_append (pv 2)
          (pa_cons (pe_tup (pa_cons (pe_ix ix_list (pe_lst (pa_cons pe_str (pa_cons pe_str pa_nil))) (pc PK hr (by decide) (pa_cons (pv 0) (pa_cons pe_int pa_nil))) (fun _ _ => rfl)) (pa_cons (pv 5) pa_nil))) pa_nil)))))))
      (pss_cons (ps_set (i := 6) scRule.nd rfl (Or.inl rfl) (pe_lst (pa_cons pe_non (pa_cons pe_non (pa_cons (pe_op op_add pe_int (pc PK hr (by decide) (pa_cons (pv 0) (pa_cons pe_int pa_nil)))) (pa_cons (pe_op op_add pe_int (pc PK hr (by decide) (pa_cons (pv 0) (pa_cons pe_int pa_nil)))) (pa_cons (pe_op op_pow pe_int pe_int) pa_nil)))))))
      (pss_one (ps_ret (pe_tup (pa_cons (pe_callTy call_tuple_of (by rfl) B.tuple (by decide +kernel) (pa_cons (pv 2) pa_nil)) (pa_cons (pe_ix ix_list (pv 6) (pc PK hr (by decide) (pa_cons (pv 0) (pa_cons pe_int pa_nil))) (fun _ _ => rfl)) pa_nil)))))))), ?_⟩
    -- count
    refine ⟨_, rfl, (by show 8 ≤ sizeLine; decide), fun q0 nq0 => ?_⟩
    have sq0 := same_new (o := .lst [.int 3, .int 3, .int 3, .int 3, .int 3, .int 3, .int 3, .int 6]) nq0
    have q0a := S.ne nq0
    refine ⟨_, rfl, a, sc, 8, n, rfl, by decide, by decide, S.same sq0, by omega, fun r H1 r0 r8 S1 K1 => ?_⟩
    obtain ⟨mv, hmv, mem⟩ := atI_mem (xs := [V.int 3, .int 3, .int 3, .int 3, .int 3, .int 3, .int 3, .int 6]) r0 r8
    obtain ⟨m, rfl, m3, m6⟩ : ∃ m : Int, mv = .int m ∧ 3 ≤ m ∧ m ≤ 6 := by
      simp only [List.mem_cons, List.not_mem_nil, or_false] at mem
      rcases mem with rfl | rfl | rfl | rfl | rfl | rfl | rfl | rfl
      all_goals exact ⟨_, rfl, by decide, by decide⟩
    refine ⟨q0, _, _, .int m, rfl, rfl, SqL.of (K1.at upd_same q0a), hmv, a, sc, m, n + 1, rfl, by omega, by omega, S1, by omega, fun c H2 c0 cm S2 K2 => ?_⟩
    refine ⟨_, _, rfl, rfl, ?_⟩
    have K02 : Kept a H H2 := (kept_same sq0).trans (K1.trans K2)
    -- levels = []
    refine ⟨(by show 0 ≤ sizeLine; decide), fun l nl => ?_⟩
    have sl := same_new (o := .lst []) nl
    have l1 : l ≠ a := S2.ne nl
    have l2 : l ≠ sc := S2.ne2 nl
    have S3 := S2.same sl
    refine ⟨_, rfl, 1 + c, rfl, by omega, by omega, ?_⟩
    have l3 : upd H2 l (.lst []) l = some (.lst []) := upd_same
    have K23 : Kept a H2 (upd H2 l (.lst [])) := kept_same sl
    generalize upd H2 l (.lst []) = H3 at S3 l3 K23
    refine for_range (lo := 0) (n := (1 + c).toNat) (fun i σ H' => ∃ (u3 u4 u5 : Option V) (xs : List V) (ds : List PyData), σ = [some (.ref a), some (.int (1 + c)), some (.ref l), u3, u4, u5, none] ∧ Sto sc a (n + 2 + 4 * i) H' ∧ Same (Off l (Off a H3)) (Off l (Off a H')) ∧
        H' l = some (.lst xs) ∧ DpAll K (Off l (Off a H')) xs ds ∧ ds.length = i ∧ ds.all levelD = true)
      ⟨none, none, none, [], [], rfl, S3.more (by omega), Same.refl _, l3, .nil, rfl, rfl⟩ ?_ ?_
    · rintro i σ G hi ⟨u3, u4, u5, xs, ds, rfl, SG, KG, lG, dG, len, okG⟩
      refine ⟨_, rfl, a, sc, 4, _, rfl, by decide, by decide, SG, by omega, fun x4 G1 x40 x44 SG1 KG1 => ?_⟩
      refine ⟨_, _, rfl, rfl, ?_⟩
      refine ⟨_, rfl, _, rfl, _, rfl, a, sc, 40, _, rfl, by decide, by decide, SG1, by omega, fun x5 G2 x50 x54 SG2 KG2 => ?_⟩
      refine ⟨_, _, rfl, rfl, _, _, rfl, rfl, ⟨by decide, by decide, by decide⟩, (by show 6 ≤ sizeLine; decide), fun q nq => ?_⟩
      have sq := same_new (o := .lst [.non, .int 1, .int (1 + x4), .int (1 + x4), .int (5 + x5), .int (10 ^ Int.toNat 30)]) nq
      have qa := SG2.ne nq
      refine ⟨_, rfl, a, sc, 6, _, rfl, by decide, by decide, SG2.same sq, by omega, fun x6 G3 x60 x66 SG3 KG3 => ?_⟩
      obtain ⟨nv, hnv, mnv⟩ := atI_mem (xs := [V.non, .int 1, .int (1 + x4), .int (1 + x4), .int (5 + x5), .int (10 ^ Int.toNat 30)]) x60 x66
      refine ⟨q, _, _, nv, rfl, rfl, SqL.of (KG3.at upd_same qa), hnv, ?_⟩
      obtain ⟨nd, nd1, nd2⟩ := cnt_ok (K := K) (x := nv) (by
        simp only [List.mem_cons, List.not_mem_nil, or_false] at mnv
        rcases mnv with rfl | rfl | rfl | rfl | rfl | rfl
        · exact .inl rfl
        · exact .inr ⟨_, by decide, rfl⟩
        · exact .inr ⟨_, by omega, rfl⟩
        · exact .inr ⟨_, by omega, rfl⟩
        · exact .inr ⟨_, by omega, rfl⟩
        · exact .inr ⟨_, by decide +kernel, rfl⟩)
      have K3 : Kept a G G3 := KG1.trans (KG2.trans ((kept_same sq).trans KG3))
      have lG3 : G3 l = some (.lst xs) := K3.at lG l1
      refine ⟨_, rfl, .inl ⟨rfl, _, SqL.of lG3⟩, ?_⟩
      refine ⟨(by show 2 ≤ sizeLine; decide), fun q2 nq2 => ?_⟩
      have sq2 := same_new (o := .lst [.str ("queue" : Str), .str ("stack" : Str)]) nq2
      have q2a := SG3.ne nq2
      refine ⟨_, rfl, a, sc, 2, _, rfl, by decide, by decide, SG3.same sq2, by omega, fun x7 G4 x70 x72 SG4 KG4 => ?_⟩
      obtain ⟨kv, hkv, mkv⟩ := atI_mem (xs := [V.str ("queue" : Str), .str ("stack" : Str)]) x70 x72
      obtain ⟨kd, kd1, kd2⟩ := kind_ok (K := K) mkv
      refine ⟨q2, _, _, kv, rfl, rfl, SqL.of (KG4.at upd_same q2a), hkv, _, rfl, (by show 2 ≤ sizeLine; decide), fun t nt => ?_⟩
      have ta := SG4.ne nt
      have lG4 : G4 l = some (.lst xs) := KG4.at (sq2.at lG3) l1
      have tl : l ≠ t := ne_of_none lG4 nt
      have st := same_new (o := .tup [kv, nv]) nt
      have xl : xs.length = i := by rw [dps_len dG, len]
      refine ⟨l, _, _, rfl, rfl, st.at lG4, by rw [xl]; exact Nat.lt_of_lt_of_le (show i < 7 by omega) (by decide), ?_⟩
      have KK : Kept a G (upd G4 t (.tup [kv, nv])) := K3.trans ((kept_same sq2).trans (KG4.trans (kept_same st)))
      have offs : Off l (Off a (upd (upd G4 t (.tup [kv, nv])) l (.lst (xs ++ [.ref t])))) = Off l (Off a (upd G4 t (.tup [kv, nv]))) := by
        rw [off_other l1, off_upd]
      refine ⟨_, _, _, xs ++ [.ref t], ds ++ [.tuple [kd, nd]], rfl, ?_, ?_, upd_same, ?_, by rw [List.length_append, len]; rfl, ?_⟩
      · exact ((SG4.same st).other l1 l2).more (by omega)
      · rw [offs]
        exact KG.trans (off_mono KK)
      · rw [offs]
        refine dps_app (dps_same (off_mono KK) dG) (.cons (.tup (SqT.of ?_) (.cons (kd2 _) (.cons (nd2 _) .nil))) .nil)
        rw [off_ne (Ne.symm tl), off_ne ta, upd_same]
      · rw [List.all_append, okG]
        show (true && ((kindD kd && countD nd) && true)) = true
        rw [kd1, nd1]
        rfl
    · rintro σ G ⟨u3, u4, u5, xs, ds, rfl, SG, KG, lG, dG, len, okG⟩
      have KGf : Kept a H G := K02.trans (kept_of_off nl ((off_mono K23).trans KG))
      refine ⟨_, rfl, a, sc, 9, _, rfl, by decide, by decide, SG, by omega, fun y1 G1 y10 y19 SG1 KG1 => ?_⟩
      refine ⟨_, _, rfl, rfl, _, rfl, a, sc, 90, _, rfl, by decide, by decide, SG1, by omega, fun y2 G2 y20 y29 SG2 KG2 => ?_⟩
      refine ⟨_, _, rfl, rfl, _, _, rfl, rfl, ⟨by decide, by decide, by decide⟩, (by show 5 ≤ sizeLine; decide), fun q nq => ?_⟩
      have sq := same_new (o := .lst [.non, .non, .int (1 + y1), .int (10 + y2), .int (10 ^ Int.toNat 30)]) nq
      have qa := SG2.ne nq
      have lq : l ≠ q := ne_of_none (KG2.at (KG1.at lG l1) l1) nq
      have lG2 : upd G2 q (.lst [.non, .non, .int (1 + y1), .int (10 + y2), .int (10 ^ Int.toNat 30)]) l = some (.lst xs) := sq.at (KG2.at (KG1.at lG l1) l1)
      refine ⟨_, rfl, l, xs, rfl, .inl ⟨SqL.of lG2, fun tp ntp => ?_⟩⟩
      have stp := same_new (o := .tup xs) ntp
      have tpa := (SG2.same sq).ne ntp
      refine ⟨_, rfl, _, rfl, a, sc, 5, _, rfl, by decide, by decide, (SG2.same sq).same stp, by omega, fun y3 G3 y30 y35 SG3 KG3 => ?_⟩
      obtain ⟨nv, hnv, mnv⟩ := atI_mem (xs := [V.non, .non, .int (1 + y1), .int (10 + y2), .int (10 ^ Int.toNat 30)]) y30 y35
      refine ⟨q, _, _, nv, rfl, rfl, SqL.of (KG3.at (stp.at upd_same) qa), hnv, (by show 2 ≤ sizeLine; decide), fun p np => ?_⟩
      obtain ⟨nd, nd1, nd2⟩ := cnt_ok (K := K) (x := nv) (by
        simp only [List.mem_cons, List.not_mem_nil, or_false] at mnv
        rcases mnv with rfl | rfl | rfl | rfl | rfl
        · exact .inl rfl
        · exact .inl rfl
        · exact .inr ⟨_, by omega, rfl⟩
        · exact .inr ⟨_, by omega, rfl⟩
        · exact .inr ⟨_, by decide +kernel, rfl⟩)
      have sp := same_new (o := .tup [.ref tp, nv]) np
      have pa := SG3.ne np
      have KF : Kept a G (upd G3 p (.tup [.ref tp, nv])) := KG1.trans (KG2.trans ((kept_same sq).trans ((kept_same stp).trans (KG3.trans (kept_same sp)))))
      have dG' : DpAll K (Off a G) xs ds := dps_same (off_sub l _) dG
      refine k (.ref p) ds nd _ ((SG3.same sp).more (by omega)) (KGf.trans KF) (.tup (SqT.of ?_) (.cons (.tup (a := tp) (SqT.of ?_) (dps_same KF dG')) (.cons (nd2 _) .nil))) (by omega) (by omega) okG nd1
      · rw [off_ne pa, upd_same]
      · rw [off_ne tpa]
        exact sp.at (KG3.at upd_same tpa)
end
end Vk
set_option maxHeartbeats 8000000
/-! the law's lengths and its long rules -/
namespace Vk
open PySem PySem.Spec PyProof.Rows L2 GxR
section
variable {P : Program} {w : World} {K : PySem.W.Frag} {mg : Str → Option Value} {base : Heap}
abbrev NLQ : List Str := ["store", "count", "most", "k"]
theorem dps_ints {H : Hp} : ∀ l : List Int, DpAll K H (l.map V.int) (l.map PyData.int)
  | [] => .nil
  | x :: l => .cons (.int x) (dps_ints l)
def spLqs (K : PySem.W.Frag) : Sp := fun vs H Q _ => ∃ (a sc : Addr) (n c m : Int), vs = [.ref a, .int c, .int m] ∧ Sto sc a n H ∧ n ≤ 900000 ∧ 0 ≤ c ∧ c ≤ 12 ∧ 3 ≤ m ∧ m ≤ 600 ∧
  ∀ (t : Addr) (L : List Int) (H' : Hp), Sto sc a (n + 24) H' → Kept a H H' → Dp K (Off a H') (.ref t) (.tuple (L.map PyData.int)) → (L.length : Int) = c → (∀ l ∈ L, 1 ≤ l ∧ l ≤ 600) → Q (.ref t) H'
theorem scLqs : FnScope NLQ ["store", "count", "most"] (defScope sLengths) := ⟨rfl, rfl, rfl, by decide +kernel, rfl, by decide +kernel, by decide +kernel⟩
theorem ok_lqs (D : Df K mg "_law_lengths" sLengths ["store", "count", "most"]) (B : Blt mg) (PK : Cl P w K mg base CX0 2 "_law_pick" ["store", "count"] spPick) : Cl P w K mg base CX0 3 "_law_lengths" ["store", "count", "most"] (spLqs K) := by
  refine cl0 D scLqs (fun vs H Q E h => ?_) (fun f cdv A outer s H vs Q E hr h => ?_)
  · obtain ⟨a, sc, n, c, m, rfl, _⟩ := h
    rfl
  · obtain ⟨a, sc, n, c, m, rfl, S, n1, c0, c12, m3, m6, k⟩ := h
    refine ⟨_, pss_one (ps_ret (pe_callTy call_tuple_of (by rfl) B.tuple (by decide +kernel) (pa_cons (pe_lc (own := [("k", 3)]) (g := gName 3) (tt := tYes) (te := tOp (rI0 fun i j => .int (i + j)) (tC (.int 1)) (tCal spPick (tCons (tVar 0) (tCons (tOp (rIxL K) (tLst (tCons (tC (.int 3)) (tCons (tVar 2) tNil))) (tCal spPick (tCons (tVar 0) (tCons (tC (.int 2)) tNil)))) tNil)))) (by rfl) scLqs.nd (pi_range1 rfl B.range (pa_cons (pv 1) pa_nil)) (blkOk_by (own := [("k", 3)]) (N := NLQ) (sc := defScope sLengths) (by decide +kernel))
        (fun _ _ _ _ _ => pg_name (i := 3) scLqs.nd rfl (Or.inl rfl)) (fun _ _ _ _ _ => pts_nil) (fun _ _ _ _ _ => pe_op op_add pe_int (pc PK hr (by decide) (pa_cons (pv 0) (pa_cons (pe_ix ix_list (pe_lst (pa_cons pe_int (pa_cons (pv 2) pa_nil))) (pc PK hr (by decide) (pa_cons (pv 0) (pa_cons pe_int pa_nil))) (fun _ _ => rfl)) pa_nil))))) pa_nil))), ?_⟩
    refine ⟨_, rfl, c, rfl, by omega, by omega, fun D nD => ?_⟩
    have d1 : D ≠ a := S.ne nD
    have d2 : D ≠ sc := S.ne2 nD
    refine lc_it (walk_range (lo := 0) (n := c.toNat)) (fun i Hc => ∃ L : List Int, L.length = i ∧ (∀ l ∈ L, 1 ≤ l ∧ l ≤ 600) ∧ Hc D = some (.lst (L.map V.int)) ∧ Sto sc a (n + 2 * (i : Nat)) Hc ∧ Same (Off D (Off a H)) (Off D (Off a Hc)))
      ⟨[], rfl, fun l hl => (nomatch hl), upd_same, (S.same (same_new nD)).more (by omega), off_mono (off_mono (same_new nD))⟩ (fun i Hc _ _ => trivial) ?_ ?_
    · rintro i y Hc0 Hc hi ⟨L, l1, l2, l3, l4, l5⟩ ⟨rfl, rfl⟩
      refine ⟨rfl, _, rfl, _, rfl, by show 2 ≤ sizeLine; decide, fun q nq => ?_⟩
      have sq := same_new (o := .lst [V.int 3, .int m]) nq
      have qa := l4.ne nq
      have qD : q ≠ D := fun e => by rw [e, l3] at nq; cases nq
      refine ⟨_, rfl, a, sc, 2, _, rfl, by decide, by decide, l4.same sq, by omega, fun r1 G1 r10 r12 S1 K1 => ?_⟩
      obtain ⟨mv, hmv, mem⟩ := atI_mem (xs := [V.int 3, .int m]) r10 r12
      obtain ⟨b, rfl, b3, b6⟩ : ∃ b : Int, mv = .int b ∧ 3 ≤ b ∧ b ≤ 600 := by
        simp only [List.mem_cons, List.not_mem_nil, or_false] at mem
        rcases mem with rfl | rfl
        · exact ⟨_, rfl, by decide, by decide⟩
        · exact ⟨_, rfl, m3, m6⟩
      refine ⟨q, _, _, .int b, rfl, rfl, SqL.of (K1.at upd_same qa), hmv, a, sc, b, _, rfl, by omega, by omega, S1, by omega, fun r2 G2 r20 r22 S2 K2 => ?_⟩
      have KK : Kept a Hc G2 := (kept_same sq).trans (K1.trans K2)
      have hD2 : G2 D = some (.lst (L.map V.int)) := KK.at l3 d1
      refine ⟨_, _, rfl, rfl, _, hD2, by rw [List.length_map, l1]; exact Nat.lt_of_le_of_lt (show i ≤ 12 by omega) (by decide), L ++ [1 + r2], by rw [List.length_append, l1]; rfl, fun l hl => ?_, by rw [upd_same, List.map_append]; rfl, (S2.other d1 d2).more (by omega), ?_⟩
      · rcases List.mem_append.mp hl with hl | hl
        · exact l2 l hl
        · rw [List.mem_singleton.mp hl]
          omega
      · rw [off_other d1, off_upd]
        exact l5.trans (off_mono KK)
    rintro Hc ⟨L, l1, l2, l3, l4, l5⟩
    refine ⟨D, _, rfl, .inl ⟨SqL.of l3, fun t nt => ?_⟩⟩
    have st := same_new (o := .tup (L.map V.int)) nt
    have ta := l4.ne nt
    exact k t L _ ((l4.same st).more (by omega)) ((kept_of_off nD l5).trans (kept_same st)) (.tup (SqT.of (by rw [off_ne ta, upd_same])) (dps_ints L)) (by omega) l2
end
end Vk
set_option maxHeartbeats 4000000
/-! the finishes, unit by unit; lengths for names; what can be compared -/
namespace Vk
open PySem PySem.Spec PyProof.Rows L2 GxR
section
variable {r : Rl} {c : Int} {nd : Str → Int} {J : List Jd} {C : Cs}
theorem Cs.lv_fin : C.s.lv c (C.fin c nd 1) = C.fin c nd 1 := by
  unfold Bd.lv
  have e : (C.s.run c).filter (fun x => decide (x ∈ C.fin c nd 1)) = (C.s.run c).filter (fun x => decide (getS C.s.ran x + 1 = nd x)) := List.filter_congr fun x hx => by
    have w : x ∈ C.fin c nd 1 ↔ getS C.s.ran x + 1 = nd x := by
      unfold Cs.fin
      rw [List.mem_filter, decide_eq_true_iff]
      exact ⟨fun z => z.2, fun z => ⟨hx, z⟩⟩
    exact decide_eq_decide.mpr w
  rw [e]
  rfl
theorem Cs.step_fins (h : C.s.Ok0) : (C.step r c nd).s.fins = if C.fin c nd 1 = [] then C.s.fins else C.s.fins ++ [(C.s.now + 1, C.s.run c, C.fin c nd 1)] := by
  obtain ⟨_, _, e⟩ := enters_same (r := r) (js := (⟨C.s.endUnits r c 1 (C.fin c nd 1), C.cm⟩ : Cs).arr) (s := C.s.endUnits r c 1 (C.fin c nd 1))
  show (enters r (C.s.endUnits r c 1 (C.fin c nd 1)) _).fins = _
  rw [e, (Bd.units_after (r := r) h c 1 (C.fin c nd 1)).fins, Cs.lv_fin]
theorem Cs.step_finS (h : C.s.Ok0) : finS (C.step r c nd).s = finS C.s ++ (C.fin c nd 1).map fun y => (y, C.s.now + 1) := by
  unfold finS
  rw [Cs.step_fins h]
  by_cases e : C.fin c nd 1 = []
  · rw [if_pos e, e, List.map_nil, List.append_nil]
  · rw [if_neg e, List.flatMap_append]
    simp
theorem Cs.step_log (h : C.s.Ok0) : logD (C.step r c nd).s = logD C.s ++ if C.fin c nd 1 = [] then [] else [.tuple [.int (C.s.now + 1), .int ((C.fin c nd 1).length : Nat)]] := by
  unfold logD
  rw [Cs.step_fins h]
  by_cases e : C.fin c nd 1 = []
  · rw [if_pos e, if_pos e, List.append_nil]
  · rw [if_neg e, if_neg e, List.map_append]
    rfl
end
/-- lengths by name -/
theorem nd_of : ∀ {J : List Jd} {L : List Int}, (J.map (·.n)).Nodup → J.length = L.length → ∃ nd : Str → Int, (J.map fun j => nd j.n) = L
  | [], [], _, _ => ⟨fun _ => 0, rfl⟩
  | j :: J, l :: L, h, e => by
    obtain ⟨n1, n2⟩ := List.nodup_cons.mp h
    obtain ⟨nd, hn⟩ := nd_of (J := J) (L := L) n2 (Nat.succ.inj e)
    refine ⟨fun x => if x = j.n then l else nd x, ?_⟩
    show (if j.n = j.n then l else nd j.n) :: (J.map fun i => if i.n = j.n then l else nd i.n) = l :: L
    rw [if_pos rfl, ← hn]
    congr 1
    refine List.map_congr_left fun i hi => ?_
    rw [if_neg fun e : i.n = j.n => n1 (List.mem_map.mpr ⟨i, hi, e⟩)]
theorem sum_leb {l : List Int} {b : Int} : (∀ x ∈ l, x ≤ b) → l.sum ≤ l.length * b := by
  induction l with
  | nil => intro _; simp
  | cons x l ih =>
    intro h
    have h1 := h x (List.mem_cons_self ..)
    have h2 := ih fun y hy => h y (List.mem_cons_of_mem _ hy)
    rw [List.sum_cons, List.length_cons, Int.natCast_add, Int.add_mul]
    simp only [Int.cast_ofNat_Int, Int.one_mul]
    omega
theorem sh_ints (l : List Int) : SeqAt.shaped (.tuple (l.map PyData.int)) = true :=
  shaped_mk (n := 3) (shaped_tuple (n := 2) fun x _ => by simp [PyData.canLay0, PyData.depth]) (by decide)
theorem sh_pies {l : List Pc} (h : ∀ p ∈ l, ∀ x ∈ p.2.2, PyData.strOk x = true) : SeqAt.shaped (.tuple (l.map pieD)) = true :=
  shaped_mk (n := 6) (shaped_tuple (n := 5) fun p hp => by
    obtain ⟨a, b⟩ := shaped_tuple (f := PyData.str) (n := 2) (xs := p.2.2) fun x hx => by simp [PyData.canLay0, PyData.depth, h p hp x hx]
    unfold pieD
    have a' : PyData.canLayAll0 (p.2.2.map PyData.str) = true := by simpa [PyData.canLay0] using a
    refine ⟨by simp [PyData.canLay0, PyData.canLayAll0, a'], ?_⟩
    simp only [PyData.depth, PyData.depthAll] at b ⊢
    omega) (by decide)
end Vk
set_option maxHeartbeats 4000000
/-! marks, as mathematics -/
namespace Vk
open PySem PySem.Spec PyProof.Rows L2
/-- the places of those in fin -/
def plsF (run fin : List Str) : List Nat := (List.range run.length).filter fun i => match run[i]? with
  | some x => decide (x ∈ fin)
  | none => false
abbrev Mk1 := Int × List Nat
def markD (m : Mk1) : PyData := .tuple [.int m.1, .tuple (m.2.map fun i => PyData.int (i : Nat))]
def marksS (s : Bd) : List Mk1 := s.fins.map fun f => (f.1, plsF f.2.1 f.2.2)
theorem pls_nil {fin : List Str} : plsF [] fin = [] := rfl
theorem pls_snoc {run fin : List Str} {x : Str} : plsF (run ++ [x]) fin = plsF run fin ++ if x ∈ fin then [run.length] else [] := by
  unfold plsF
  rw [List.length_append, List.length_singleton, List.range_succ, List.filter_append]
  congr 1
  · refine List.filter_congr fun i hi => ?_
    have : i < run.length := List.mem_range.mp hi
    rw [List.getElem?_append_left this]
  · by_cases h : x ∈ fin
    · rw [if_pos h, List.filter_cons, if_pos]
      · rfl
      · simp [h]
    · rw [if_neg h, List.filter_cons, if_neg]
      · rfl
      · simp [h]
theorem pls_take {run fin : List Str} {i : Nat} {x : Str} (h : run[i]? = some x) : plsF (run.take (i + 1)) fin = plsF (run.take i) fin ++ if x ∈ fin then [i] else [] := by
  have hi := (List.getElem?_eq_some_iff.mp h).1
  rw [List.take_add_one, h]
  show plsF (run.take i ++ [x]) fin = _
  rw [pls_snoc, List.length_take, Nat.min_eq_left (Nat.le_of_lt hi)]
theorem pls_at {run fin : List Str} {i : Nat} (h : i ∈ plsF run fin) : ∃ x, run[i]? = some x ∧ x ∈ fin := by
  obtain ⟨_, h2⟩ := List.mem_filter.mp h
  cases e : run[i]? with
  | none => rw [e] at h2; cases h2
  | some x =>
    rw [e] at h2
    exact ⟨x, rfl, of_decide_eq_true h2⟩
theorem pls_lt {run fin : List Str} {i : Nat} (h : i ∈ plsF run fin) : i < run.length := List.mem_range.mp (List.mem_filter.mp h).1
theorem pls_asc (run fin : List Str) : (plsF run fin).Pairwise (· < ·) := List.Pairwise.filter _ List.pairwise_lt_range
/-- the names at these places -/
theorem pls_names {run fin : List Str} : (plsF run fin).map (fun i => run[i]?) = (run.filter fun x => decide (x ∈ fin)).map some := by
  have gen : ∀ n : Nat, n ≤ run.length → (plsF (run.take n) fin).map (fun i => run[i]?) = ((run.take n).filter fun x => decide (x ∈ fin)).map some := fun n => by
    induction n with
    | zero => intro _; simp [plsF]
    | succ n ih =>
      intro hn
      have e : run[n]? = some run[n] := List.getElem?_eq_getElem hn
      rw [pls_take e, List.take_add_one, e, List.map_append, List.filter_append, List.map_append, ih (by omega)]
      congr 1
      by_cases h : run[n] ∈ fin
      · simp [h, e]
      · simp [h]
  have z := gen run.length (Nat.le_refl _)
  rw [List.take_length] at z
  exact z
theorem pls_len {run fin : List Str} : (plsF run fin).length = (run.filter fun x => decide (x ∈ fin)).length := by
  have z := congrArg List.length (pls_names (run := run) (fin := fin))
  rw [List.length_map, List.length_map] at z
  exact z
section
variable {r : Rl} {c : Int} {nd : Str → Int} {J : List Jd} {C : Cs}
theorem Cs.step_marks (h : C.s.Ok0) : marksS (C.step r c nd).s = marksS C.s ++ if C.fin c nd 1 = [] then [] else [(C.s.now + 1, plsF (C.s.run c) (C.fin c nd 1))] := by
  unfold marksS
  rw [Cs.step_fins h]
  by_cases e : C.fin c nd 1 = []
  · rw [if_pos e, if_pos e, List.append_nil]
  · rw [if_neg e, if_neg e, List.map_append]
    rfl
theorem marks_names : (plsF (C.s.run c) (C.fin c nd 1)).map (fun i => (C.s.run c)[i]?) = (C.fin c nd 1).map some := by
  rw [pls_names]
  congr 1
  exact Cs.lv_fin
theorem marks_len : (plsF (C.s.run c) (C.fin c nd 1)).length = (C.fin c nd 1).length := by
  have z := congrArg List.length (marks_names (c := c) (nd := nd) (C := C))
  rw [List.length_map, List.length_map] at z
  exact z
/-- who has come had to come -/
def Cs.In (J : List Jd) (C : Cs) : Prop := ∀ j ∈ J, j.n ∈ C.s.ran.map (·.1) → Jd.reach C.s.now C.s.done j = true
theorem enters_keys : ∀ {js : List Jd} {s : Bd}, (enters r s js).ran.map (·.1) = s.ran.map (·.1) ++ js.map (·.n)
  | [], s => (List.append_nil _).symm
  | j :: js, s => by
    show (enters r (s.enter r j.n j.e) js).ran.map (·.1) = _
    rw [enters_keys]
    show (s.ran ++ [(j.n, (0 : Int))]).map (·.1) ++ _ = _
    rw [List.map_append, List.append_assoc]
    rfl
theorem Cs.In.letIn (jok : JOk nd J) (sub : ∀ j ∈ C.cm, j ∈ J) (h : C.In J) : (C.letIn r).In J := fun j hj m => by
  obtain ⟨a, b, _⟩ := enters_same (r := r) (js := C.arr) (s := C.s)
  have m : j.n ∈ (Vk.enters r C.s C.arr).ran.map (·.1) := m
  show Jd.reach (Vk.enters r C.s C.arr).now (Vk.enters r C.s C.arr).done j = true
  rw [a, b]
  rw [enters_keys] at m
  rcases List.mem_append.mp m with m | m
  · exact h j hj m
  · obtain ⟨i, hi, e⟩ := List.mem_map.mp m
    obtain ⟨i1, i2⟩ := List.mem_filter.mp hi
    rw [← jok.inj (sub i i1) hj e]
    exact i2
theorem reach_mono {m m' f f' : Int} {j : Jd} (hm : m ≤ m') (hf : f ≤ f') (h : Jd.reach m f j = true) : Jd.reach m' f' j = true := by
  unfold Jd.reach at h ⊢
  have := of_decide_eq_true h
  refine decide_eq_true ?_
  split
  · rename_i e
    rw [if_pos e] at this
    omega
  · rename_i e
    rw [if_neg e] at this
    omega
theorem Cs.In.step (rok : r.Ok) (jok : JOk nd J) (ok : C.Ok r nd J) (h : C.In J) : (C.step r c nd).In J := by
  obtain ⟨u1, u2, u3⟩ := ok.unit rok jok (c := c)
  have a := Bd.units_after (r := r) ok.bd.toOk0 c 1 (C.fin c nd 1)
  refine Cs.In.letIn jok ok.sub fun j hj m => ?_
  have m : j.n ∈ (C.s.endUnits r c 1 (C.fin c nd 1)).ran.map (·.1) := m
  rw [a.ran] at m
  show Jd.reach (C.s.endUnits r c 1 (C.fin c nd 1)).now (C.s.endUnits r c 1 (C.fin c nd 1)).done j = true
  rw [u2, a.now]
  exact reach_mono (by omega) (by omega) (h j hj m)
theorem Cs.at_in (rok : r.Ok) (jok : JOk nd J) : ∀ k, ((Cs.zero r J).at r c nd k).In J
  | 0 => Cs.In.letIn jok (fun j hj => hj) fun j _ m => nomatch (show j.n ∈ ([] : List Str) from m)
  | k + 1 => by
    obtain ⟨z1, z2⟩ := Cs.zero_ok (r := r) rok jok
    exact Cs.In.step rok jok (Cs.at_ok rok jok z1 z2 k).1 (Cs.at_in rok jok k)
/-- so many have come -/
theorem Cs.Ok.come_len (jok : JOk nd J) (ok : C.Ok r nd J) (st : C.Settled) (h : C.In J) : countA (J.map jdD) C.s.now C.s.done = C.s.ran.length := by
  unfold countA
  rw [List.map_map, List.countP_map]
  have e : J.countP (reachA C.s.now C.s.done ∘ (arrD ∘ jdD)) = J.countP (Jd.reach C.s.now C.s.done) := List.countP_congr fun j _ => by
    show reachA C.s.now C.s.done (arrD (jdD j)) = true ↔ _
    rw [reach_jd]
  rw [e]
  have nJ : J.Nodup := by
    have := jok.nodup
    exact List.Pairwise.of_map _ (fun a b (h : a.n ≠ b.n) e => h (by rw [e])) this
  have p : (J.filter fun j => !Jd.reach C.s.now C.s.done j).Perm C.cm := (List.perm_ext_iff_of_nodup (nJ.filter _) ok.cmn).mpr fun j => by
    rw [List.mem_filter]
    constructor
    · rintro ⟨h1, h2⟩
      rcases ok.ent j h1 with w | w
      · exact w
      · rw [h j h1 w] at h2
        cases h2
    · intro hj
      exact ⟨ok.sub j hj, by rw [st j hj]; rfl⟩
  have z := p.length_eq
  rw [← List.countP_eq_length_filter] at z
  have t := List.length_eq_countP_add_countP (p := Jd.reach C.s.now C.s.done) (l := J)
  have t2 : J.countP (fun j => decide ¬Jd.reach C.s.now C.s.done j = true) = J.countP (fun j => !Jd.reach C.s.now C.s.done j) := List.countP_congr fun j _ => by
    cases Jd.reach C.s.now C.s.done j <;> simp
  rw [t2, z] at t
  have := ok.len
  omega
def presI (js : List PyData) (u f : Int) : Int := (countA js (u - 1) f : Int) - f
def runI (js : List PyData) (u f c : Int) : Int := if c < presI js u f then c else presI js u f
/-- so many run -/
theorem Cs.Ok.run_len (jok : JOk nd J) (c0 : 0 ≤ c) (ok : C.Ok r nd J) (st : C.Settled) (h : C.In J) : runI (J.map jdD) (C.s.now + 1) C.s.done c = ((C.s.run c).length : Nat) := by
  unfold runI presI
  rw [show C.s.now + 1 - 1 = C.s.now by omega, ok.come_len jok st h]
  have e := ok.done_len
  have l : ((C.s.run c).length : Int) = if c < (C.s.order.length : Int) then c else (C.s.order.length : Int) := by
    unfold Bd.run
    rw [List.length_take]
    split <;> omega
  rw [l, show (C.s.ran.length : Int) - C.s.done = (C.s.order.length : Int) by omega]
/-- the finishes, one after the other -/
theorem fins_more (rok : r.Ok) (jok : JOk nd J) (k : Nat) : ∀ j, ∃ l, ((Cs.zero r J).at r c nd (k + j)).s.fins = ((Cs.zero r J).at r c nd k).s.fins ++ l
  | 0 => ⟨[], (List.append_nil _).symm⟩
  | j + 1 => by
    obtain ⟨l, h⟩ := fins_more rok jok k j
    obtain ⟨z1, z2⟩ := Cs.zero_ok (r := r) rok jok
    have ok := (Cs.at_ok (c := c) rok jok z1 z2 (k + j)).1
    have e := Cs.step_fins (r := r) (c := c) (nd := nd) ok.bd.toOk0
    have e : ((Cs.zero r J).at r c nd (k + (j + 1))).s.fins = _ := e
    rw [e, h]
    split
    · exact ⟨l, rfl⟩
    · exact ⟨l ++ _, List.append_assoc ..⟩
/-- the next finish -/
theorem fins_next (rok : r.Ok) (jok : JOk nd J) {T i : Nat} {f : Int × List Str × List Str} (hx : ((Cs.zero r J).at r c nd T).s.fins[i]? = some f) : ∀ (d k : Nat), k + d = T → ((Cs.zero r J).at r c nd k).s.fins = ((Cs.zero r J).at r c nd T).s.fins.take i →
    ∃ m, k ≤ m ∧ m < T ∧ (∀ j, k ≤ j → j < m → ((Cs.zero r J).at r c nd j).fin c nd 1 = []) ∧ ((Cs.zero r J).at r c nd m).fin c nd 1 ≠ [] ∧ f = ((m : Int) + 1, ((Cs.zero r J).at r c nd m).s.run c, ((Cs.zero r J).at r c nd m).fin c nd 1) ∧
      ((Cs.zero r J).at r c nd (m + 1)).s.fins = ((Cs.zero r J).at r c nd T).s.fins.take (i + 1) ∧ ((Cs.zero r J).at r c nd m).s.fins = ((Cs.zero r J).at r c nd T).s.fins.take i
  | 0, k, e, h => by
    rw [Nat.add_zero] at e
    subst e
    have l := congrArg List.length h
    rw [List.length_take] at l
    have := (List.getElem?_eq_some_iff.mp hx).1
    omega
  | d + 1, k, e, h => by
    obtain ⟨z1, z2⟩ := Cs.zero_ok (r := r) rok jok
    obtain ⟨ok, _, nw⟩ := Cs.at_ok (c := c) rok jok z1 z2 k
    rw [Cs.zero_now, Int.zero_add] at nw
    have sf := Cs.step_fins (r := r) (c := c) (nd := nd) ok.bd.toOk0
    have sf : ((Cs.zero r J).at r c nd (k + 1)).s.fins = _ := sf
    by_cases w : ((Cs.zero r J).at r c nd k).fin c nd 1 = []
    · rw [if_pos w, h] at sf
      obtain ⟨m, m1, m2, m3, m4, m5, m6, m7⟩ := fins_next rok jok hx d (k + 1) (by omega) sf
      refine ⟨m, by omega, m2, fun j j1 j2 => ?_, m4, m5, m6, m7⟩
      rcases Nat.lt_or_ge k j with lt | ge
      · exact m3 j lt j2
      · rw [show j = k by omega]
        exact w
    · rw [if_neg w] at sf
      obtain ⟨l, hl⟩ := fins_more (c := c) rok jok (k + 1) d
      rw [show k + 1 + d = T by omega, sf, nw] at hl
      have lenk : ((Cs.zero r J).at r c nd k).s.fins.length = i := by
        rw [h, List.length_take]
        have := (List.getElem?_eq_some_iff.mp hx).1
        omega
      have fe : f = ((k : Int) + 1, ((Cs.zero r J).at r c nd k).s.run c, ((Cs.zero r J).at r c nd k).fin c nd 1) := by
        rw [hl, List.getElem?_append_left (by rw [List.length_append, List.length_singleton]; omega), List.getElem?_append_right (by omega), lenk, Nat.sub_self] at hx
        exact (Option.some.inj hx).symm
      refine ⟨k, Nat.le_refl _, by omega, fun j j1 j2 => by omega, w, fe, ?_, h⟩
      rw [sf, nw, hl, List.take_left' (by rw [List.length_append, List.length_singleton]; omega)]
/-- marks that are right, from here on -/
def MkOk (js : List PyData) (c : Int) : Int → Int → List Mk1 → Prop
  | _, f, [] => (js.length : Int) ≤ f
  | b, f, m :: ms => b + 1 ≤ m.1 ∧ m.2 ≠ [] ∧ m.2.Pairwise (· < ·) ∧ (∀ i ∈ m.2, ((i : Nat) : Int) < runI js m.1 f c) ∧ MkOk js c m.1 (f + (m.2.length : Nat)) ms
theorem marks_ok (rok : r.Ok) (jok : JOk nd J) (c0 : 0 ≤ c) {T : Nat} (don : ((Cs.zero r J).at r c nd T).s.done = (J.length : Nat)) : ∀ (n i k : Nat) (b : Int), i + n = ((Cs.zero r J).at r c nd T).s.fins.length → k ≤ T → b ≤ (k : Int) → ((Cs.zero r J).at r c nd k).s.fins = ((Cs.zero r J).at r c nd T).s.fins.take i →
    MkOk (J.map jdD) c b ((Cs.zero r J).at r c nd k).s.done ((marksS ((Cs.zero r J).at r c nd T).s).drop i)
  | 0, i, k, b, e, kT, hb, h => by
    obtain ⟨z1, z2⟩ := Cs.zero_ok (r := r) rok jok
    have ok := (Cs.at_ok (c := c) rok jok z1 z2 k).1
    have okT := (Cs.at_ok (c := c) rok jok z1 z2 T).1
    have e2 : (marksS ((Cs.zero r J).at r c nd T).s).drop i = [] := by
      refine List.drop_eq_nil_of_le ?_
      unfold marksS
      rw [List.length_map]
      omega
    rw [e2]
    show ((J.map jdD).length : Int) ≤ _
    rw [List.take_of_length_le (by omega)] at h
    rw [List.length_map, ok.dn, h, ← okT.dn, don]
    exact Int.le_refl _
  | n + 1, i, k, b, e, kT, hb, h => by
    obtain ⟨z1, z2⟩ := Cs.zero_ok (r := r) rok jok
    have lt : i < ((Cs.zero r J).at r c nd T).s.fins.length := by omega
    have hx := List.getElem?_eq_getElem lt
    generalize ((Cs.zero r J).at r c nd T).s.fins[i] = f at hx
    obtain ⟨m, m1, m2, m3, m4, m5, m6, m7⟩ := fins_next rok jok hx (T - k) k (by omega) h
    obtain ⟨okm, stm, nwm⟩ := Cs.at_ok (c := c) rok jok z1 z2 m
    rw [Cs.zero_now, Int.zero_add] at nwm
    have ok := (Cs.at_ok (c := c) rok jok z1 z2 k).1
    have ok1 := (Cs.at_ok (c := c) rok jok z1 z2 (m + 1)).1
    have dm : ((Cs.zero r J).at r c nd m).s.done = ((Cs.zero r J).at r c nd k).s.done := by rw [okm.dn, ok.dn, m7, h]
    have d1 : ((Cs.zero r J).at r c nd (m + 1)).s.done = ((Cs.zero r J).at r c nd k).s.done + ((((Cs.zero r J).at r c nd m).fin c nd 1).length : Nat) := by
      rw [ok1.dn, m6, List.take_add_one, hx, m5, ok.dn, h]
      simp
    have dr : (marksS ((Cs.zero r J).at r c nd T).s).drop i = ((m : Int) + 1, plsF (((Cs.zero r J).at r c nd m).s.run c) (((Cs.zero r J).at r c nd m).fin c nd 1)) :: (marksS ((Cs.zero r J).at r c nd T).s).drop (i + 1) := by
      have hm : (marksS ((Cs.zero r J).at r c nd T).s)[i]? = some ((m : Int) + 1, plsF (((Cs.zero r J).at r c nd m).s.run c) (((Cs.zero r J).at r c nd m).fin c nd 1)) := by
        unfold marksS
        rw [List.getElem?_map, hx, m5]
        rfl
      obtain ⟨h1, h2⟩ := List.getElem?_eq_some_iff.mp hm
      rw [List.drop_eq_getElem_cons h1, h2]
    rw [dr]
    have rl := okm.run_len jok c0 stm (Cs.at_in (c := c) rok jok m)
    rw [nwm, dm] at rl
    refine ⟨by show b + 1 ≤ (m : Int) + 1; omega, fun e => m4 ?_, pls_asc _ _, fun j hj => ?_, ?_⟩
    · have z := marks_len (c := c) (nd := nd) (C := (Cs.zero r J).at r c nd m)
      have e : plsF (((Cs.zero r J).at r c nd m).s.run c) (((Cs.zero r J).at r c nd m).fin c nd 1) = [] := e
      rw [e] at z
      exact List.eq_nil_of_length_eq_zero z.symm
    · rw [rl]
      have := pls_lt hj
      omega
    · show MkOk _ c ((m : Int) + 1) (((Cs.zero r J).at r c nd k).s.done + ((plsF (((Cs.zero r J).at r c nd m).s.run c) (((Cs.zero r J).at r c nd m).fin c nd 1)).length : Nat)) _
      rw [marks_len, ← d1]
      exact marks_ok rok jok c0 don n (i + 1) (m + 1) ((m : Int) + 1) (by omega) (by omega) (by omega) m6
theorem sum_zero {f : Jd → Int} : ∀ {l : List Jd}, (∀ j ∈ l, 0 ≤ f j) → (l.map f).sum = 0 → ∀ j ∈ l, f j = 0
  | [], _, _, j, hj => nomatch hj
  | i :: l, h, e, j, hj => by
    rw [List.map_cons, List.sum_cons] at e
    have h1 := h i (List.mem_cons_self ..)
    have h2 := sum_nonneg fun k hk => h k (List.mem_cons_of_mem i hk)
    rcases List.mem_cons.mp hj with z | z
    · rw [z]
      omega
    · exact sum_zero (fun k hk => h k (List.mem_cons_of_mem i hk)) (by omega) j z
/-- all have their lengths at the end -/
theorem Cs.Ok.all_ran (h : C.Ok r nd J) (don : C.s.done = (J.length : Nat)) : ∀ j ∈ J, j.n ∈ C.s.ran.map (·.1) ∧ getS C.s.ran j.n = nd j.n := fun j hj => by
  have e := h.done_len
  have l := h.len
  have o : C.s.order = [] := List.eq_nil_of_length_eq_zero (by omega)
  have cm : C.cm = [] := List.eq_nil_of_length_eq_zero (by omega)
  have m : j.n ∈ C.s.ran.map (·.1) := (h.ent j hj).resolve_left (by rw [cm]; exact fun w => nomatch w)
  exact ⟨m, h.fi j.n m (by rw [o]; exact fun w => nomatch w)⟩
end
end Vk
set_option maxHeartbeats 4000000
/-! a course by marks, as mathematics: each right marks have their lengths -/
namespace Vk
open PySem PySem.Spec PyProof.Rows L2
theorem Bd.units_congr {r : Rl} {s : Bd} {c d : Int} {fin fin' : List Str} (h : s.lv c fin = s.lv c fin') : s.endUnits r c d fin = s.endUnits r c d fin' := by
  unfold Bd.lv at h
  unfold Bd.endUnits Bd.mid
  rw [h]
section
variable {r : Rl} {c : Int} {nd : Str → Int} {J : List Jd} {C : Cs}
theorem Cs.go_congr {d : Int} {fin fin' : List Str} (h : C.s.lv c fin = C.s.lv c fin') : C.go r c d fin = C.go r c d fin' := by
  unfold Cs.go
  rw [Bd.units_congr h]
/-- other lengths, with which these finish next -/
theorem Cs.Ok.renew (jok : JOk nd J) (ok : C.Ok r nd J) (F : List Str) : ∃ nd', JOk nd' J ∧ C.Ok r nd' J ∧ C.fin c nd' 1 = C.s.lv c F := by
  refine ⟨fun x => if x ∈ C.s.order then getS C.s.ran x + (if x ∈ F then 1 else 2) else nd x, ⟨jok.nodup, jok.small, fun j hj => ?_, jok.come⟩, ⟨ok.bd, ok.uq, ok.lev, ok.n0, ok.cmn, ok.sub, ok.ent, ok.out, ok.keys, ok.len, fun x hx => ?_, fun x hx nx => ?_, ok.fl, ok.dn⟩, ?_⟩
  · show 1 ≤ if j.n ∈ C.s.order then _ else _
    by_cases h : j.n ∈ C.s.order
    · rw [if_pos h]
      have := (ok.lo j.n h).1
      split <;> omega
    · rw [if_neg h]
      exact jok.one j hj
  · have := (ok.lo x hx).1
    show 0 ≤ getS C.s.ran x ∧ getS C.s.ran x < if x ∈ C.s.order then _ else _
    rw [if_pos hx]
    refine ⟨this, ?_⟩
    split <;> omega
  · show getS C.s.ran x = if x ∈ C.s.order then _ else _
    rw [if_neg nx]
    exact ok.fi x hx nx
  · unfold Cs.fin Bd.lv
    refine List.filter_congr fun x hx => ?_
    have ho := Bd.run_sub x hx
    show decide (getS C.s.ran x + 1 = if x ∈ C.s.order then _ else _) = _
    rw [if_pos ho]
    refine decide_eq_decide.mpr ?_
    by_cases h : x ∈ F
    · rw [if_pos h]
      exact ⟨fun _ => h, fun _ => rfl⟩
    · rw [if_neg h]
      exact ⟨fun e => by omega, fun e => absurd e h⟩
/-- driven by whoever finishes -/
def Cs.drv (r : Rl) (c : Int) (J : List Jd) (F : Nat → Cs → List Str) : Nat → Cs
  | 0 => Cs.zero r J
  | k + 1 => (Cs.drv r c J F k).go r c 1 (F k (Cs.drv r c J F k))
theorem lv_lv {s : Bd} {F : List Str} : s.lv c (s.lv c F) = s.lv c F := by
  unfold Bd.lv
  refine List.filter_congr fun x hx => decide_eq_decide.mpr ?_
  rw [List.mem_filter, decide_eq_true_iff]
  exact ⟨fun h => h.2, fun h => ⟨hx, h⟩⟩
theorem enters_order (rok : r.Ok) (jok : JOk nd J) : ∀ {js : List Jd} {s : Bd} {p : List Jd}, (⟨s, js ++ p⟩ : Cs).Ok r nd J → ∀ x, x ∈ (enters r s js).order ↔ x ∈ s.order ∨ x ∈ js.map (·.n)
  | [], s, p, h, x => ⟨.inl, fun h => h.elim id fun w => nomatch w⟩
  | j :: js, s, p, h, x => by
    have h1 : (⟨s.enter r j.n j.e, js ++ p⟩ : Cs).Ok r nd J := Cs.Ok.enter1 rok jok h
    have e := enters_order rok jok h1 x
    show x ∈ (enters r (s.enter r j.n j.e) js).order ↔ _
    rw [e, (Bd.enter_order (r := r) h.bd.toOk0 j.n j.e).mem_iff, List.mem_cons, List.map_cons, List.mem_cons]
    constructor
    · rintro ((h | h) | h)
      · exact .inr (.inl h)
      · exact .inl h
      · exact .inr (.inr h)
    · rintro (h | h | h)
      · exact .inl (.inr h)
      · exact .inl (.inl h)
      · exact .inr h
/-- a unit more, whoever finishes -/
structure Stp (c : Int) (C C' : Cs) (F : List Str) : Prop where
  keys : ∀ x ∈ C.s.ran.map (·.1), x ∈ C'.s.ran.map (·.1)
  ran : ∀ x ∈ C.s.ran.map (·.1), getS C'.s.ran x = getS C.s.ran x + if x ∈ C.s.run c then 1 else 0
  mem : ∀ x ∈ C.s.ran.map (·.1), (x ∈ C'.s.order ↔ x ∈ C.s.order ∧ x ∉ C.s.lv c F)
  done : C'.s.done = C.s.done + ((C.s.lv c F).length : Nat)
  now : C'.s.now = C.s.now + 1
  fins : C'.s.fins = if C.s.lv c F = [] then C.s.fins else C.s.fins ++ [(C.s.now + 1, C.s.run c, C.s.lv c F)]
theorem Cs.Ok.stp (rok : r.Ok) (jok : JOk nd J) (ok : C.Ok r nd J) (F : List Str) : Stp c C (C.go r c 1 F) F ∧ ∃ nd', JOk nd' J ∧ (C.go r c 1 F).Ok r nd' J ∧ (C.go r c 1 F).Settled ∧ (C.In J → (C.go r c 1 F).In J) := by
  obtain ⟨nd', jok', ok', ef⟩ := ok.renew (c := c) jok F
  have eg : C.go r c 1 F = C.step r c nd' := Cs.go_congr (by rw [ef, lv_lv])
  obtain ⟨o1, o2⟩ := ok'.step rok jok' (c := c)
  obtain ⟨u1, u2, u3⟩ := ok'.unit rok jok' (c := c)
  have a := Bd.units_after (r := r) ok.bd.toOk0 c 1 (C.fin c nd' 1)
  obtain ⟨e1, e2, _⟩ := enters_same (r := r) (js := (⟨C.s.endUnits r c 1 (C.fin c nd' 1), C.cm⟩ : Cs).arr) (s := C.s.endUnits r c 1 (C.fin c nd' 1))
  have outA : ∀ x ∈ C.s.ran.map (·.1), x ∉ ((⟨C.s.endUnits r c 1 (C.fin c nd' 1), C.cm⟩ : Cs).arr).map (·.n) := fun x hx m => by
    obtain ⟨i, hi, rfl⟩ := List.mem_map.mp m
    exact ok.out i (List.mem_filter.mp hi).1 hx
  rw [eg]
  refine ⟨⟨fun x hx => ?_, fun x hx => ?_, fun x hx => ?_, ?_, Cs.step_now ok', ?_⟩, nd', jok', o1, o2, fun hi => Cs.In.step rok jok' ok' hi⟩
  · show x ∈ (Vk.enters r (C.s.endUnits r c 1 (C.fin c nd' 1)) _).ran.map (·.1)
    rw [enters_keys, a.ran]
    exact List.mem_append_left _ hx
  · show getS (Vk.enters r (C.s.endUnits r c 1 (C.fin c nd' 1)) _).ran x = _
    rw [enters_ran (outA x hx), u3 x hx]
  · show x ∈ (Vk.enters r (C.s.endUnits r c 1 (C.fin c nd' 1)) _).order ↔ _
    have el : C.s.lv c (C.fin c nd' 1) = C.s.lv c F := by rw [ef, lv_lv]
    rw [enters_order rok jok' (u1.perm (Cs.split_perm _)) x, a.mem x, el]
    exact ⟨fun h => h.elim id fun h => absurd h (outA x hx), .inl⟩
  · show (Vk.enters r (C.s.endUnits r c 1 (C.fin c nd' 1)) _).done = _
    rw [e1, u2]
    exact congrArg (fun l : List Str => C.s.done + (l.length : Nat)) ef
  · have z := Cs.step_fins (r := r) (c := c) (nd := nd') ok.bd.toOk0
    rw [ef] at z
    exact z
section
variable {F : Nat → Cs → List Str}
theorem drv_ok (rok : r.Ok) (jok : JOk nd J) : ∀ k, ∃ nd', JOk nd' J ∧ (Cs.drv r c J F k).Ok r nd' J ∧ (Cs.drv r c J F k).Settled ∧ (Cs.drv r c J F k).In J ∧ (Cs.drv r c J F k).s.now = (k : Int)
  | 0 => by
    obtain ⟨z1, z2⟩ := Cs.zero_ok (r := r) rok jok
    exact ⟨nd, jok, z1, z2, Cs.at_in (c := c) rok jok 0, Cs.zero_now⟩
  | k + 1 => by
    obtain ⟨nd', jok', ok, _, hi, nw⟩ := drv_ok rok jok k
    obtain ⟨st, nd2, jok2, ok2, s2, i2⟩ := ok.stp (c := c) rok jok' (F k (Cs.drv r c J F k))
    exact ⟨nd2, jok2, ok2, s2, i2 hi, by show ((Cs.drv r c J F k).go r c 1 _).s.now = _; rw [st.now, nw]; rfl⟩
theorem drv_stp (rok : r.Ok) (jok : JOk nd J) (k : Nat) : Stp c (Cs.drv r c J F k) (Cs.drv r c J F (k + 1)) (F k (Cs.drv r c J F k)) := by
  obtain ⟨nd', jok', ok, _⟩ := drv_ok (c := c) (F := F) rok jok k
  exact (ok.stp (c := c) rok jok' (F k (Cs.drv r c J F k))).1
theorem drv_more (rok : r.Ok) (jok : JOk nd J) {x : Str} {k : Nat} (hx : x ∈ (Cs.drv r c J F k).s.ran.map (·.1)) : ∀ j, x ∈ (Cs.drv r c J F (k + j)).s.ran.map (·.1) ∧ getS (Cs.drv r c J F k).s.ran x ≤ getS (Cs.drv r c J F (k + j)).s.ran x
  | 0 => ⟨hx, Int.le_refl _⟩
  | j + 1 => by
    obtain ⟨a, b⟩ := drv_more rok jok hx j
    have st := drv_stp (c := c) (F := F) rok jok (k + j)
    refine ⟨st.keys x a, ?_⟩
    have e := st.ran x a
    show _ ≤ getS (Cs.drv r c J F (k + j + 1)).s.ran x
    rw [e]
    split <;> omega
/-- who has left runs no more -/
theorem drv_gone (rok : r.Ok) (jok : JOk nd J) {x : Str} {k : Nat} (hx : x ∈ (Cs.drv r c J F k).s.ran.map (·.1)) (no : x ∉ (Cs.drv r c J F k).s.order) : ∀ j, x ∉ (Cs.drv r c J F (k + j)).s.order ∧ getS (Cs.drv r c J F (k + j)).s.ran x = getS (Cs.drv r c J F k).s.ran x
  | 0 => ⟨no, rfl⟩
  | j + 1 => by
    obtain ⟨a, b⟩ := drv_gone rok jok hx no j
    have st := drv_stp (c := c) (F := F) rok jok (k + j)
    have m := (drv_more (c := c) (F := F) rok jok hx j).1
    refine ⟨fun h => a ((st.mem x m).mp h).1, ?_⟩
    show getS (Cs.drv r c J F (k + j + 1)).s.ran x = _
    rw [st.ran x m, if_neg fun h => a (Bd.run_sub x h), b, Int.add_zero]
/-- who is there has still to run -/
theorem drv_left (rok : r.Ok) (jok : JOk nd J) {x : Str} : ∀ (d k : Nat), x ∈ (Cs.drv r c J F k).s.order → x ∉ (Cs.drv r c J F (k + d)).s.order → getS (Cs.drv r c J F k).s.ran x + 1 ≤ getS (Cs.drv r c J F (k + d)).s.ran x
  | 0, k, h, n => absurd h n
  | d + 1, k, h, n => by
    obtain ⟨nd', jok', ok, _⟩ := drv_ok (c := c) (F := F) rok jok k
    have hx := ok.bd.sub x h
    have st := drv_stp (c := c) (F := F) rok jok k
    by_cases w : x ∈ (Cs.drv r c J F (k + 1)).s.order
    · have z := drv_left rok jok d (k + 1) w (by rw [Nat.add_assoc, Nat.add_comm 1 d]; exact n)
      rw [Nat.add_assoc, Nat.add_comm 1 d] at z
      have e := st.ran x hx
      split at e <;> omega
    · have lv : x ∈ (Cs.drv r c J F k).s.lv c (F k (Cs.drv r c J F k)) := Classical.byContradiction fun q => w ((st.mem x hx).mpr ⟨h, q⟩)
      have ru : x ∈ (Cs.drv r c J F k).s.run c := (List.mem_filter.mp lv).1
      have e := st.ran x hx
      rw [if_pos ru] at e
      have z := (drv_more (c := c) (F := F) rok jok (st.keys x hx) d).2
      rw [Nat.add_assoc, Nat.add_comm 1 d] at z
      omega
/-- its lengths are what has run: with these it is the course by lengths -/
theorem drv_at (rok : r.Ok) (jok : JOk nd J) {T : Nat} (don : (Cs.drv r c J F T).s.done = (J.length : Nat)) : JOk (fun x => getS (Cs.drv r c J F T).s.ran x) J ∧ ∀ k ≤ T, (Cs.zero r J).at r c (fun x => getS (Cs.drv r c J F T).s.ran x) k = Cs.drv r c J F k := by
  obtain ⟨ndT, jokT, okT, _⟩ := drv_ok (c := c) (F := F) rok jok T
  have o : (Cs.drv r c J F T).s.order = [] := by
    have e := okT.done_len
    have l := okT.len
    exact List.eq_nil_of_length_eq_zero (by omega)
  have all : ∀ j ∈ J, j.n ∈ (Cs.drv r c J F T).s.ran.map (·.1) := fun j hj => by
    have e := okT.done_len
    have l := okT.len
    have cm : (Cs.drv r c J F T).cm = [] := List.eq_nil_of_length_eq_zero (by omega)
    exact (okT.ent j hj).resolve_left (by rw [cm]; exact fun w => nomatch w)
  refine ⟨⟨jok.nodup, jok.small, fun j hj => ?_, jok.come⟩, fun k => ?_⟩
  · show 1 ≤ getS (Cs.drv r c J F T).s.ran j.n
    rw [okT.fi j.n (all j hj) (by rw [o]; exact fun w => nomatch w)]
    exact jokT.one j hj
  · induction k with
    | zero => intro _; rfl
    | succ k ih =>
      intro hk
      have e := ih (by omega)
      show ((Cs.zero r J).at r c _ k).step r c _ = (Cs.drv r c J F k).go r c 1 (F k (Cs.drv r c J F k))
      rw [e]
      refine Cs.go_congr ?_
      obtain ⟨nd', jok', ok, _⟩ := drv_ok (c := c) (F := F) rok jok k
      have st := drv_stp (c := c) (F := F) rok jok k
      have ef : (Cs.drv r c J F k).fin c (fun x => getS (Cs.drv r c J F T).s.ran x) 1 = (Cs.drv r c J F k).s.lv c (F k (Cs.drv r c J F k)) := by
        unfold Cs.fin
        rw [show (Cs.drv r c J F k).s.lv c (F k (Cs.drv r c J F k)) = ((Cs.drv r c J F k).s.run c).filter fun x => decide (x ∈ F k (Cs.drv r c J F k)) from rfl]
        refine List.filter_congr fun x hx => decide_eq_decide.mpr ?_
        have ho := Bd.run_sub x hx
        have hr := ok.bd.sub x ho
        have er := st.ran x hr
        rw [if_pos hx] at er
        have eT : k + 1 + (T - (k + 1)) = T := by omega
        show getS (Cs.drv r c J F k).s.ran x + 1 = getS (Cs.drv r c J F T).s.ran x ↔ _
        constructor
        · intro h
          refine Classical.byContradiction fun no => ?_
          have h1 : x ∈ (Cs.drv r c J F (k + 1)).s.order := (st.mem x hr).mpr ⟨ho, fun m => no (of_decide_eq_true (List.mem_filter.mp m).2)⟩
          have z := drv_left (c := c) (F := F) rok jok (T - (k + 1)) (k + 1) h1 (by rw [eT, o]; exact fun w => nomatch w)
          rw [eT] at z
          omega
        · intro h
          have h1 : x ∉ (Cs.drv r c J F (k + 1)).s.order := fun w => ((st.mem x hr).mp w).2 (List.mem_filter.mpr ⟨hx, decide_eq_true h⟩)
          have z := (drv_gone (c := c) (F := F) rok jok (st.keys x hr) h1 (T - (k + 1))).2
          rw [eT] at z
          omega
      rw [ef, lv_lv]
end
end
end Vk
set_option maxHeartbeats 4000000
/-! the lengths of right marks; their sum -/
namespace Vk
open PySem PySem.Spec PyProof.Rows L2
/-- the places of a unit -/
def mkAt : List Mk1 → Nat → List Nat
  | [], _ => []
  | m :: ms, k => if m.1 = (k : Int) + 1 then m.2 else mkAt ms k
theorem mkAt_none {k : Nat} : ∀ {l : List Mk1}, (∀ m ∈ l, m.1 ≠ (k : Int) + 1) → mkAt l k = []
  | [], _ => rfl
  | m :: l, h => by
    show (if m.1 = (k : Int) + 1 then m.2 else mkAt l k) = []
    rw [if_neg (h m (List.mem_cons_self ..))]
    exact mkAt_none fun x hx => h x (List.mem_cons_of_mem _ hx)
theorem mkAt_app {k : Nat} {l2 : List Mk1} : ∀ {l : List Mk1}, (∀ m ∈ l, m.1 ≠ (k : Int) + 1) → mkAt (l ++ l2) k = mkAt l2 k
  | [], _ => rfl
  | m :: l, h => by
    show (if m.1 = (k : Int) + 1 then m.2 else mkAt (l ++ l2) k) = _
    rw [if_neg (h m (List.mem_cons_self ..))]
    exact mkAt_app fun x hx => h x (List.mem_cons_of_mem _ hx)
theorem mkAt_front {k : Nat} {l2 : List Mk1} (h2 : ∀ m ∈ l2, m.1 ≠ (k : Int) + 1) : ∀ {l : List Mk1}, mkAt (l ++ l2) k = mkAt l k
  | [] => mkAt_none h2
  | m :: l => by
    show (if m.1 = (k : Int) + 1 then m.2 else mkAt (l ++ l2) k) = (if m.1 = (k : Int) + 1 then m.2 else mkAt l k)
    rw [mkAt_front h2]
theorem mkOk_gt {js : List PyData} {c : Int} : ∀ {ms : List Mk1} {b f : Int}, MkOk js c b f ms → ∀ m ∈ ms, b < m.1
  | m :: ms, b, f, h, x, hx => by
    obtain ⟨h1, _, _, _, h5⟩ := h
    rcases List.mem_cons.mp hx with e | hx
    · rw [e]
      omega
    · have := mkOk_gt h5 x hx
      omega
theorem nd_ix {l : List Str} (nd : l.Nodup) {i j : Nat} (hi : i < l.length) (hj : j < l.length) (e : l[i] = l[j]) : i = j := by
  rcases Nat.lt_trichotomy i j with h | h | h
  · exact absurd e (List.pairwise_iff_getElem.mp nd i j hi hj h)
  · exact h
  · exact absurd e.symm (List.pairwise_iff_getElem.mp nd j i hj hi h)
/-- the names at ascending places -/
theorem pls_of {run : List Str} (nd : run.Nodup) {pl : List Nat} (asc : pl.Pairwise (· < ·)) (lt : ∀ i ∈ pl, i < run.length) : plsF run (run.filter fun x => decide (x ∈ pl.filterMap fun i => run[i]?)) = pl := by
  have e : plsF run (run.filter fun x => decide (x ∈ pl.filterMap fun i => run[i]?)) = (List.range run.length).filter fun i => decide (i ∈ pl) := by
    refine List.filter_congr fun i hi => ?_
    have hi : i < run.length := List.mem_range.mp hi
    have ei : run[i]? = some run[i] := List.getElem?_eq_getElem hi
    rw [ei]
    show decide (run[i] ∈ _) = _
    refine decide_eq_decide.mpr ?_
    rw [List.mem_filter, decide_eq_true_iff, List.mem_filterMap]
    constructor
    · rintro ⟨_, j, hj, ej⟩
      obtain ⟨h1, h2⟩ := List.getElem?_eq_some_iff.mp ej
      rw [← nd_ix nd h1 hi h2]
      exact hj
    · intro h
      exact ⟨List.getElem_mem hi, i, h, ei⟩
  rw [e]
  have n1 : ((List.range run.length).filter fun i => decide (i ∈ pl)).Pairwise (· < ·) := List.Pairwise.filter _ List.pairwise_lt_range
  refine List.Perm.eq_of_pairwise (le := (· < ·)) (fun a b _ _ h1 h2 => absurd h1 (by omega)) n1 asc ?_
  refine (List.perm_ext_iff_of_nodup (n1.imp fun h => by omega) (asc.imp fun h => by omega)).mpr fun i => ?_
  rw [List.mem_filter, decide_eq_true_iff, List.mem_range]
  exact ⟨fun h => h.2, fun h => ⟨lt i h, h⟩⟩
section
variable {r : Rl} {c : Int} {nd : Str → Int} {J : List Jd} {C : Cs}
/-- who finishes by these marks -/
def mkF (c : Int) (ms : List Mk1) (k : Nat) (C : Cs) : List Str := (mkAt ms k).filterMap fun i => (C.s.run c)[i]?
theorem drv_idle (rok : r.Ok) (jok : JOk nd J) {ms : List Mk1} : ∀ (d k : Nat), (∀ j, k ≤ j → j < k + d → mkAt ms j = []) → (Cs.drv r c J (mkF c ms) (k + d)).s.done = (Cs.drv r c J (mkF c ms) k).s.done ∧ (Cs.drv r c J (mkF c ms) (k + d)).s.fins = (Cs.drv r c J (mkF c ms) k).s.fins
  | 0, k, _ => ⟨rfl, rfl⟩
  | d + 1, k, h => by
    obtain ⟨a, b⟩ := drv_idle rok jok d k fun j h1 h2 => h j h1 (by omega)
    have st := drv_stp (c := c) (F := mkF c ms) rok jok (k + d)
    have e : mkF c ms (k + d) (Cs.drv r c J (mkF c ms) (k + d)) = [] := by
      unfold mkF
      rw [h (k + d) (by omega) (by omega)]
      rfl
    have sd := st.done
    have sf := st.fins
    rw [e, Bd.lv_nil] at sd sf
    rw [if_pos rfl] at sf
    refine ⟨?_, sf.trans b⟩
    show (Cs.drv r c J (mkF c ms) (k + d + 1)).s.done = _
    rw [sd, a]
    exact Int.add_zero _
theorem drv_marks (rok : r.Ok) (jok : JOk nd J) (c1 : 1 ≤ c) {ms : List Mk1} : ∀ (rest pre : List Mk1) (k : Nat) (f : Int), ms = pre ++ rest → MkOk (J.map jdD) c (k : Int) f rest → (∀ m ∈ pre, m.1 ≤ (k : Int)) → (Cs.drv r c J (mkF c ms) k).s.done = f → marksS (Cs.drv r c J (mkF c ms) k).s = pre → (∀ j < k, (Cs.drv r c J (mkF c ms) j).s.done < (J.length : Nat)) →
    ∃ T, (Cs.drv r c J (mkF c ms) T).s.done = (J.length : Nat) ∧ marksS (Cs.drv r c J (mkF c ms) T).s = ms ∧ ∀ j < T, (Cs.drv r c J (mkF c ms) j).s.done < (J.length : Nat)
  | [], pre, k, f, e, ok, hp, hd, hm, hl => by
    obtain ⟨nd', jok', okk, _⟩ := drv_ok (c := c) (F := mkF c ms) rok jok k
    have h : ((J.map jdD).length : Int) ≤ f := ok
    rw [List.length_map] at h
    have := okk.done_le
    refine ⟨k, by omega, by rw [hm, e, List.append_nil], hl⟩
  | (u, pl) :: rest, pre, k, f, e, ok, hp, hd, hm, hl => by
    obtain ⟨o1, o2, o3, o4, o5⟩ := ok
    have o1 : (k : Int) + 1 ≤ u := o1
    have o5 : MkOk (J.map jdD) c u (f + (pl.length : Nat)) rest := o5
    obtain ⟨d, rfl⟩ : ∃ d : Nat, u = ((k + d : Nat) : Int) + 1 := ⟨(u - 1 - k).toNat, by omega⟩
    have gt := mkOk_gt o5
    have idle : ∀ j, k ≤ j → j < k + d → mkAt ms j = [] := fun j h1 h2 => by
      rw [e, mkAt_app fun m hm => by have := hp m hm; omega]
      refine mkAt_none fun m hm => ?_
      rcases List.mem_cons.mp hm with w | w
      · rw [w]
        show ((k + d : Nat) : Int) + 1 ≠ _
        omega
      · have := gt m w
        omega
    have here : mkAt ms (k + d) = pl := by
      rw [e, mkAt_app fun m hm => by have := hp m hm; omega]
      show (if ((k + d : Nat) : Int) + 1 = ((k + d : Nat) : Int) + 1 then pl else _) = pl
      rw [if_pos rfl]
    obtain ⟨dn, fn⟩ := drv_idle (c := c) rok jok d k idle
    obtain ⟨nd', jok', okk, stk, ink, nwk⟩ := drv_ok (c := c) (F := mkF c ms) rok jok (k + d)
    have rl := okk.run_len (c := c) jok' (by omega) stk ink
    rw [nwk, dn, hd] at rl
    have ltp : ∀ i ∈ pl, i < ((Cs.drv r c J (mkF c ms) (k + d)).s.run c).length := fun i hi => by
      have z := o4 i hi
      have z : ((i : Nat) : Int) < runI (J.map jdD) (((k + d : Nat) : Int) + 1) f c := z
      rw [rl] at z
      omega
    have st := drv_stp (c := c) (F := mkF c ms) rok jok (k + d)
    have eF : mkF c ms (k + d) (Cs.drv r c J (mkF c ms) (k + d)) = pl.filterMap fun i => ((Cs.drv r c J (mkF c ms) (k + d)).s.run c)[i]? := by
      unfold mkF
      rw [here]
    have pls := pls_of (Bd.run_nd okk.bd.toOk0 (c := c)) o3 ltp
    have elv : (Cs.drv r c J (mkF c ms) (k + d)).s.lv c (mkF c ms (k + d) (Cs.drv r c J (mkF c ms) (k + d))) = ((Cs.drv r c J (mkF c ms) (k + d)).s.run c).filter fun x => decide (x ∈ pl.filterMap fun i => ((Cs.drv r c J (mkF c ms) (k + d)).s.run c)[i]?) := by
      unfold Bd.lv
      rw [eF]
    have len : ((Cs.drv r c J (mkF c ms) (k + d)).s.lv c (mkF c ms (k + d) (Cs.drv r c J (mkF c ms) (k + d)))).length = pl.length := by
      have z := pls_len (run := (Cs.drv r c J (mkF c ms) (k + d)).s.run c) (fin := (Cs.drv r c J (mkF c ms) (k + d)).s.lv c (mkF c ms (k + d) (Cs.drv r c J (mkF c ms) (k + d))))
      rw [elv] at z ⊢
      rw [pls] at z
      rw [z]
      congr 1
      refine List.filter_congr fun x hx => decide_eq_decide.mpr ?_
      rw [List.mem_filter, decide_eq_true_iff]
      exact ⟨fun h => ⟨hx, h⟩, fun h => h.2⟩
    have pos : 0 < pl.length := List.length_pos_iff.mpr o2
    have ne : (Cs.drv r c J (mkF c ms) (k + d)).s.lv c (mkF c ms (k + d) (Cs.drv r c J (mkF c ms) (k + d))) ≠ [] := fun z => by
      rw [z] at len
      simp at len
      omega
    have sd := st.done
    rw [len, dn, hd] at sd
    have sm : marksS (Cs.drv r c J (mkF c ms) (k + d + 1)).s = pre ++ [(((k + d : Nat) : Int) + 1, pl)] := by
      unfold marksS at hm ⊢
      rw [st.fins, if_neg ne, fn, List.map_append, hm, elv]
      show pre ++ [((Cs.drv r c J (mkF c ms) (k + d)).s.now + 1, plsF ((Cs.drv r c J (mkF c ms) (k + d)).s.run c) _)] = _
      rw [pls, nwk]
    obtain ⟨nd2, jok2, ok2, _⟩ := drv_ok (c := c) (F := mkF c ms) rok jok (k + d + 1)
    have le2 := ok2.done_le
    refine drv_marks rok jok c1 rest (pre ++ [(((k + d : Nat) : Int) + 1, pl)]) (k + d + 1) (f + (pl.length : Nat)) (by rw [e, List.append_assoc]; rfl) (by rw [show (((k + d + 1 : Nat)) : Int) = ((k + d : Nat) : Int) + 1 by omega]; exact o5) (fun m hm => ?_) sd sm fun j hj => ?_
    · rcases List.mem_append.mp hm with w | w
      · have := hp m w
        omega
      · rw [List.mem_singleton.mp w]
        show ((k + d : Nat) : Int) + 1 ≤ _
        omega
    · rcases Nat.lt_or_ge j k with lt | ge
      · exact hl j lt
      · have z := (drv_idle (c := c) rok jok (ms := ms) (j - k) k fun i h1 h2 => idle i h1 (by omega)).1
        rw [show k + (j - k) = j by omega] at z
        rw [z, hd]
        omega
/-- right marks have their lengths -/
theorem marks_lengths (rok : r.Ok) (jok : JOk nd J) (c1 : 1 ≤ c) {ms : List Mk1} (ok : MkOk (J.map jdD) c 0 0 ms) : ∃ (nd' : Str → Int) (T : Nat), JOk nd' J ∧ EndAt r c nd' J T ∧ marksS ((Cs.zero r J).at r c nd' T).s = ms := by
  have fins0 : (Cs.zero r J).s.fins = [] := (enters_same (r := r) (js := (⟨Bd.new r, J⟩ : Cs).arr) (s := Bd.new r)).2.2
  obtain ⟨z1, z2⟩ := Cs.zero_ok (r := r) rok jok
  have d0 : (Cs.zero r J).s.done = 0 := by
    rw [z1.dn, fins0]
    rfl
  obtain ⟨T, t1, t2, t3⟩ := drv_marks (c := c) (ms := ms) rok jok c1 ms [] 0 0 rfl ok (fun m hm => nomatch hm) d0 (by unfold marksS; show ((Cs.zero r J).s.fins).map _ = []; rw [fins0]; rfl) (fun j hj => absurd hj (Nat.not_lt_zero _))
  obtain ⟨jk, at_⟩ := drv_at (c := c) (F := mkF c ms) rok jok t1
  refine ⟨_, T, jk, ⟨by rw [at_ T (Nat.le_refl _)]; exact t1, fun k hk => ?_⟩, by rw [at_ T (Nat.le_refl _)]; exact t2⟩
  rw [at_ k (by omega)]
  have := t3 k hk
  omega
/-! ### sums -/
theorem sum_add {α : Type} {f g : α → Int} : ∀ {l : List α}, (l.map fun x => f x + g x).sum = (l.map f).sum + (l.map g).sum
  | [] => rfl
  | x :: l => by
    rw [List.map_cons, List.map_cons, List.map_cons, List.sum_cons, List.sum_cons, List.sum_cons, sum_add]
    omega
theorem sum_ind {α : Type} {p : α → Prop} [DecidablePred p] : ∀ {l : List α}, (l.map fun x => if p x then (1 : Int) else 0).sum = ((l.filter fun x => decide (p x)).length : Nat)
  | [] => rfl
  | x :: l => by
    rw [List.map_cons, List.sum_cons, sum_ind, List.filter_cons]
    by_cases h : p x
    · rw [if_pos h, if_pos (decide_eq_true h), List.length_cons]
      omega
    · rw [if_neg h, if_neg (by simp [h])]
      omega
/-- who runs, counted by jobs -/
theorem run_count (jok : JOk nd J) (ok : C.Ok r nd J) : (J.map fun j => if j.n ∈ C.s.run c then (1 : Int) else 0).sum = ((C.s.run c).length : Nat) := by
  rw [sum_ind]
  have n1 : ((J.filter fun j => decide (j.n ∈ C.s.run c)).map (·.n)).Nodup := (List.filter_sublist.map _).nodup jok.nodup
  have p : ((J.filter fun j => decide (j.n ∈ C.s.run c)).map (·.n)).Perm (C.s.run c) := (List.perm_ext_iff_of_nodup n1 (Bd.run_nd ok.bd.toOk0)).mpr fun x => by
    rw [List.mem_map]
    constructor
    · rintro ⟨j, hj, rfl⟩
      exact of_decide_eq_true (List.mem_filter.mp hj).2
    · intro hx
      obtain ⟨j, hj, e⟩ := List.mem_map.mp (ok.keys x (ok.bd.sub x (Bd.run_sub x hx)))
      exact ⟨j, List.mem_filter.mpr ⟨hj, decide_eq_true (by rw [e]; exact hx)⟩, e⟩
  have z := p.length_eq
  rw [List.length_map] at z
  rw [z]
theorem step_vals (rok : r.Ok) (jok : JOk nd J) (ok : C.Ok r nd J) : ∀ j ∈ J, getS (C.step r c nd).s.ran j.n = getS C.s.ran j.n + if j.n ∈ C.s.run c then 1 else 0 := fun j hj => by
  by_cases m : j.n ∈ C.s.ran.map (·.1)
  · have st := (ok.stp (c := c) rok jok (C.fin c nd 1)).1
    exact st.ran j.n m
  · have nr : j.n ∉ C.s.run c := fun w => m (ok.bd.sub _ (Bd.run_sub _ w))
    rw [if_neg nr, getS_no m]
    have a := Bd.units_after (r := r) ok.bd.toOk0 c 1 (C.fin c nd 1)
    show getS (enters r (C.s.endUnits r c 1 (C.fin c nd 1)) _).ran j.n = _
    rw [enters_new (by rw [a.ran]; exact m)]
    rfl
theorem at_sum (rok : r.Ok) (jok : JOk nd J) : ∀ k, (J.map fun j => getS ((Cs.zero r J).at r c nd k).s.ran j.n).sum = ((List.range k).map fun i => (((Cs.zero r J).names r c nd i).length : Int)).sum
  | 0 => by
    have e : (J.map fun j => getS ((Cs.zero r J).at r c nd 0).s.ran j.n) = J.map fun _ => (0 : Int) := List.map_congr_left fun j hj => by
      show getS (enters r (Bd.new r) _).ran j.n = 0
      exact enters_new (fun w => nomatch (show j.n ∈ ([] : List Str) from w))
    rw [e]
    have z : ∀ l : List Jd, (l.map fun _ => (0 : Int)).sum = 0 := fun l => by
      induction l with
      | nil => rfl
      | cons x l ih => rw [List.map_cons, List.sum_cons, ih]; rfl
    exact z J
  | k + 1 => by
    obtain ⟨z1, z2⟩ := Cs.zero_ok (r := r) rok jok
    have ok := (Cs.at_ok (c := c) rok jok z1 z2 k).1
    have e : (J.map fun j => getS ((Cs.zero r J).at r c nd (k + 1)).s.ran j.n) = J.map fun j => getS ((Cs.zero r J).at r c nd k).s.ran j.n + if j.n ∈ ((Cs.zero r J).at r c nd k).s.run c then 1 else 0 := List.map_congr_left fun j hj => step_vals (c := c) rok jok ok j hj
    rw [e, sum_add, at_sum rok jok k, run_count jok ok, List.range_succ, List.map_append, List.sum_append]
    simp [Cs.names]
/-- the places of the units of a course -/
theorem mkAt_at (rok : r.Ok) (jok : JOk nd J) : ∀ (T : Nat), (∀ m ∈ marksS ((Cs.zero r J).at r c nd T).s, m.1 ≤ (T : Int)) ∧ ∀ k < T, mkAt (marksS ((Cs.zero r J).at r c nd T).s) k = plsF ((Cs.zero r J).names r c nd k) (((Cs.zero r J).at r c nd k).fin c nd 1)
  | 0 => by
    have fins0 : (Cs.zero r J).s.fins = [] := (enters_same (r := r) (js := (⟨Bd.new r, J⟩ : Cs).arr) (s := Bd.new r)).2.2
    refine ⟨fun m hm => ?_, fun k hk => absurd hk (Nat.not_lt_zero _)⟩
    have hm : m ∈ (Cs.zero r J).s.fins.map _ := hm
    rw [fins0] at hm
    cases hm
  | T + 1 => by
    obtain ⟨a, b⟩ := mkAt_at rok jok T
    obtain ⟨z1, z2⟩ := Cs.zero_ok (r := r) rok jok
    obtain ⟨ok, _, nw⟩ := Cs.at_ok (c := c) rok jok z1 z2 T
    rw [Cs.zero_now, Int.zero_add] at nw
    have sm := Cs.step_marks (r := r) (c := c) (nd := nd) ok.bd.toOk0
    have sm : marksS ((Cs.zero r J).at r c nd (T + 1)).s = _ := sm
    rw [sm, nw]
    refine ⟨fun m hm => ?_, fun k hk => ?_⟩
    · rcases List.mem_append.mp hm with w | w
      · have := a m w
        omega
      · split at w
        · cases w
        · rw [List.mem_singleton.mp w]
          show (T : Int) + 1 ≤ _
          omega
    · rcases Nat.lt_or_ge k T with lt | ge
      · rw [mkAt_front fun m w => ?_]
        · exact b k lt
        · split at w
          · cases w
          · rw [List.mem_singleton.mp w]
            show (T : Int) + 1 ≠ _
            omega
      · have e : k = T := by omega
        subst e
        rw [mkAt_app fun m w => by have := a m w; omega]
        by_cases h : ((Cs.zero r J).at r c nd k).fin c nd 1 = []
        · rw [if_pos h, h]
          show [] = plsF _ []
          unfold plsF
          symm
          refine List.filter_eq_nil_iff.mpr fun i hi => ?_
          split <;> simp
        · rw [if_neg h]
          show (if (k : Int) + 1 = (k : Int) + 1 then _ else _) = _
          rw [if_pos rfl]
          rfl
theorem done_step (rok : r.Ok) (jok : JOk nd J) (k : Nat) : ((Cs.zero r J).at r c nd (k + 1)).s.done = ((Cs.zero r J).at r c nd k).s.done + ((plsF ((Cs.zero r J).names r c nd k) (((Cs.zero r J).at r c nd k).fin c nd 1)).length : Nat) := by
  obtain ⟨z1, z2⟩ := Cs.zero_ok (r := r) rok jok
  have ok := (Cs.at_ok (c := c) rok jok z1 z2 k).1
  have st := (ok.stp (c := c) rok jok (((Cs.zero r J).at r c nd k).fin c nd 1)).1
  have e := st.done
  rw [Cs.lv_fin] at e
  have l := marks_len (c := c) (nd := nd) (C := (Cs.zero r J).at r c nd k)
  have l : (plsF ((Cs.zero r J).names r c nd k) (((Cs.zero r J).at r c nd k).fin c nd 1)).length = _ := l
  rw [l]
  exact e
theorem end_last (rok : r.Ok) (jok : JOk nd J) {T : Nat} (h : EndAt r c nd J T) : T = match (marksS ((Cs.zero r J).at r c nd T).s).getLast? with
    | some m => m.1.toNat
    | none => 0 := by
  cases T with
  | zero =>
    have fins0 : (Cs.zero r J).s.fins = [] := (enters_same (r := r) (js := (⟨Bd.new r, J⟩ : Cs).arr) (s := Bd.new r)).2.2
    have e : marksS ((Cs.zero r J).at r c nd 0).s = [] := by
      show (Cs.zero r J).s.fins.map _ = []
      rw [fins0]
      rfl
    rw [e]
    rfl
  | succ k =>
    obtain ⟨z1, z2⟩ := Cs.zero_ok (r := r) rok jok
    obtain ⟨ok, _, nw⟩ := Cs.at_ok (c := c) rok jok z1 z2 k
    rw [Cs.zero_now, Int.zero_add] at nw
    have sm := Cs.step_marks (r := r) (c := c) (nd := nd) ok.bd.toOk0
    have sm : marksS ((Cs.zero r J).at r c nd (k + 1)).s = _ := sm
    have ne : ((Cs.zero r J).at r c nd k).fin c nd 1 ≠ [] := fun e => by
      have d := done_step (c := c) rok jok k
      have l := marks_len (c := c) (nd := nd) (C := (Cs.zero r J).at r c nd k)
      have l : (plsF ((Cs.zero r J).names r c nd k) (((Cs.zero r J).at r c nd k).fin c nd 1)).length = _ := l
      rw [l, e, h.don] at d
      exact h.first k (Nat.lt_succ_self _) (by rw [d]; simp)
    rw [sm, if_neg ne, List.getLast?_append]
    show k + 1 = ((((Cs.zero r J).at r c nd k).s.now + 1, _) : Mk1).1.toNat
    rw [nw]
    show k + 1 = ((k : Int) + 1).toNat
    omega
end
/-- equal marks, equal sums -/
theorem marks_sum {r r' : Rl} {c : Int} {nd nd' : Str → Int} {J : List Jd} {T T' : Nat} (rok : r.Ok) (rok' : r'.Ok) (jok : JOk nd J) (jok' : JOk nd' J) (c0 : 0 ≤ c) (h : EndAt r c nd J T) (h' : EndAt r' c nd' J T') (e : marksS ((Cs.zero r J).at r c nd T).s = marksS ((Cs.zero r' J).at r' c nd' T').s) : T = T' ∧ (J.map fun j => nd j.n).sum = (J.map fun j => nd' j.n).sum := by
  have l := end_last rok jok h
  have l' := end_last rok' jok' h'
  rw [e] at l
  have eT : T = T' := l.trans l'.symm
  subst eT
  refine ⟨rfl, ?_⟩
  obtain ⟨z1, z2⟩ := Cs.zero_ok (r := r) rok jok
  obtain ⟨y1, y2⟩ := Cs.zero_ok (r := r') rok' jok'
  have ok := (Cs.at_ok (c := c) rok jok z1 z2 T).1
  have ok' := (Cs.at_ok (c := c) rok' jok' y1 y2 T).1
  have dn : ∀ k ≤ T, ((Cs.zero r J).at r c nd k).s.done = ((Cs.zero r' J).at r' c nd' k).s.done := fun k => by
    induction k with
    | zero =>
      intro _
      have f0 : ∀ r : Rl, (Cs.zero r J).s.fins = [] := fun r => (enters_same (r := r) (js := (⟨Bd.new r, J⟩ : Cs).arr) (s := Bd.new r)).2.2
      show (Cs.zero r J).s.done = (Cs.zero r' J).s.done
      rw [z1.dn, y1.dn, f0, f0]
    | succ k ih =>
      intro hk
      rw [done_step rok jok k, done_step rok' jok' k, ih (by omega), ← (mkAt_at (c := c) rok jok T).2 k (by omega), ← (mkAt_at (c := c) rok' jok' T).2 k (by omega), e]
  have a : (J.map fun j => nd j.n) = J.map fun j => getS ((Cs.zero r J).at r c nd T).s.ran j.n := List.map_congr_left fun j hj => ((ok.all_ran h.don j hj).2).symm
  have b : (J.map fun j => nd' j.n) = J.map fun j => getS ((Cs.zero r' J).at r' c nd' T).s.ran j.n := List.map_congr_left fun j hj => ((ok'.all_ran h'.don j hj).2).symm
  rw [a, b, at_sum rok jok, at_sum rok' jok']
  congr 1
  refine List.map_congr_left fun k hk => ?_
  have hk : k < T := List.mem_range.mp hk
  obtain ⟨o1, o2, o3⟩ := Cs.at_ok (c := c) rok jok z1 z2 k
  obtain ⟨p1, p2, p3⟩ := Cs.at_ok (c := c) rok' jok' y1 y2 k
  rw [Cs.zero_now, Int.zero_add] at o3 p3
  have e1 := o1.run_len jok c0 o2 (Cs.at_in (c := c) rok jok k)
  have e2 := p1.run_len jok' c0 p2 (Cs.at_in (c := c) rok' jok' k)
  rw [o3, dn k (by omega)] at e1
  rw [p3] at e2
  exact e1.symm.trans e2
end Vk
namespace Vk
open PySem PySem.Spec PyProof.Rows L2
/-- the log that the marks tell -/
def logM (ms : List Mk1) : List PyData := ms.map fun m => .tuple [.int m.1, .int (m.2.length : Nat)]
theorem log_marks {r : Rl} {c : Int} {nd : Str → Int} {J : List Jd} (rok : r.Ok) (jok : JOk nd J) : ∀ k, logD ((Cs.zero r J).at r c nd k).s = logM (marksS ((Cs.zero r J).at r c nd k).s)
  | 0 => by
    have fins0 : (Cs.zero r J).s.fins = [] := (enters_same (r := r) (js := (⟨Bd.new r, J⟩ : Cs).arr) (s := Bd.new r)).2.2
    show (Cs.zero r J).s.fins.map _ = ((Cs.zero r J).s.fins.map _).map _
    rw [fins0]
    rfl
  | k + 1 => by
    obtain ⟨z1, z2⟩ := Cs.zero_ok (r := r) rok jok
    have ok := (Cs.at_ok (c := c) rok jok z1 z2 k).1
    have sl := Cs.step_log (r := r) (c := c) (nd := nd) ok.bd.toOk0
    have sm := Cs.step_marks (r := r) (c := c) (nd := nd) ok.bd.toOk0
    have sl : logD ((Cs.zero r J).at r c nd (k + 1)).s = _ := sl
    have sm : marksS ((Cs.zero r J).at r c nd (k + 1)).s = _ := sm
    rw [sl, sm, log_marks rok jok k]
    unfold logM
    rw [List.map_append]
    by_cases h : ((Cs.zero r J).at r c nd k).fin c nd 1 = []
    · rw [if_pos h, if_pos h]
      rfl
    · rw [if_neg h, if_neg h]
      have l := marks_len (c := c) (nd := nd) (C := (Cs.zero r J).at r c nd k)
      show _ ++ [PyData.tuple [.int (((Cs.zero r J).at r c nd k).s.now + 1), .int ((((Cs.zero r J).at r c nd k).fin c nd 1).length : Nat)]] = _ ++ [PyData.tuple [.int (((Cs.zero r J).at r c nd k).s.now + 1), .int ((plsF (((Cs.zero r J).at r c nd k).s.run c) (((Cs.zero r J).at r c nd k).fin c nd 1)).length : Nat)]]
      rw [l]
end Vk
set_option maxHeartbeats 4000000
/-! stretches of what is derived from a run; those inside -/
namespace Vk
open PySem PySem.Spec PyProof.Rows L2
theorem segU_succ {α : Type} {eq : α → α → Bool} {U : Nat → α} {i : Nat} : segU eq U (i + 1) = segB eq (segU eq U i) ((i : Int) + 1, (i : Int) + 1, U i) := by
  unfold segU joinB
  rw [List.range_succ, List.map_append, List.foldl_append]
  rfl
theorem segB_cases {α : Type} (eq : α → α → Bool) (st : List (Int × Int × α)) (p : Int × Int × α) : (∃ A q, st = A ++ [q] ∧ eq q.2.2 p.2.2 = true ∧ segB eq st p = A ++ [(q.1, p.2.1, p.2.2)]) ∨ segB eq st p = st ++ [p] ∧ (st = [] ∨ ∃ A q, st = A ++ [q] ∧ eq q.2.2 p.2.2 = false) := by
  rcases List.eq_nil_or_concat st with e | ⟨A, q, e⟩
  · right
    subst e
    exact ⟨rfl, .inl rfl⟩
  · rw [List.concat_eq_append] at e
    subst e
    unfold segB
    rw [List.getLast?_append]
    show (∃ A' q', A ++ [q] = A' ++ [q'] ∧ _ ∧ (if eq q.2.2 p.2.2 = true then (A ++ [q]).dropLast ++ [(q.1, p.2.1, p.2.2)] else A ++ [q] ++ [p]) = _) ∨ (if eq q.2.2 p.2.2 = true then (A ++ [q]).dropLast ++ [(q.1, p.2.1, p.2.2)] else A ++ [q] ++ [p]) = _ ∧ _
    cases h : eq q.2.2 p.2.2 with
    | true =>
      left
      refine ⟨A, q, rfl, h, ?_⟩
      rw [if_pos rfl, List.dropLast_concat]
    | false =>
      right
      rw [if_neg Bool.false_ne_true]
      exact ⟨rfl, .inr ⟨A, q, rfl, h⟩⟩
/-- what is derived unit by unit: join it again -/
theorem segU_map {α β : Type} {eqA : α → α → Bool} {eqB : β → β → Bool} (rA : ∀ x y, eqA x y = true → x = y) (rB : ∀ x, eqB x x = true) (f : α → β) (U : Nat → α) : ∀ T, joinB eqB ((segU eqA U T).map fun p => (p.1, p.2.1, f p.2.2)) = segU eqB (fun k => f (U k)) T
  | 0 => rfl
  | T + 1 => by
    have ih := segU_map rA rB f U T
    rw [segU_succ, segU_succ, ← ih]
    generalize segU eqA U T = S
    rcases segB_cases eqA S ((T : Int) + 1, (T : Int) + 1, U T) with ⟨A, q, e, h, es⟩ | ⟨es, _⟩
    · rw [es, e]
      have hq : q.2.2 = U T := rA _ _ h
      unfold joinB
      rw [List.map_append, List.map_append, List.foldl_append, List.foldl_append]
      show segB eqB _ (q.1, (T : Int) + 1, f (U T)) = segB eqB (segB eqB _ (q.1, q.2.1, f q.2.2)) ((T : Int) + 1, (T : Int) + 1, f (U T))
      rw [hq, seg_more rB]
    · rw [es]
      unfold joinB
      rw [List.map_append, List.foldl_append]
      rfl
/-- those inside -/
abbrev Bs := List (Int × Int × Bool)
def insL (S : Bs) : List (Int × Int) := S.filterMap fun p => if p.2.2 = true then some (p.1, p.2.1) else none
theorem insL_app (A B : Bs) : insL (A ++ B) = insL A ++ insL B := List.filterMap_append
def eqBo (a b : Bool) : Bool := decide (a = b)
def Cont {α : Type} : Int → List (Int × Int × α) → Int → Prop
  | s, [], e => s = e
  | s, p :: r, e => p.1 = s + 1 ∧ p.1 ≤ p.2.1 ∧ Cont p.2.1 r e
theorem cont_app {α : Type} {p : Int × Int × α} : ∀ {A : List (Int × Int × α)} {s e : Int}, Cont s (A ++ [p]) e ↔ ∃ m, Cont s A m ∧ p.1 = m + 1 ∧ p.1 ≤ p.2.1 ∧ p.2.1 = e
  | [], s, e => ⟨fun ⟨h1, h2, h3⟩ => ⟨s, rfl, h1, h2, h3⟩, fun ⟨m, h1, h2, h3, h4⟩ => ⟨by rw [show s = m from h1]; exact h2, h3, h4⟩⟩
  | a :: A, s, e => by
    show a.1 = s + 1 ∧ a.1 ≤ a.2.1 ∧ Cont a.2.1 (A ++ [p]) e ↔ _
    rw [cont_app]
    constructor
    · rintro ⟨h1, h2, m, h3, h4⟩
      exact ⟨m, ⟨h1, h2, h3⟩, h4⟩
    · rintro ⟨m, ⟨h1, h2, h3⟩, h4⟩
      exact ⟨h1, h2, m, h3, h4⟩
theorem cont_le {α : Type} : ∀ {A : List (Int × Int × α)} {s e : Int}, Cont s A e → s ≤ e ∧ ∀ p ∈ A, s < p.1 ∧ p.1 ≤ p.2.1 ∧ p.2.1 ≤ e
  | [], s, e, h => ⟨by rw [show s = e from h]; exact Int.le_refl _, fun p hp => nomatch hp⟩
  | a :: A, s, e, ⟨h1, h2, h3⟩ => by
    obtain ⟨i1, i2⟩ := cont_le h3
    refine ⟨by omega, fun p hp => ?_⟩
    rcases List.mem_cons.mp hp with e' | hp
    · rw [e']
      omega
    · have := i2 p hp
      omega
theorem cont_segB {α : Type} {eq : α → α → Bool} {S : List (Int × Int × α)} {s m l : Int} {x : α} (h : Cont s S m) (ml : m + 1 ≤ l) : Cont s (segB eq S (m + 1, l, x)) l := by
  rcases segB_cases eq S (m + 1, l, x) with ⟨A, q, e, _, es⟩ | ⟨es, _⟩
  · rw [es]
    rw [e] at h
    obtain ⟨k, h1, h2, h3, h4⟩ := cont_app.mp h
    exact cont_app.mpr ⟨k, h1, h2, by show q.1 ≤ l; omega, rfl⟩
  · rw [es]
    exact cont_app.mpr ⟨m, h, rfl, ml, rfl⟩
theorem cont_segU {α : Type} {eq : α → α → Bool} {U : Nat → α} : ∀ T : Nat, Cont 0 (segU eq U T) (T : Int)
  | 0 => rfl
  | T + 1 => by
    rw [segU_succ]
    exact cont_segB (cont_segU T) (by omega)
/-- the law's way: rows with the name become one where they meet -/
def mrgB (acc : List (Int × Int)) (p : Int × Int × Bool) : List (Int × Int) := if p.2.2 = true then (match acc.getLast? with
  | some q => if q.2 + 1 = p.1 then acc.dropLast ++ [(q.1, p.2.1)] else acc ++ [(p.1, p.2.1)]
  | none => [(p.1, p.2.1)]) else acc
theorem mrg_seg {S : Bs} {s m l : Int} {b : Bool} (h : Cont s S m) : mrgB (insL S) (m + 1, l, b) = insL (segB eqBo S (m + 1, l, b)) := by
  unfold mrgB
  cases b with
  | false =>
    rw [if_neg Bool.false_ne_true]
    rcases segB_cases eqBo S (m + 1, l, false) with ⟨A, q, e, hq, es⟩ | ⟨es, _⟩
    · have hq : q.2.2 = false := of_decide_eq_true hq
      rw [es, e, insL_app, insL_app]
      congr 1
      unfold insL
      simp [hq]
    · rw [es, insL_app]
      exact (List.append_nil _).symm
  | true =>
    rw [if_pos rfl]
    rcases segB_cases eqBo S (m + 1, l, true) with ⟨A, q, e, hq, es⟩ | ⟨es, hn⟩
    · have hq : q.2.2 = true := of_decide_eq_true hq
      rw [e] at h
      obtain ⟨k, h1, h2, h3, h4⟩ := cont_app.mp h
      have ei : insL S = insL A ++ [(q.1, q.2.1)] := by
        rw [e, insL_app]
        congr 1
        unfold insL
        simp [hq]
      have ei2 : insL (A ++ [(q.1, l, true)]) = insL A ++ [(q.1, l)] := by
        rw [insL_app]
        rfl
      rw [es]
      show _ = insL (A ++ [(q.1, l, true)])
      rw [ei, ei2, List.getLast?_append]
      show (if q.2.1 + 1 = m + 1 then _ else _) = _
      rw [if_pos (by omega), List.dropLast_concat]
      rfl
    · have ee : insL (segB eqBo S (m + 1, l, true)) = insL S ++ [(m + 1, l)] := by
        rw [es, insL_app]
        rfl
      rw [ee]
      rcases hn with hn | ⟨A, q, e, hq⟩
      · subst hn
        rfl
      · have hq : q.2.2 = false := by
          have z : ¬ q.2.2 = true := of_decide_eq_false hq
          cases w : q.2.2 with
          | true => exact absurd w z
          | false => rfl
        rw [e] at h
        obtain ⟨k, h1, h2, h3, h4⟩ := cont_app.mp h
        have ei : insL S = insL A := by
          rw [e, insL_app]
          have : insL [q] = [] := by
            unfold insL
            simp [hq]
          rw [this, List.append_nil]
        rw [ei]
        cases g : (insL A).getLast? with
        | none =>
          rw [List.getLast?_eq_none_iff.mp g]
          rfl
        | some z =>
          have zm := List.mem_of_getLast? g
          unfold insL at zm
          obtain ⟨p, hp, ep⟩ := List.mem_filterMap.mp zm
          have pl := (cont_le h1).2 p hp
          have ep2 : p.2.1 = z.2 := by
            split at ep
            · cases ep
              rfl
            · cases ep
          show (if z.2 + 1 = m + 1 then _ else _) = _
          rw [if_neg (by omega)]
theorem mrg_all : ∀ (ps : Bs) (S : Bs) (s m e : Int), Cont s S m → Cont m ps e → ps.foldl mrgB (insL S) = insL (ps.foldl (segB eqBo) S)
  | [], S, s, m, e, _, _ => rfl
  | p :: ps, S, s, m, e, h, ⟨h1, h2, h3⟩ => by
    obtain ⟨f, l, b⟩ := p
    have h1 : f = m + 1 := h1
    subst h1
    have h2 : m + 1 ≤ l := h2
    rw [List.foldl_cons, List.foldl_cons, mrg_seg h]
    exact mrg_all ps _ s l e (cont_segB h h2) h3
theorem cont_map {α β : Type} {f : α → β} : ∀ {A : List (Int × Int × α)} {s e : Int}, Cont s A e → Cont s (A.map fun p => (p.1, p.2.1, f p.2.2)) e
  | [], _, _, h => h
  | _ :: _, _, _, ⟨h1, h2, h3⟩ => ⟨h1, h2, cont_map h3⟩
/-- the merged rows of a name are its stretches -/
theorem merged_ins {α : Type} {eq : α → α → Bool} (rA : ∀ x y, eq x y = true → x = y) (f : α → Bool) (U : Nat → α) (T : Nat) : ((segU eq U T).map fun p => (p.1, p.2.1, f p.2.2)).foldl mrgB [] = insL (segU eqBo (fun k => f (U k)) T) := by
  have z := mrg_all ((segU eq U T).map fun p => (p.1, p.2.1, f p.2.2)) [] 0 0 T rfl (cont_map (cont_segU T))
  rw [show insL [] = [] from rfl] at z
  rw [z]
  congr 1
  exact segU_map (eqB := eqBo) rA (fun x => decide_eq_true rfl) f U T
/-- so many units in all -/
theorem ins_sum (b : Nat → Bool) : ∀ T, ((insL (segU eqBo b T)).map fun p => p.2 - p.1 + 1).sum = ((List.range T).map fun k => if b k = true then (1 : Int) else 0).sum
  | 0 => rfl
  | T + 1 => by
    have ih := ins_sum b T
    rw [segU_succ, List.range_succ, List.map_append, List.sum_append, ← ih]
    show _ = _ + [if b T = true then (1 : Int) else 0].sum
    have one : [if b T = true then (1 : Int) else 0].sum = if b T = true then (1 : Int) else 0 := by simp
    rw [one]
    have co := cont_segU (eq := eqBo) (U := b) T
    generalize segU eqBo b T = S at co
    rcases segB_cases eqBo S ((T : Int) + 1, (T : Int) + 1, b T) with ⟨A, q, e, hq, es⟩ | ⟨es, _⟩
    · have hq : q.2.2 = b T := of_decide_eq_true hq
      rw [e] at co
      obtain ⟨k, h1, h2, h3, h4⟩ := cont_app.mp co
      rw [es, e, insL_app, insL_app, List.map_append, List.map_append, List.sum_append, List.sum_append]
      cases hb : b T with
      | true =>
        rw [hb] at hq
        have e1 : insL [q] = [(q.1, q.2.1)] := by unfold insL; simp [hq]
        have e2 : insL [(q.1, (T : Int) + 1, true)] = [(q.1, (T : Int) + 1)] := rfl
        show _ + ((insL [(q.1, (T : Int) + 1, true)]).map _).sum = _
        rw [e1, e2]
        simp
        omega
      | false =>
        rw [hb] at hq
        have e1 : insL [q] = [] := by unfold insL; simp [hq]
        have e2 : insL [(q.1, (T : Int) + 1, false)] = [] := rfl
        show _ + ((insL [(q.1, (T : Int) + 1, false)]).map _).sum = _
        rw [e1, e2]
        simp
    · rw [es, insL_app, List.map_append, List.sum_append]
      congr 1
      cases hb : b T with
      | true =>
        show ([((T : Int) + 1, (T : Int) + 1)].map fun p : Int × Int => p.2 - p.1 + 1).sum = _
        simp
      | false => rfl
/-- the last one ends with the last unit inside -/
theorem ins_last (b : Nat → Bool) {m : Nat} (hm : b m = true) : ∀ d, (∀ k, m < k → k < m + 1 + d → b k = false) → ∃ q, (insL (segU eqBo b (m + 1 + d))).getLast? = some q ∧ q.2 = (m : Int) + 1
  | 0, _ => by
    rw [Nat.add_zero, segU_succ, hm]
    rcases segB_cases eqBo (segU eqBo b m) ((m : Int) + 1, (m : Int) + 1, true) with ⟨A, q, e, hq, es⟩ | ⟨es, _⟩
    · rw [es, insL_app]
      refine ⟨(q.1, (m : Int) + 1), ?_, rfl⟩
      rw [List.getLast?_append]
      rfl
    · rw [es, insL_app]
      refine ⟨((m : Int) + 1, (m : Int) + 1), ?_, rfl⟩
      rw [List.getLast?_append]
      rfl
  | d + 1, h => by
    obtain ⟨q, h1, h2⟩ := ins_last b hm d fun k k1 k2 => h k k1 (by omega)
    refine ⟨q, ?_, h2⟩
    have hf := h (m + 1 + d) (by omega) (by omega)
    have e : m + 1 + (d + 1) = (m + 1 + d) + 1 := by omega
    rw [e, segU_succ, hf]
    generalize segU eqBo b (m + 1 + d) = S at h1 ⊢
    rcases segB_cases eqBo S (((m + 1 + d : Nat) : Int) + 1, ((m + 1 + d : Nat) : Int) + 1, false) with ⟨A, p, e, hq, es⟩ | ⟨es, _⟩
    · have hp : p.2.2 = false := of_decide_eq_true hq
      rw [es, insL_app]
      rw [e, insL_app] at h1
      have e1 : insL [p] = [] := by unfold insL; simp [hp]
      rw [e1] at h1
      exact h1
    · rw [es, insL_app]
      show (insL S ++ []).getLast? = _
      rw [List.append_nil]
      exact h1
section
variable {r : Rl} {c : Int} {nd : Str → Int} {J : List Jd}
/-- a job runs in so many units -/
theorem at_count (rok : r.Ok) (jok : JOk nd J) {j : Jd} (hj : j ∈ J) : ∀ k, getS ((Cs.zero r J).at r c nd k).s.ran j.n = ((List.range k).map fun i => if j.n ∈ (Cs.zero r J).names r c nd i then (1 : Int) else 0).sum
  | 0 => by
    show getS (enters r (Bd.new r) _).ran j.n = 0
    exact enters_new (fun w => nomatch (show j.n ∈ ([] : List Str) from w))
  | k + 1 => by
    obtain ⟨z1, z2⟩ := Cs.zero_ok (r := r) rok jok
    have ok := (Cs.at_ok (c := c) rok jok z1 z2 k).1
    have e := step_vals (c := c) rok jok ok j hj
    have e : getS ((Cs.zero r J).at r c nd (k + 1)).s.ran j.n = _ := e
    rw [e, at_count rok jok hj k, List.range_succ, List.map_append, List.sum_append]
    simp [Cs.names]
    rfl
/-- who has finished runs no more -/
theorem at_gone (rok : r.Ok) (jok : JOk nd J) {x : Str} {m : Nat} (hx : x ∈ ((Cs.zero r J).at r c nd m).fin c nd 1) : ∀ d, x ∈ ((Cs.zero r J).at r c nd (m + 1 + d)).s.ran.map (·.1) ∧ x ∉ ((Cs.zero r J).at r c nd (m + 1 + d)).s.order
  | 0 => by
    obtain ⟨z1, z2⟩ := Cs.zero_ok (r := r) rok jok
    have ok := (Cs.at_ok (c := c) rok jok z1 z2 m).1
    have st := (ok.stp (c := c) rok jok (((Cs.zero r J).at r c nd m).fin c nd 1)).1
    have hr := (List.mem_filter.mp hx).1
    have k := ok.bd.sub x (Bd.run_sub x hr)
    refine ⟨st.keys x k, fun w => ((st.mem x k).mp w).2 ?_⟩
    rw [Cs.lv_fin]
    exact hx
  | d + 1 => by
    obtain ⟨a, b⟩ := at_gone rok jok hx d
    obtain ⟨z1, z2⟩ := Cs.zero_ok (r := r) rok jok
    have ok := (Cs.at_ok (c := c) rok jok z1 z2 (m + 1 + d)).1
    have st := (ok.stp (c := c) rok jok (((Cs.zero r J).at r c nd (m + 1 + d)).fin c nd 1)).1
    exact ⟨st.keys x a, fun w => b ((st.mem x a).mp w).1⟩
theorem finS_unit (rok : r.Ok) (jok : JOk nd J) {x : Str} {u : Int} : ∀ T, (x, u) ∈ finS ((Cs.zero r J).at r c nd T).s → ∃ m < T, u = (m : Int) + 1 ∧ x ∈ ((Cs.zero r J).at r c nd m).fin c nd 1
  | 0, h => by
    have f0 : (Cs.zero r J).s.fins = [] := (enters_same (r := r) (js := (⟨Bd.new r, J⟩ : Cs).arr) (s := Bd.new r)).2.2
    have h : (x, u) ∈ (Cs.zero r J).s.fins.flatMap _ := h
    rw [f0] at h
    cases h
  | T + 1, h => by
    obtain ⟨z1, z2⟩ := Cs.zero_ok (r := r) rok jok
    obtain ⟨ok, _, nw⟩ := Cs.at_ok (c := c) rok jok z1 z2 T
    rw [Cs.zero_now, Int.zero_add] at nw
    have sf := Cs.step_finS (r := r) (c := c) (nd := nd) ok.bd.toOk0
    have sf : finS ((Cs.zero r J).at r c nd (T + 1)).s = _ := sf
    rw [sf, nw] at h
    rcases List.mem_append.mp h with w | w
    · obtain ⟨m, h1, h2⟩ := finS_unit rok jok T w
      exact ⟨m, by omega, h2⟩
    · obtain ⟨y, hy, e⟩ := List.mem_map.mp w
      cases e
      exact ⟨T, by omega, rfl, hy⟩
end
theorem getS_mem {l : List (Str × Int)} {x : Str} (h : x ∈ l.map (·.1)) : (x, getS l x) ∈ l := by
  have z := lookS h
  induction l with
  | nil => cases h
  | cons p r ih =>
    obtain ⟨y, v⟩ := p
    rw [List.lookup_cons] at z
    by_cases e : x = y
    · rw [e, beq_self_eq_true] at z
      have z : some v = some (getS ((y, v) :: r) x) := by rw [e]; exact z
      rw [← Option.some.inj z, e]
      exact List.mem_cons_self ..
    · have hb : (x == y) = false := beq_eq_false_iff_ne.mpr e
      rw [hb] at z
      have hm : x ∈ r.map (·.1) := (List.mem_cons.mp h).resolve_left e
      have g : getS ((y, v) :: r) x = getS r x := by
        unfold getS
        rw [List.lookup_cons, hb]
      rw [g] at z ⊢
      exact List.mem_cons_of_mem _ (ih hm z)
end Vk
set_option maxHeartbeats 4000000
/-! the first difference of two lists of stretches -/
namespace Vk
open PySem PySem.Spec PyProof.Rows L2
/-- rows from unit s + 1 to unit e: each as long as possible -/
def RowsN (N : Nat → List Str) : Nat → List Pc → Nat → Prop
  | s, [], e => s = e
  | s, p :: r, e => ∃ m : Nat, p.1 = (s : Int) + 1 ∧ p.2.1 = (m : Int) ∧ s < m ∧ (∀ k, s ≤ k → k < m → N k = p.2.2) ∧ (∀ q, r.head? = some q → q.2.2 ≠ p.2.2) ∧ RowsN N m r e
theorem RowsN.le {N : Nat → List Str} : ∀ {R : List Pc} {s e : Nat}, RowsN N s R e → s ≤ e
  | [], s, e, h => by rw [show s = e from h]; exact Nat.le_refl _
  | p :: r, s, e, ⟨m, _, _, lt, _, _, h⟩ => by
    have := RowsN.le h
    omega
/-- one row behind -/
theorem RowsN.snoc {N : Nat → List Str} {p : Pc} {m' : Nat} : ∀ {R : List Pc} {s e : Nat}, RowsN N s R e → p.1 = (e : Int) + 1 → p.2.1 = (m' : Int) → e < m' → (∀ k, e ≤ k → k < m' → N k = p.2.2) → (∀ q, R.getLast? = some q → p.2.2 ≠ q.2.2) → RowsN N s (R ++ [p]) m'
  | [], s, e, h, h1, h2, h3, h4, _ => by
    have h : s = e := h
    subst h
    exact ⟨m', h1, h2, h3, h4, fun q hq => (by cases hq), rfl⟩
  | a :: r, s, e, ⟨m, g1, g2, g3, g4, g5, g6⟩, h1, h2, h3, h4, h5 => by
    refine ⟨m, g1, g2, g3, g4, fun q hq => ?_, g6.snoc h1 h2 h3 h4 fun q hq => h5 q ?_⟩
    · cases r with
      | nil =>
        cases hq
        exact h5 a rfl
      | cons b r =>
        exact g5 q hq
    · cases r with
      | nil => cases hq
      | cons b r => rw [List.getLast?_cons_cons]; exact hq
/-- the last row grows -/
theorem RowsN.grow {N : Nat → List Str} {q : Pc} {m' : Nat} : ∀ {A : List Pc} {s e : Nat}, RowsN N s (A ++ [q]) e → e < m' → (∀ k, e ≤ k → k < m' → N k = q.2.2) → RowsN N s (A ++ [(q.1, (m' : Int), q.2.2)]) m'
  | [], s, e, ⟨m, g1, g2, g3, g4, g5, g6⟩, lt, h => by
    have g6 : m = e := g6
    subst g6
    refine ⟨m', g1, rfl, by omega, fun k k1 k2 => ?_, fun q hq => (by cases hq), rfl⟩
    by_cases c : k < m
    · exact g4 k k1 c
    · exact h k (by omega) k2
  | a :: A, s, e, ⟨m, g1, g2, g3, g4, g5, g6⟩, lt, h => by
    refine ⟨m, g1, g2, g3, g4, fun x hx => ?_, g6.grow lt h⟩
    cases A with
    | nil =>
      cases hx
      exact g5 q rfl
    | cons b A => exact g5 x hx
theorem rows_segU (N : Nat → List Str) : ∀ T : Nat, RowsN N 0 (segU (fun a b => decide (a = b)) N T) T
  | 0 => rfl
  | T + 1 => by
    have ih := rows_segU N T
    rw [segU_succ]
    rcases segB_cases (fun a b => decide (a = b)) (segU (fun a b => decide (a = b)) N T) ((T : Int) + 1, (T : Int) + 1, N T) with ⟨A, q, e, h, es⟩ | ⟨es, hn⟩
    · rw [es]
      rw [e] at ih
      have h : q.2.2 = N T := of_decide_eq_true h
      have z := ih.grow (m' := T + 1) (by omega) fun k k1 k2 => by
        rw [show k = T by omega, h]
      rw [h] at z
      exact z
    · rw [es]
      refine ih.snoc (m' := T + 1) rfl (by rfl) (by omega) (fun k k1 k2 => by rw [show k = T by omega]) fun q hq => ?_
      rcases hn with hn | ⟨A, q', e, h⟩
      · rw [hn] at hq
        cases hq
      · rw [e, List.getLast?_append] at hq
        cases hq
        have h : ¬ q'.2.2 = N T := of_decide_eq_false h
        exact fun z => h z.symm
/-- the program's walk -/
def fdM : List Pc → List Pc → Option Int
  | p :: r, q :: t => if p.2.2 = q.2.2 then (if p.2.1 = q.2.1 then fdM r t else some (min p.2.1 q.2.1 + 1)) else some p.1
  | [], q :: _ => some q.1
  | p :: _, [] => some p.1
  | [], [] => none
/-- two sequences of units, each with its rows and its end -/
structure TwoN (N1 N2 : Nat → List Str) (T1 T2 : Nat) : Prop where
  z1 : ∀ k, T1 ≤ k → N1 k = []
  z2 : ∀ k, T2 ≤ k → N2 k = []
  l1 : ∀ k, k + 1 = T1 → N1 k ≠ []
  l2 : ∀ k, k + 1 = T2 → N2 k ≠ []
  g1 : (∀ k < T1, N1 k = N2 k) → T1 < T2 → N2 T1 ≠ []
  g2 : (∀ k < T2, N1 k = N2 k) → T2 < T1 → N1 T2 ≠ []
def EndsAt (R1 R2 : List Pc) (d : Nat) : Prop := d = 0 ∨ ∃ p, (p ∈ R1 ∨ p ∈ R2) ∧ p.2.1 = (d : Int)
theorem fdM_ok {N1 N2 : Nat → List Str} {T1 T2 : Nat} (W : TwoN N1 N2 T1 T2) : ∀ {R1 R2 : List Pc} {s : Nat}, RowsN N1 s R1 T1 → RowsN N2 s R2 T2 → (∀ k < s, N1 k = N2 k) →
    match fdM R1 R2 with
    | none => ∀ k, N1 k = N2 k
    | some u => ∃ d : Nat, u = (d : Int) + 1 ∧ (∀ k < d, N1 k = N2 k) ∧ N1 d ≠ N2 d ∧ (d = s ∨ ∃ p, (p ∈ R1 ∨ p ∈ R2) ∧ p.2.1 = (d : Int))
  | [], [], s, h1, h2, eq => by
    have h1 : s = T1 := h1
    have h2 : s = T2 := h2
    intro k
    by_cases c : k < s
    · exact eq k c
    · rw [W.z1 k (by omega), W.z2 k (by omega)]
  | [], q :: t, s, h1, ⟨m, g1, g2, g3, g4, g5, g6⟩, eq => by
    have h1 : s = T1 := h1
    subst h1
    have := g6.le
    refine ⟨s, g1, eq, ?_, .inl rfl⟩
    rw [W.z1 s (Nat.le_refl _)]
    exact fun z => W.g1 eq (by omega) z.symm
  | p :: r, [], s, ⟨m, g1, g2, g3, g4, g5, g6⟩, h2, eq => by
    have h2 : s = T2 := h2
    subst h2
    have := g6.le
    refine ⟨s, g1, eq, ?_, .inl rfl⟩
    rw [W.z2 s (Nat.le_refl _)]
    exact W.g2 eq (by omega)
  | p :: r, q :: t, s, ⟨m, g1, g2, g3, g4, g5, g6⟩, ⟨n, f1, f2, f3, f4, f5, f6⟩, eq => by
    unfold fdM
    by_cases en : p.2.2 = q.2.2
    · rw [if_pos en]
      -- the next unit behind a row
      have nx1 : N1 m ≠ p.2.2 := by
        cases r with
        | nil =>
          have g6 : m = T1 := g6
          rw [W.z1 m (by omega), ← g4 (m - 1) (by omega) (by omega)]
          exact fun z => W.l1 (m - 1) (by omega) z.symm
        | cons b r =>
          obtain ⟨m2, _, _, a3, a4, _, _⟩ := g6
          rw [a4 m (Nat.le_refl _) a3]
          exact g5 b rfl
      have nx2 : N2 n ≠ q.2.2 := by
        cases t with
        | nil =>
          have f6 : n = T2 := f6
          rw [W.z2 n (by omega), ← f4 (n - 1) (by omega) (by omega)]
          exact fun z => W.l2 (n - 1) (by omega) z.symm
        | cons b t =>
          obtain ⟨m2, _, _, a3, a4, _, _⟩ := f6
          rw [a4 n (Nat.le_refl _) a3]
          exact f5 b rfl
      have upto : ∀ k, k < m → k < n → N1 k = N2 k := fun k k1 k2 => by
        by_cases c : k < s
        · exact eq k c
        · rw [g4 k (by omega) k1, f4 k (by omega) k2, en]
      by_cases el : p.2.1 = q.2.1
      · rw [if_pos el]
        have emn : m = n := by rw [g2, f2] at el; omega
        subst emn
        have ih := fdM_ok W g6 f6 fun k hk => upto k hk hk
        cases hf : fdM r t with
        | none =>
          rw [hf] at ih
          exact ih
        | some u =>
          rw [hf] at ih
          obtain ⟨d, a1, a2, a3, a4⟩ := ih
          refine ⟨d, a1, a2, a3, .inr ?_⟩
          rcases a4 with rfl | ⟨x, hx, ex⟩
          · exact ⟨p, .inl (List.mem_cons_self ..), g2⟩
          · exact ⟨x, hx.imp (List.mem_cons_of_mem _) (List.mem_cons_of_mem _), ex⟩
      · rw [if_neg el]
        have ne : m ≠ n := fun z => el (by rw [g2, f2, z])
        rcases Nat.lt_or_ge m n with c | c
        · refine ⟨m, by rw [g2, f2]; omega, fun k hk => upto k hk (by omega), ?_, .inr ⟨p, .inl (List.mem_cons_self ..), g2⟩⟩
          rw [f4 m (by omega) c, ← en]
          exact nx1
        · refine ⟨n, by rw [g2, f2]; omega, fun k hk => upto k (by omega) hk, ?_, .inr ⟨q, .inr (List.mem_cons_self ..), f2⟩⟩
          rw [g4 n (by omega) (by omega), en]
          exact fun z => nx2 z.symm
    · rw [if_neg en]
      refine ⟨s, g1, eq, ?_, .inl rfl⟩
      rw [g4 s (Nat.le_refl _) g3, f4 s (Nat.le_refl _) f3]
      exact en
/-- the law's way: the names of the row with the unit -/
def namesIn (R : List Pc) (u : Int) : List Str := match R.find? fun p => decide (p.1 ≤ u) && decide (u ≤ p.2.1) with
  | some p => p.2.2
  | none => []
theorem namesIn_ok {N : Nat → List Str} {T : Nat} (z : ∀ k, T ≤ k → N k = []) : ∀ {R : List Pc} {s : Nat}, RowsN N s R T → ∀ k : Nat, s ≤ k → namesIn R ((k : Int) + 1) = N k
  | [], s, h, k, hk => by
    have h : s = T := h
    rw [z k (by omega)]
    rfl
  | p :: r, s, ⟨m, g1, g2, g3, g4, g5, g6⟩, k, hk => by
    unfold namesIn
    by_cases c : k < m
    · have e : (decide (p.1 ≤ (k : Int) + 1) && decide ((k : Int) + 1 ≤ p.2.1)) = true := by
        rw [g1, g2, decide_eq_true (by omega), decide_eq_true (by omega)]
        rfl
      rw [List.find?_cons, e]
      exact (g4 k hk c).symm
    · have e : (decide (p.1 ≤ (k : Int) + 1) && decide ((k : Int) + 1 ≤ p.2.1)) = false := by
        rw [g2, decide_eq_false (show ¬ (k : Int) + 1 ≤ (m : Int) by omega), Bool.and_false]
      rw [List.find?_cons, e]
      exact namesIn_ok z g6 k (by omega)
/-- the first of a sorted list -/
theorem find_sorted {P : Int → Bool} {x : Int} : ∀ {l : List Int}, l.Pairwise (· ≤ ·) → x ∈ l → P x = true → (∀ y ∈ l, y < x → P y = false) → l.find? P = some x
  | [], _, h, _, _ => nomatch h
  | a :: l, hp, hx, px, lo => by
    obtain ⟨h1, h2⟩ := List.pairwise_cons.mp hp
    rw [List.find?_cons]
    rcases List.mem_cons.mp hx with e | hx
    · rw [← e, px]
    · cases pa : P a with
      | true =>
        have le := h1 x hx
        rcases Int.lt_or_eq_of_le le with lt | e
        · rw [lo a (List.mem_cons_self ..) lt] at pa
          cases pa
        · rw [e]
      | false => exact find_sorted h2 hx px fun y hy => lo y (List.mem_cons_of_mem _ hy)
theorem first_ok {N1 N2 : Nat → List Str} {T1 T2 : Nat} (W : TwoN N1 N2 T1 T2) {R1 R2 : List Pc} (h1 : RowsN N1 0 R1 T1) (h2 : RowsN N2 0 R2 T2) {l : List Int} (hp : l.Pairwise (· ≤ ·)) (mem : ∀ y, y ∈ l ↔ y = 1 ∨ ∃ p, (p ∈ R1 ∨ p ∈ R2) ∧ y = p.2.1 + 1) (pos : ∀ y ∈ l, 1 ≤ y) :
    l.find? (fun u => decide (namesIn R1 u ≠ namesIn R2 u)) = fdM R1 R2 := by
  have f := fdM_ok W h1 h2 (fun k hk => absurd hk (Nat.not_lt_zero _))
  have at_ : ∀ y, 1 ≤ y → namesIn R1 y = N1 (y - 1).toNat ∧ namesIn R2 y = N2 (y - 1).toNat := fun y hy => by
    have e : y = (((y - 1).toNat : Nat) : Int) + 1 := by omega
    constructor
    · rw [← namesIn_ok W.z1 h1 (y - 1).toNat (Nat.zero_le _), ← e]
    · rw [← namesIn_ok W.z2 h2 (y - 1).toNat (Nat.zero_le _), ← e]
  cases hf : fdM R1 R2 with
  | none =>
    rw [hf] at f
    rw [List.find?_eq_none]
    intro y hy
    obtain ⟨a, b⟩ := at_ y (pos y hy)
    rw [a, b, f]
    simp
  | some u =>
    rw [hf] at f
    obtain ⟨d, rfl, lo, ne, wh⟩ := f
    refine find_sorted hp ((mem _).mpr ?_) ?_ fun y hy lt => ?_
    · rcases wh with rfl | ⟨p, hp', e⟩
      · exact .inl rfl
      · exact .inr ⟨p, hp', by rw [e]⟩
    · obtain ⟨a, b⟩ := at_ ((d : Int) + 1) (by omega)
      rw [a, b, show ((d : Int) + 1 - 1).toNat = d by omega]
      exact decide_eq_true ne
    · have py := pos y hy
      obtain ⟨a, b⟩ := at_ y py
      rw [a, b, lo _ (by omega)]
      simp
end Vk
set_option maxHeartbeats 4000000
/-! dict(t) of a tuple of pairs: the tuple is kept whole from where tuple(xs) makes it -/
namespace Vk
open PySem PySem.Spec PyProof.Rows L2
/-- a tuple of its own, kept whole -/
def Whole (H : Hp) (a : Addr) (ys : List V) : Prop := ∃ o : Obj, H a = some (.frz o (.tup ys)) ∧ o.dict = none
theorem Whole.same {H H' : Hp} {a : Addr} {ys : List V} (s : Same H H') (h : Whole H a ys) : Whole H' a ys := by
  obtain ⟨o, e, d⟩ := h
  exact ⟨o, s.at e, d⟩
theorem Whole.tup {K : PySem.W.Frag} {H : Hp} {a : Addr} {ys : List V} (h : Whole H a ys) : SqT K H a ys := by
  obtain ⟨o, e, _⟩ := h
  exact .inl (.inr ⟨o, e⟩)
section
variable {X : Cx}
theorem call_tupleF : CallR X (.type "tuple") (fun xs H Q => ∃ p ys, xs = [.ref p] ∧ SqL X.K H p ys ∧ ∀ (l : Addr) (o : Obj), H l = none → o.dict = none → Q (.ref l) (upd H l (.frz o (.tup ys)))) := by
  intro pins s σ H xs us Q I r h
  obtain ⟨p, ys, rfl, hq, q⟩ := h
  obtain ⟨u, rfl, rx⟩ := vals1 r
  cases rx
  obtain ⟨its, rv, pl, hz⟩ := I.list hq
  have lz := rv.length
  refine call_tuple_list pl.isList (fun g kp => ?_) (by simp only [List.size_toArray] <;> omega)
  have I1 : Inv X pins σ H { s with heap := g } := I.kept (t' := s.toks) kp
  have here : (g.push { cls := .type "tuple", data := .seq its.toArray }).get? g.objs.size = some { cls := .type "tuple", data := .seq its.toArray } := Heap.get?_push_size _ rfl
  have I2 : Inv X pins σ (upd H g.objs.size (.frz { cls := .type "tuple", data := .seq its.toArray } (.tup ys))) { s with heap := g.push { cls := .type "tuple", data := .seq its.toArray } } :=
    I1.laid (t' := s.toks) (fun b o e => Heap.get?_push_of_some _ e) (Nat.le_refl _) (show ObjOk X.prog X.w _ _ _ (.frz _ (.tup ys)) from ⟨here, hz, its, rv, IsTup.new _ _⟩)
  exact ⟨.ref g.objs.size, _, I2, rfl, q _ _ (I1.hok.fresh (Nat.le_refl _)) rfl⟩
/-- the pairs of a tuple, as the machine holds them -/
theorem pairsV {pins : List (Addr × Obj)} {σ : L2.St} {H : Hp} {s : Shared} (I : Inv X pins σ H s) : ∀ {ps : List Addr} {kvs : List (Key × V)}, Paired (fun p kv => SqT X.K H p [kV kv.1, kv.2]) ps kvs →
    ∃ (pv : List (Value × Value)) (prs : List (Key × Value)), KV kvs prs ∧ pv.length = ps.length ∧ prs.length = ps.length ∧ (∀ (j : Nat) (k v : Value), pv[j]? = some (k, v) → ∃ b, ps[j]? = some b ∧ PairAt s.heap b k v) ∧
      ∀ (j : Nat) (k v : Value), pv[j]? = some (k, v) → ∃ x, prs[j]? = some (x, v) ∧ keyIs x k = true
  | _, _, .nil => ⟨[], [], .nil, rfl, rfl, fun j k v e => by simp at e, fun j k v e => by simp at e⟩
  | _, _, .cons (a := p) (b := kv) h t => by
    obtain ⟨pv, prs, r, l1, l2, h1, h2⟩ := pairsV I t
    obtain ⟨its, rv, ht, _⟩ := I.tuple h
    obtain ⟨u, y, ei, ru, ry⟩ := vals2 rv
    subst ei
    refine ⟨(u, y) :: pv, (kv.1, y) :: prs, .cons ⟨rfl, ry⟩ r, by rw [List.length_cons, List.length_cons, l1], by rw [List.length_cons, List.length_cons, l2], fun j k v e => ?_, fun j k v e => ?_⟩
    · cases j with
      | zero =>
        cases (Option.some.inj e)
        exact ⟨p, rfl, .inl ht⟩
      | succ j => exact h1 j k v (by simpa using e)
    · cases j with
      | zero =>
        cases (Option.some.inj e)
        exact ⟨kv.1, rfl, kV_is (P := X.prog) (w := X.w) ru⟩
      | succ j => exact h2 j k v (by simpa using e)
theorem call_dictT (hcalm : X.calm = true) : CallR X (.type "dict") (fun xs H Q => ∃ (a : Addr) (ps : List Addr) (kvs : List (Key × V)), xs = [.ref a] ∧ Whole H a (ps.map V.ref) ∧ Paired (fun p kv => SqT X.K H p [kV kv.1, kv.2]) ps kvs ∧
    ∀ p, H p = none → Q (.ref p) (upd H p (.dK (mergeK [] kvs)))) := by
  intro pins s σ H xs us Q I r q
  obtain ⟨a, ps, kvs, ex, ⟨o, hA, od⟩, hp, q⟩ := q
  subst ex
  obtain ⟨u, eu, rx⟩ := vals1 r
  subst eu
  cases rx
  obtain ⟨ho, hz, its, rv, o2, ho2, hc, n, hdat⟩ := (show ObjOk X.prog X.w H s.heap a (.frz o (.tup (ps.map V.ref))) from I.hok a _ hA)
  have eo : o = o2 := Option.some.inj (ho.symm.trans ho2)
  subst eo
  have ei := refs_at rv
  subst ei
  rw [List.length_map] at hz
  obtain ⟨pv, prs, rel, l1, l2, h1, h2⟩ := pairsV I hp
  have items : PairItems s.heap (ps.map Value.ref).toArray (fun j => ps.getD j 0) pv := ⟨by simp [l1], fun j k v e => by
    obtain ⟨b, hb, pa⟩ := h1 j k v e
    have eb : ps.getD j 0 = b := by rw [List.getD_eq_getElem?_getD, hb]; rfl
    dsimp only
    rw [eb]
    exact ⟨by simp [hb], pa⟩⟩
  refine PySem.call_dict_pairs (knd := mixKind X.prog X.w) (kvs := prs) (PairArg.tuple a (ps.map Value.ref).toArray (fun j => ps.getD j 0) pv) (I.ok.hd hcalm) ⟨⟨o, n, ho, hc, od, hdat⟩, items⟩ ⟨l2.trans l1.symm, fun i key v e => h2 i key v e⟩ (by rw [l1]; exact hz) fun h' tk hd' k => ?_
  have hm : (s.heap.objs.size == sysModules) = false := beq_eq_false_iff_ne.mpr (Nat.ne_of_gt I.big)
  have lm : (mergeK [] kvs).length ≤ sizeLine := by
    refine Nat.le_trans (length_mergeK kvs []) ?_
    rw [List.length_nil, Nat.zero_add, rel.length, l2]
    exact hz
  exact ⟨.ref s.heap.objs.size, upd H s.heap.objs.size (.dK (mergeK [] kvs)), I.laid (t' := tk) (fun b o e => k b o (fun z => nomatch z) e) (Nat.le_refl _) (show ObjOk X.prog X.w _ _ _ (.dK (mergeK [] kvs)) from ⟨lm, hm, merged [] prs, KV.merge rel .nil, hd'⟩), rfl, q _ (I.hok.fresh (Nat.le_refl _))⟩
end
end Vk
set_option maxHeartbeats 8000000
/-! first_difference -/
namespace Vk
open PySem PySem.Spec PyProof.Rows L2 GxR RZ
theorem walk_zipTT {K : PySem.W.Frag} {a b : Addr} {xs ys : List V} {n : Nat} (hn : n = min xs.length ys.length) : Walk (ItzT K a b) n (fun H => SqT K H a xs ∧ SqT K H b ys) (YPair (fun i => xs[i]?) (fun i => ys[i]?)) := by
  subst hn
  refine ⟨fun i _ hi q => ?_, fun _ q => ⟨xs, ys, q.1, q.2, by omega⟩, fun i H v H' _ q y => ?_⟩
  · have h1 : i < xs.length := by omega
    have h2 : i < ys.length := by omega
    exact ⟨xs, ys, xs[i], ys[i], q.1, q.2, by simp [h1], by simp [h2]⟩
  · obtain ⟨T, x, z, h1, h2, h3, h4, h5⟩ := y
    exact ⟨T, x, z, h1, h2, h3, h4 xs q.1, h5 ys q.2⟩

theorem cut_fromN {xs : List V} {n : Nat} : cutV xs (some (n : Int)) none = xs.drop n := by
  unfold cutV
  rw [show HT.sIx xs.length 0 (some (n : Int)) = min n xs.length from HT.sIx_nat _ _ n, show HT.sIx xs.length xs.length none = xs.length from rfl]
  rcases Nat.le_total n xs.length with h | h
  · rw [Nat.min_eq_left h, List.take_of_length_le (by rw [List.length_drop]; exact Nat.le_refl _)]
  · rw [Nat.min_eq_right h, List.drop_eq_nil_of_le h, List.drop_length]
    simp
def optI (o : Option Int) : V := match o with
  | some u => .int u
  | none => .non
theorem fdM_cons {p q : Pc} {r t : List Pc} : fdM (p :: r) (q :: t) = if p.2.2 = q.2.2 then (if p.2.1 = q.2.1 then fdM r t else some (min p.2.1 q.2.1 + 1)) else some p.1 := rfl
theorem fdM_end : ∀ {A B : List Pc}, A = [] ∨ B = [] → fdM A B = ((A ++ B).head?).map (·.1)
  | [], [], _ => rfl
  | [], q :: t, _ => rfl
  | p :: r, [], _ => rfl
  | p :: r, q :: t, h => by rcases h with h | h <;> cases h
abbrev NFD : List Str := ["ours", "theirs", "first", "last", "names", "_", "other_last", "other_names", "common", "behind"]
section
variable {P : Program} {w : World} {K : PySem.W.Frag} {mg : Str → Option Value} {base : Heap}
theorem slA_go {H : Hp} {a : Addr} {xs : List V} {lo hi : Option Int} {Q : VK} (q : SqT K H a xs) (go : ∀ (b : Addr) (H' : Hp), Same H H' → SqT K H' b (cutV xs lo hi) → Q (.ref b) H') : rSlA K (.ref a) lo hi H Q := by
  refine ⟨a, xs, rfl, q, fun ⟨h1, h2⟩ => go a H (Same.refl _) ?_, fun _ p np => go p _ (same_new np) (SqT.of upd_same)⟩
  have e : cutV xs lo hi = xs := by
    unfold cutV
    rw [h1, h2]
    simp
  rw [e]
  exact q
theorem catA_go {H : Hp} {a b : Addr} {xs ys : List V} {Q : VK} (qa : SqT K H a xs) (qb : SqT K H b ys) (len : xs.length + ys.length ≤ sizeLine) (go : ∀ (p : Addr) (H' : Hp), Same H H' → SqT K H' p (xs ++ ys) → Q (.ref p) H') : rCatA K (.ref a) (.ref b) H Q := by
  refine ⟨a, b, xs, ys, rfl, rfl, qa, qb, len, fun e => go b H (Same.refl _) (by rw [e]; exact qb), fun _ e => go a H (Same.refl _) (by rw [e, List.append_nil]; exact qa), fun _ _ p np => go p _ (same_new np) (SqT.of upd_same)⟩
def spFirstD (K : PySem.W.Frag) : Sp := fun vs H Q _ => ∃ (u v : V) (R1 R2 : List Pc), vs = [u, v] ∧ Dp K H u (.tuple (R1.map pieD)) ∧ Dp K H v (.tuple (R2.map pieD)) ∧ R1.length ≤ 1000000 ∧ R2.length ≤ 1000000 ∧ (∀ p ∈ R1, ∀ x ∈ p.2.2, PyData.strOk x = true) ∧ (∀ p ∈ R2, ∀ x ∈ p.2.2, PyData.strOk x = true) ∧
  ∀ H', Same H H' → Q (optI (fdM R1 R2)) H'
theorem scFirstD : FnScope NFD ["ours", "theirs"] (defScope sFirstD) := ⟨rfl, rfl, rfl, by decide +kernel, rfl, by decide +kernel, by decide +kernel⟩
theorem ok_firstD (D : Df K mg "first_difference" sFirstD ["ours", "theirs"]) (B : Blt mg) (mn : mg "min" = none) (mZ : mg "zip" = none) : Cl P w K mg base CX0 1 "first_difference" ["ours", "theirs"] (spFirstD K) := by
  refine cl0 D scFirstD (fun vs H Q E h => ?_) (fun f cdv A outer s H vs Q E hr h => ?_)
  · obtain ⟨u, v, R1, R2, rfl, _⟩ := h
    rfl
  · obtain ⟨u, v, R1, R2, rfl, d1, d2, l1, l2, ok1, ok2, k⟩ := h
    refine ⟨_, pss_cons (ps_for PassesOwn.never rfl (pi_zipA (by rfl) mZ (pa_cons (pv 0) (pa_cons (pv 1) pa_nil))) (pg_tup rfl (pgs_cons (pg_tup rfl (pgs_cons (pg_name (i := 2) scFirstD.nd rfl (.inl rfl)) (pgs_cons (pg_name (i := 3) scFirstD.nd rfl (.inl rfl)) (pgs_cons (pg_name (i := 4) scFirstD.nd rfl (.inl rfl)) pgs_nil)))) (pgs_cons (pg_tup rfl (pgs_cons (pg_name (i := 5) scFirstD.nd rfl (.inl rfl)) (pgs_cons (pg_name (i := 6) scFirstD.nd rfl (.inl rfl)) (pgs_cons (pg_name (i := 7) scFirstD.nd rfl (.inl rfl)) pgs_nil)))) pgs_nil)))
        (pss_cons (ps_if (pt_cmpR (op_neD hr.units) (pv 4) (pv 7) (nomark _)) (pss_one (ps_ret (pv 2))) pss_nil)
        (pss_one (ps_if (pt_cmpR op_ne (pv 3) (pv 6) (nomark _)) (pss_one (ps_ret (pe_op op_add (pe_callB (call_min2 rfl) (by rfl) mn (by decide +kernel) (pa_cons (pv 3) (pa_cons (pv 6) pa_nil))) pe_int))) pss_nil))))
      (pss_cons (ps_set (i := 8) scFirstD.nd rfl (Or.inl rfl) (pe_callB (call_min2 rfl) (by rfl) mn (by decide +kernel) (pa_cons (pe_callB call_len_seq (by rfl) B.len PySem.boot_len (pa_cons (pv 0) pa_nil)) (pa_cons (pe_callB call_len_seq (by rfl) B.len PySem.boot_len (pa_cons (pv 1) pa_nil)) pa_nil))))
      (pss_cons (ps_set (i := 9) scFirstD.nd rfl (Or.inl rfl) (pe_op op_catA (pe_slice sl_tupA (pv 0) (po_some (pv 8)) po_none) (pe_slice sl_tupA (pv 1) (po_some (pv 8)) po_none)))
      (pss_one (ps_ret (pe_ifExp (pt_truth (pv 9) (fun _ => rfl)) (pe_ix ix_tup (pe_ix ix_tup (pv 9) pe_int (fun _ _ => rfl)) pe_int (fun _ _ => rfl)) pe_non))))), ?_⟩
    obtain ⟨pu, xu, rfl, qu, ru⟩ := dp_tuple d1
    obtain ⟨pv', xv, rfl, qv, rv⟩ := dp_tuple d2
    have lu := dps_len ru
    have lv := dps_len rv
    rw [List.length_map] at lu lv
    refine ⟨_, rfl, _, rfl, pu, pv', xu, xv, rfl, .inr ⟨qu, qv, ?_⟩⟩
    refine for_it (D := { nx := _, rt := _ }) (walk_zipTT (K := K) (a := pu) (b := pv') (xs := xu) (ys := xv) (n := min R1.length R2.length) (by rw [lu, lv])) (fun i σ G => ∃ (u2 u3 u4 u5 u6 u7 : Option V), σ = [some (.ref pu), some (.ref pv'), u2, u3, u4, u5, u6, u7, none, none] ∧ Same H G ∧ fdM (R1.drop i) (R2.drop i) = fdM R1 R2)
      ⟨none, none, none, none, none, none, rfl, Same.refl _, rfl⟩ (fun i σ G _ ⟨_, _, _, _, _, _, _, sc, _⟩ => ⟨same_seqT sc qu, same_seqT sc qv⟩) ?_ ?_
    · rintro i y σ G0 G hi ⟨u2, u3, u4, u5, u6, u7, rfl, sc, ef⟩ ⟨TT, x1, y1, rfl, nT, rfl, ex, ey⟩
      replace ex : xu[i]? = some x1 := ex
      replace ey : xv[i]? = some y1 := ey
      obtain ⟨da, hda, dda⟩ := dps_getV ru ex
      rw [List.getElem?_map] at hda
      obtain ⟨p, hp, rfl⟩ := Option.map_eq_some_iff.mp hda
      obtain ⟨db, hdb, ddb⟩ := dps_getV rv ey
      rw [List.getElem?_map] at hdb
      obtain ⟨q, hq, rfl⟩ := Option.map_eq_some_iff.mp hdb
      have sT := same_new (o := .tup [x1, y1]) nT
      have s2 := sc.trans sT
      obtain ⟨a1, b1, b2, b3, rfl, qa, e1, e2, e3⟩ := dp_threeB (dp_same s2 dda)
      obtain ⟨a2, c1, c2, c3, rfl, qb, f1, f2, f3⟩ := dp_threeB (dp_same s2 ddb)
      have e1 := dp_int e1
      have e2 := dp_int e2
      have f1 := dp_int f1
      have f2 := dp_int f2
      subst e1 e2 f1 f2
      have hi1 := (List.getElem?_eq_some_iff.mp hp)
      have hi2 := (List.getElem?_eq_some_iff.mp hq)
      obtain ⟨hi1, hp⟩ := hi1
      obtain ⟨hi2, hq⟩ := hi2
      rw [List.drop_eq_getElem_cons hi1, List.drop_eq_getElem_cons hi2, hp, hq] at ef
      rw [fdM_cons] at ef
      have pm : p ∈ R1 := hp ▸ List.getElem_mem hi1
      have qm : q ∈ R2 := hq ▸ List.getElem_mem hi2
      have en := eqv_names (a := p.2.2) (b := q.2.2) (ok1 p pm)
      refine ⟨TT, _, rfl, SqT.of upd_same, rfl, _, _, rfl, a1, _, rfl, qa, rfl, _, _, rfl, _, _, rfl, _, _, rfl, rfl, _, _, rfl, a2, _, rfl, qb, rfl, _, _, rfl, _, _, rfl, _, _, rfl, rfl, rfl, ?_⟩
      refine ⟨_, rfl, _, rfl, _, _, e3, f3, sh_names (ok1 p pm), sh_names (ok2 q qm), ?_⟩
      refine ⟨_, rfl, ?_⟩
      rw [en]
      by_cases hn : p.2.2 = q.2.2
      · rw [if_pos hn] at ef
        rw [decide_eq_true hn]
        refine iteF ?_
        refine ⟨_, rfl, _, rfl, rfl, _, rfl, ?_⟩
        by_cases hl : p.2.1 = q.2.1
        · rw [if_pos hl] at ef
          refine ite2 (fun h => absurd (congrArg V.int hl) (by simpa using h)) (fun _ => ?_)
          exact ⟨_, _, _, _, _, _, rfl, s2, ef⟩
        · rw [if_neg hl] at ef
          refine ite2 (fun _ => ?_) (fun h => absurd (V.int.inj (by simpa using h)) hl)
          refine ⟨_, rfl, _, rfl, ?_⟩
          refine ⟨_, _, rfl, _, _, rfl, rfl, ?_⟩
          have z := k _ s2
          rw [← ef] at z
          rw [show (if q.2.1 < p.2.1 then q.2.1 else p.2.1) = min p.2.1 q.2.1 by omega]
          exact z
      · rw [if_neg hn] at ef
        rw [decide_eq_false hn]
        refine iteT ⟨_, rfl, ?_⟩
        have z := k _ s2
        rw [← ef] at z
        exact z
    · rintro σ G ⟨u2, u3, u4, u5, u6, u7, rfl, sc, ef⟩
      rw [fdM_end (by
        rcases Nat.le_total R1.length R2.length with h | h
        · left
          rw [Nat.min_eq_left h]
          exact List.drop_length
        · right
          rw [Nat.min_eq_right h]
          exact List.drop_length)] at ef
      refine ⟨_, rfl, pu, xu, rfl, .inr (same_seqT sc qu), _, rfl, pv', xv, rfl, .inr (same_seqT sc qv), _, _, rfl, ?_⟩
      have em : (if ((xv.length : Nat) : Int) < ((xu.length : Nat) : Int) then ((xv.length : Nat) : Int) else ((xu.length : Nat) : Int)) = ((min R1.length R2.length : Nat) : Int) := by omega
      rw [em]
      generalize min R1.length R2.length = n at ef
      refine ⟨_, rfl, _, rfl, _, rfl, ?_⟩
      dsimp only [tNoPart]
      refine slA_go (same_seqT sc qu) fun b1 G1 s1 q1 => ?_
      have sc1 := sc.trans s1
      refine ⟨_, rfl, _, rfl, _, rfl, ?_⟩
      dsimp only [tSl, tVar, tPart, tNoPart]
      refine slA_go (same_seqT sc1 qv) fun b2 G2 s2 q2 => ?_
      rw [cut_fromN] at q1 q2
      have sc2 := sc1.trans s2
      refine catA_go (same_seqT s2 q1) q2 (Nat.le_trans (show _ ≤ 2000000 by rw [List.length_drop, List.length_drop]; omega) (by decide)) fun b3' G3 s3 q3 => ?_
      have sc3 := sc2.trans s3
      have dd : DpAll K G3 (xu.drop n ++ xv.drop n) ((R1.drop n ++ R2.drop n).map pieD) := by
        rw [List.map_append, List.map_drop, List.map_drop]
        exact dps_app (dps_drop n (dps_same sc3 ru)) (dps_drop n (dps_same sc3 rv))
      generalize xu.drop n ++ xv.drop n = xs at q3 dd
      generalize R1.drop n ++ R2.drop n = L at ef dd
      refine ⟨_, rfl, _, .inr (.inl ⟨_, q3, rfl⟩), ?_⟩
      cases L with
      | nil =>
        cases dd
        refine iteF ?_
        have z := k _ sc3
        rw [← ef] at z
        exact z
      | cons p L =>
        obtain _ | ⟨hd, tl⟩ := dd
        refine iteT ?_
        obtain ⟨a1, b1, b2, b3, rfl, qa, e1, e2, e3⟩ := dp_threeB hd
        have e1 := dp_int e1
        subst e1
        have z := k _ sc3
        rw [← ef] at z
        exact ⟨_, rfl, b3', _, _, _, rfl, rfl, q3, (show atI _ ((0 : Nat) : Int) = some _ from atI_nat rfl), a1, _, _, _, rfl, rfl, qa, rfl, z⟩
end
end Vk
set_option maxHeartbeats 4000000
/-! two courses: the first difference of their runs -/
namespace Vk
open PySem PySem.Spec PyProof.Rows L2
section
variable {r : Rl} {c : Int} {nd nd' : Str → Int} {J : List Jd} {T T' : Nat}
theorem RunOk.at_ok (ro : RunOk nd J r c) (k : Nat) : ((Cs.zero r J).at r c nd k).Ok r nd J := by
  obtain ⟨z1, z2⟩ := Cs.zero_ok (r := r) ro.rok ro.jok
  exact (Cs.at_ok (c := c) ro.rok ro.jok z1 z2 k).1
theorem RunOk.stp (ro : RunOk nd J r c) (k : Nat) : Stp c ((Cs.zero r J).at r c nd k) ((Cs.zero r J).at r c nd (k + 1)) (((Cs.zero r J).at r c nd k).fin c nd 1) :=
  ((ro.at_ok k).stp (c := c) ro.rok ro.jok _).1
theorem RunOk.keys (ro : RunOk nd J r c) {x : Str} {k : Nat} (h : x ∈ ((Cs.zero r J).at r c nd k).s.ran.map (·.1)) : ∀ d, x ∈ ((Cs.zero r J).at r c nd (k + d)).s.ran.map (·.1)
  | 0 => h
  | d + 1 => (ro.stp (k + d)).keys x (RunOk.keys ro h d)
/-- when a job finishes -/
def finU (r : Rl) (c : Int) (nd : Str → Int) (J : List Jd) (T : Nat) (x : Str) : Int := getS (finS ((Cs.zero r J).at r c nd T).s) x
theorem RunOk.finishes (ro : RunOk nd J r c) (e : EndAt r c nd J T) {j : Jd} (hj : j ∈ J) : ∃ m < T, finU r c nd J T j.n = (m : Int) + 1 ∧ j.n ∈ ((Cs.zero r J).at r c nd m).fin c nd 1 :=
  finS_unit ro.rok ro.jok T (getS_mem (all_fin (ro.at_ok T) e.don j hj))
theorem RunOk.gone (ro : RunOk nd J r c) (e : EndAt r c nd J T) {k : Nat} (hk : T ≤ k) : ((Cs.zero r J).at r c nd k).s.order = [] := by
  rw [List.eq_nil_iff_forall_not_mem]
  intro x hx
  have ok := ro.at_ok k
  obtain ⟨j, hj, rfl⟩ := List.mem_map.mp (ok.keys x (ok.bd.sub x hx))
  obtain ⟨m, hm, _, hf⟩ := ro.finishes e hj
  obtain ⟨d, rfl⟩ : ∃ d, k = m + 1 + d := ⟨k - (m + 1), by omega⟩
  exact (at_gone ro.rok ro.jok hf d).2 hx
theorem RunOk.idle (ro : RunOk nd J r c) (e : EndAt r c nd J T) {k : Nat} (hk : T ≤ k) : (Cs.zero r J).names r c nd k = [] := by
  rw [List.eq_nil_iff_forall_not_mem]
  intro x hx
  have z := Bd.run_sub x (show x ∈ ((Cs.zero r J).at r c nd k).s.run c from hx)
  rw [ro.gone e hk] at z
  cases z
theorem RunOk.finU_iff (ro : RunOk nd J r c) (e : EndAt r c nd J T) {j : Jd} (hj : j ∈ J) (k : Nat) : finU r c nd J T j.n = (k : Int) + 1 ↔ j.n ∈ ((Cs.zero r J).at r c nd k).fin c nd 1 := by
  obtain ⟨m, hm, em, hf⟩ := ro.finishes e hj
  constructor
  · intro h
    have : k = m := by omega
    rw [this]
    exact hf
  · intro h
    rw [em]
    have hk : j.n ∈ ((Cs.zero r J).at r c nd k).s.order := Bd.run_sub _ (List.mem_filter.mp h).1
    have hm' : j.n ∈ ((Cs.zero r J).at r c nd m).s.order := Bd.run_sub _ (List.mem_filter.mp hf).1
    rcases Nat.lt_trichotomy m k with lt | e' | lt
    · obtain ⟨d, rfl⟩ : ∃ d, k = m + 1 + d := ⟨k - (m + 1), by omega⟩
      exact absurd hk (at_gone ro.rok ro.jok hf d).2
    · rw [e']
    · obtain ⟨d, rfl⟩ : ∃ d, m = k + 1 + d := ⟨m - (k + 1), by omega⟩
      exact absurd hm' (at_gone ro.rok ro.jok h d).2
theorem RunOk.last (ro : RunOk nd J r c) (e : EndAt r c nd J T) {k : Nat} (hk : k + 1 = T) : (Cs.zero r J).names r c nd k ≠ [] := by
  intro hn
  have hr : ((Cs.zero r J).at r c nd k).s.run c = [] := hn
  have st := ro.stp k
  have lv : ((Cs.zero r J).at r c nd k).s.lv c (((Cs.zero r J).at r c nd k).fin c nd 1) = [] := by
    rw [Cs.lv_fin]
    unfold Cs.fin
    rw [hr]
    rfl
  have d := st.done
  rw [lv, hk, e.don] at d
  exact e.first k (by omega) (by simpa using d.symm)
/-- who has ran so often has been there -/
theorem RunOk.ran_in (ro : RunOk nd J r c) (e : EndAt r c nd J T) {j : Jd} (hj : j ∈ J) : ∃ k < T, j.n ∈ (Cs.zero r J).names r c nd k := by
  obtain ⟨m, hm, _, hf⟩ := ro.finishes e hj
  exact ⟨m, hm, (List.mem_filter.mp hf).1⟩
theorem RunOk.goes (ro : RunOk nd J r c) (ro' : RunOk nd' J r c) (e : EndAt r c nd J T) (e' : EndAt r c nd' J T') (eq : ∀ k < T, (Cs.zero r J).names r c nd k = (Cs.zero r J).names r c nd' k) (lt : T < T') : (Cs.zero r J).names r c nd' T ≠ [] := by
  intro hn
  have ok := ro'.at_ok T
  have ho := run_empty ro'.c1 (show ((Cs.zero r J).at r c nd' T).s.run c = [] from hn)
  have cm : ((Cs.zero r J).at r c nd' T).cm = [] := by
    rw [List.eq_nil_iff_forall_not_mem]
    intro j hj
    obtain ⟨k, hk, h⟩ := ro.ran_in e (ok.sub j hj)
    rw [eq k hk] at h
    have okk := ro'.at_ok k
    have z := okk.bd.sub _ (Bd.run_sub _ (show j.n ∈ ((Cs.zero r J).at r c nd' k).s.run c from h))
    have y := ro'.keys z (T - k)
    rw [show k + (T - k) = T by omega] at y
    exact ok.out j hj y
  have d := ok.done_len
  have l := ok.len
  rw [ho] at d
  rw [cm] at l
  simp only [List.length_nil] at d l
  exact e'.first T lt (by omega)
theorem two_runs (ro : RunOk nd J r c) (ro' : RunOk nd' J r c) (e : EndAt r c nd J T) (e' : EndAt r c nd' J T') : TwoN ((Cs.zero r J).names r c nd) ((Cs.zero r J).names r c nd') T T' where
  z1 := fun k hk => ro.idle e hk
  z2 := fun k hk => ro'.idle e' hk
  l1 := fun k hk => ro.last e hk
  l2 := fun k hk => ro'.last e' hk
  g1 := fun eq lt => ro.goes ro' e e' eq lt
  g2 := fun eq lt => ro'.goes ro e' e (fun k hk => (eq k hk).symm) lt
/-- a run splits only behind a finish that is another -/
theorem split_behind (ro : RunOk nd J r c) (ro' : RunOk nd' J r c) (e : EndAt r c nd J T) (e' : EndAt r c nd' J T') {d : Nat} (ne : (Cs.zero r J).names r c nd d ≠ (Cs.zero r J).names r c nd' d) :
    ∃ j ∈ J, finU r c nd J T j.n ≠ finU r c nd' J T' j.n ∧ min (finU r c nd J T j.n) (finU r c nd' J T' j.n) < (d : Int) + 1 := by
  refine Classical.byContradiction fun no => ne ?_
  have all : ∀ j ∈ J, finU r c nd J T j.n ≠ finU r c nd' J T' j.n → (d : Int) + 1 ≤ min (finU r c nd J T j.n) (finU r c nd' J T' j.n) := fun j hj h => by
    refine Classical.byContradiction fun w => no ⟨j, hj, h, ?_⟩
    omega
  have same : ∀ k ≤ d, (Cs.zero r J).at r c nd k = (Cs.zero r J).at r c nd' k := fun k => by
    induction k with
    | zero => exact fun _ => rfl
    | succ k ih =>
      intro hk
      have ek := ih (by omega)
      have ok := ro.at_ok k
      have fe : ((Cs.zero r J).at r c nd k).fin c nd 1 = ((Cs.zero r J).at r c nd k).fin c nd' 1 := by
        unfold Cs.fin
        refine List.filter_congr fun x hx => ?_
        obtain ⟨j, hj, rfl⟩ := List.mem_map.mp (ok.keys x (ok.bd.sub x (Bd.run_sub x hx)))
        have i1 := ro.finU_iff e hj k
        have i2 := ro'.finU_iff e' hj k
        rw [← ek] at i2
        have m1 : j.n ∈ ((Cs.zero r J).at r c nd k).fin c nd 1 ↔ getS ((Cs.zero r J).at r c nd k).s.ran j.n + 1 = nd j.n := by
          unfold Cs.fin
          rw [List.mem_filter, decide_eq_true_iff]
          exact ⟨fun z => z.2, fun z => ⟨hx, z⟩⟩
        have m2 : j.n ∈ ((Cs.zero r J).at r c nd k).fin c nd' 1 ↔ getS ((Cs.zero r J).at r c nd k).s.ran j.n + 1 = nd' j.n := by
          unfold Cs.fin
          rw [List.mem_filter, decide_eq_true_iff]
          exact ⟨fun z => z.2, fun z => ⟨hx, z⟩⟩
        refine decide_eq_decide.mpr (m1.symm.trans (i1.symm.trans (Iff.trans ?_ (i2.trans m2))))
        by_cases eq : finU r c nd J T j.n = finU r c nd' J T' j.n
        · rw [eq]
        · have z := all j hj eq
          constructor
          · intro w
            omega
          · intro w
            omega
      show ((Cs.zero r J).at r c nd k).go r c 1 _ = ((Cs.zero r J).at r c nd' k).go r c 1 _
      rw [fe, ek]
  show ((Cs.zero r J).at r c nd d).s.run c = ((Cs.zero r J).at r c nd' d).s.run c
  rw [same d (Nat.le_refl _)]
end
end Vk
set_option maxHeartbeats 8000000
/-! checked_course -/
namespace Vk
open PySem PySem.Spec PyProof.Rows L2 GxR
section
variable {P : Program} {w : World} {K : PySem.W.Frag} {mg : Str → Option Value} {base : Heap} {CC CB : Addr}
theorem clM0 {x : Str} {st : Stmt} {N ps ks : List Str} {n k : Nat} {gV : List V → List V → List V} {sp : Sp} (D : DfM K mg x st ps n ks gV) (S : FnScope N ps (defScope st)) (len : ∀ vs H Q E, sp vs H Q E → vs.length = ps.length)
    (body : ∀ (f : Addr) (cdv : Value) (A : Around) (outer : List Env) (s : Shared) (H : Hp) (vs : List V) (Q : VK) (E : XK), Room k (A.deeper (envOfC x (defScope st) s.heap.objs.size f cdv)) → sp vs H Q E →
      ∃ t, PSs (cxOf CX0 P w K mg base N x (defScope st) f cdv A outer s H E).nox (defBody st) t ∧ t { nx := fun _ H' => Q .non H', rt := Q } (start N vs) H) : ClM P w K mg base CX0 (k + 1) x ps n ks gV sp :=
  clM D S len fun f cdv A outer s H vs Q E hr h => by
    obtain ⟨t, h1, h2⟩ := body f cdv A outer s H vs Q E hr h
    exact ⟨t, h1.nox, h2⟩
def spChecked (K : PySem.W.Frag) (T CC CB : Addr) : Sp := fun vs H Q _ => ∃ (jv lv rv : V) (c : Int) (r : Rl) (nd : Str → Int) (J : List Jd), vs = [jv, lv, rv, .int c] ∧ Dp K H jv (.tuple (J.map jdD)) ∧ Dp K H lv (.tuple ((J.map fun j => nd j.n).map PyData.int)) ∧ Dp K H rv (bRulD r) ∧ RunOk nd J r c ∧ TabG H T ∧
  ∀ (a : Addr) (N : CoA) (T : Nat) (ps : List Pc) (H' : Hp), Whole1 CC CB K H' a rv c N r nd J T ps → (∀ z ∈ ftC a N, H z = none) → Same H (OffL (ftC a N) H') → Q (.ref a) H'
theorem scChecked : FnScope ["jobs", "lengths", "rule", "processors"] ["jobs", "lengths", "rule", "processors"] (defScope sChecked) := ⟨rfl, rfl, rfl, by decide +kernel, rfl, by decide +kernel, by decide +kernel⟩
theorem ok_checked {T C0 C1 : Addr} (D : Df K mg "checked_course" sChecked ["jobs", "lengths", "rule", "processors"]) (B : Blt mg) (CJ : Cl P w K mg base (L2.CX P w) 5 "check_jobs" ["jobs"] (spCheck K T C0)) (CR : Cl P w K mg base (L2.CX P w) 4 "check_rule" ["rule"] (spCheckR K C1)) (CL : Cl P w K mg base CX0 2 "check_lengths" ["lengths", "many"] (spLens0 K))
    (BL : Cl P w K mg base CX0 5 "course_by_lengths" ["jobs", "lengths", "rule", "processors"] (spByLens K CC CB)) : Cl P w K mg base CX0 6 "checked_course" ["jobs", "lengths", "rule", "processors"] (spChecked K T CC CB) := by
  refine cl0 D scChecked (fun vs H Q E h => ?_) (fun f cdv A outer s H vs Q E hr h => ?_)
  · obtain ⟨jv, lv, rv, c, r, nd, J, rfl, _⟩ := h
    rfl
  · obtain ⟨jv, lv, rv, c, r, nd, J, rfl, dj, dl, dr, ro, tg, k⟩ := h
    obtain ⟨fJ, fdJ, mJ, kJ, bJ, FJ⟩ := CJ.ex
    obtain ⟨fR, fdR, mR, kR, bR, FR⟩ := CR.ex
    refine ⟨_, pss_cons (ps_expr (pe_call (E := E0) FJ hr rfl mJ kJ bJ .nil passE0c (pa_cons (pv 0) pa_nil)))
      (pss_cons (ps_expr (pe_call (E := E0) FR (hr.mono (by decide)) rfl mR kR bR .nil passE0c (pa_cons (pv 2) pa_nil)))
      (pss_cons (ps_expr (pc CL hr (by decide) (pa_cons (pv 1) (pa_cons (pe_callB call_len_seq (by rfl) B.len PySem.boot_len (pa_cons (pv 0) pa_nil)) pa_nil))))
      (pss_one (ps_ret (pc BL hr (by decide) (pa_cons (pv 0) (pa_cons (pv 1) (pa_cons (pv 2) (pa_cons (pv 3) pa_nil))))))))), ?_⟩
    have pl : jobsPlace (.tuple (J.map jdD)) = none := place_none (List.all_eq_true.mp ro.job) ro.fine.1 ro.fine.2
    have nj : niceJobs (.tuple (J.map jdD)) := ⟨fun d hd => nice_of (List.all_eq_true.mp ro.job d hd), by rw [List.length_map]; exact ro.len⟩
    obtain ⟨r1, r2⟩ := rule_ok ro.rok
    refine ⟨_, rfl, jv, _, rfl, dj, nj, tg, fun _ H1 s1 => ?_, fun i e => absurd (pl.symm.trans e) (fun z => nomatch z)⟩
    refine ⟨_, rfl, rv, _, rfl, dp_same s1 dr, r2, fun _ H2 s2 => ?_, fun i e => absurd (r1.symm.trans e) (fun z => nomatch z)⟩
    have s12 := s1.trans s2
    obtain ⟨pj, xs, rfl, qj, rj⟩ := dp_tuple dj
    have xl := dps_len rj
    rw [List.length_map] at xl
    refine ⟨_, rfl, _, rfl, pj, xs, rfl, .inr (same_seqT s12 qj), lv, J.map fun j => nd j.n, by rw [List.length_map, xl]; rfl, dp_same s12 dl, by rw [List.length_map]; exact Nat.le_trans ro.len (by decide), fun l hl => ?_, fun H3 s3 => ?_⟩
    · obtain ⟨j, hj, rfl⟩ := List.mem_map.mp hl
      exact ro.one j hj
    have s13 := s12.trans s3
    refine ⟨_, rfl, _, rfl, _, rfl, _, rfl, .ref pj, lv, rv, c, r, nd, J, rfl, dp_same s13 dj, dp_same s13 dl, dp_same s13 dr, ro.rok, ro.c1, ro.jok, ro.jn, ro.sum, fun a N T ps H' W fr S => ?_⟩
    exact k a N T ps H' W (fun z hz => s13.free (fr z hz)) (s13.trans S)
end
end Vk
set_option maxHeartbeats 8000000
/-! run, with a bound on its rows -/
namespace Vk
open PySem PySem.Spec PyProof.Rows L2 GxR
section
variable {P : Program} {w : World} {K : PySem.W.Frag} {mg : Str → Option Value} {base : Heap} {CC CB : Addr}
abbrev segN (r : Rl) (c : Int) (nd : Str → Int) (J : List Jd) (T : Nat) : List Pc := segU (fun a b => decide (a = b)) ((Cs.zero r J).names r c nd) T
def spRunS (K : PySem.W.Frag) (T : Addr) : Sp := fun vs H Q _ => ∃ (jv lv rv : V) (c : Int) (r : Rl) (nd : Str → Int) (J : List Jd), vs = [jv, lv, rv, .int c] ∧ RunAt K H T jv lv rv c r nd J ∧ ∀ (U : Nat) (t : Addr) (H' : Hp), EndAt r c nd J U → Same H H' → (segN r c nd J U).length ≤ 1000000 → Dp K H' (.ref t) (.tuple ((segN r c nd J U).map pieD)) → Q (.ref t) H'
theorem scRunF : FnScope PRW PRW (defScope sRun) := ⟨rfl, rfl, rfl, by decide +kernel, rfl, by decide +kernel, by decide +kernel⟩
theorem okE_runS {T : Addr} {R : FuncData → Prop} (D : DfE K mg "run" sRun R) (TC : CoC K CC) (CH : Cl P w K mg base CX0 6 "checked_course" PRW (spChecked K T CC CB)) (ST : MCl P w K mg base CX0 2 CC "stretches" ["self"] (spStretch K CC CB)) : ClE P w K mg base CX0 7 "run" PRW (spRunS K T) R := by
  refine clE0 D scRunF (fun vs H Q E h => ?_) (fun f cdv A outer s H vs Q E hr h => ?_)
  · obtain ⟨jv, lv, rv, c, r, nd, J, rfl, _⟩ := h
    rfl
  · obtain ⟨jv, lv, rv, c, r, nd, J, rfl, R, k⟩ := h
    obtain ⟨fS, fdS, MS, bS, FS⟩ := ST.ex
    refine ⟨_, pss_one (ps_ret (pe_meth0 (pc CH hr (by decide) (pa_cons (pv 0) (pa_cons (pv 1) (pa_cons (pv 2) (pa_cons (pv 3) pa_nil))))) TC.cl MS FS (hr.mono (by decide)) bS .nil pass0)), ?_⟩
    refine ⟨_, rfl, _, rfl, _, rfl, _, rfl, jv, lv, rv, c, r, nd, J, rfl, R.dj, R.dl, R.dr, R.ok, R.tg, fun a N U ps H1 W fr S => ?_⟩
    refine ⟨a, N.dn, _, rfl, W.at_.ob, by kernel_rfl, a, rv, c, N, _, r, ps, rfl, W.at_, W.small, W.ok, fun t H2 s2 d => ?_⟩
    have rows : (joinP ps).length ≤ 1000000 := Nat.le_trans (joinB_len _ _) W.small
    rw [W.join] at d rows
    exact k U t H2 ⟨W.don, W.first⟩ (S.trans ((offL_sub (ftC a N) H1).trans s2)) rows d
end
end Vk
set_option maxHeartbeats 8000000
/-! first_split -/
namespace Vk
open PySem PySem.Spec PyProof.Rows L2 GxR
section
variable {P : Program} {w : World} {K : PySem.W.Frag} {mg : Str → Option Value} {base : Heap} {CC CB : Addr}
theorem RowsN.mem {N : Nat → List Str} : ∀ {R : List Pc} {s e : Nat}, RowsN N s R e → ∀ p ∈ R, ∃ k, N k = p.2.2
  | [], _, _, _, _, h => nomatch h
  | a :: r, s, e, ⟨m, g1, g2, g3, g4, g5, g6⟩, p, h => by
    rcases List.mem_cons.mp h with w | h
    · rw [w]
      exact ⟨s, g4 s (Nat.le_refl _) g3⟩
    · exact RowsN.mem g6 p h
theorem scLensInit : FnScope ["self", "place"] ["self", "place"] (defScope sLensInit) := ⟨rfl, rfl, rfl, by decide +kernel, rfl, by decide +kernel, by decide +kernel⟩
theorem ok_lensInit {C fI : Addr} {fd : FuncData} (F : Fun K "__init__" "NoLengths.__init__" sLensInit fI fd) (T : OexC K C) (no : PySem.W.findIn K (.ref C) "place" = some none) : FnOk P w K mg base CX0 1 fI fd ["self", "place"] (spIni C "place") := by
  refine F.ok scLensInit (fun vs H Q E h => ?_) (fun cdv A outer s H vs Q E hr h => ?_)
  · obtain ⟨a, v, rfl, _⟩ := h
    rfl
  · obtain ⟨a, v, rfl, ha, k⟩ := h
    refine ⟨_, pss_one (ps_ost (pv 0) (pv 1)), ?_⟩
    exact ⟨_, rfl, _, rfl, a, C, rfl, T, no, .inl ⟨ha, fun dx n1 n2 => k dx n1 n2⟩⟩
theorem erc_lens {C : Addr} (g : mg "NoLengths" = some (.ref C)) (T : OexC K C) (no : PySem.W.findIn K (.ref C) "place" = some none) (N : Nit K "NoLengths" "NoLengths.__init__" "place" sLensInit C) : ErC P w K mg base "NoLengths" "place" C := by
  obtain ⟨fI, fd, h1, h2, h3, h4⟩ := N.ex
  exact ⟨g, T, fI, fd, h1, h2, h4, ok_lensInit h3 T no⟩
def spLensX (K : PySem.W.Frag) (C : Addr) : Sp := fun vs H Q E => ∃ (v : V) (ls : List Int) (m : Nat), vs = [v, .int (m : Nat)] ∧ Dp K H v (.tuple (ls.map PyData.int)) ∧ m ≤ 1000 ∧ ls.length ≤ m ∧ (∀ l ∈ ls, 1 ≤ l) ∧ (ls.length = m → ∀ H', Same H H' → Q .non H') ∧
  (ls.length < m → ∀ (dx : Addr) (H' : Hp), Same H H' → H' dx = some (.xd [(("place" : Str), .int (ls.length : Nat))]) → E (.ref C) (some dx) H')
theorem ok_lensX {C : Addr} (D : Df K mg "check_lengths" sCheckLens ["lengths", "many"]) (B : Blt mg) (ER : ErC P w K mg base "NoLengths" "place" C) (IN : Cl P w K mg base CX0 1 "is_integer" ["value", "least"] (spInteger K)) : Cl P w K mg base (L2.CX P w) 3 "check_lengths" ["lengths", "many"] (spLensX K C) := by
  refine clX D scLens0 (fun vs H Q E h => ?_) (fun f cdv A outer s H vs Q E hr h => ?_)
  · obtain ⟨v, ls, m, rfl, _⟩ := h
    rfl
  · obtain ⟨v, ls, m, rfl, dv, m1000, lm, one, k, ke⟩ := h
    refine ⟨_, pss_cons (ps_if (pt_not (pt_val (pe_callB call_isi (by rfl) B.isi (by decide +kernel) (pa_cons (pv 0) (pa_cons (pe_bltn (v := .ty "tuple") (u := .type "tuple") (by rfl) B.tuple (by decide +kernel) rfl) pa_nil))))) (pss_one ps_never) pss_nil)
      (pss_cons (ps_for (passes_of rfl) rfl (pi_enumT B.enum (pa_cons (pv 0) pa_nil)) (pg_tup rfl (pgs_cons (pg_name (i := 2) scLens0.nd rfl (.inl rfl)) (pgs_cons (pg_name (i := 3) scLens0.nd rfl (.inl rfl)) pgs_nil)))
        (pss_one (ps_if (PW.pt (pw_or (pt_cmpR op_ge (pv 2) (pv 1) (nomark _)) (pw_or1 (pt_not (pt_val (pc IN hr (by decide) (pa_cons (pv 3) (pa_cons pe_int pa_nil)))))))) (pss_one ps_never) pss_nil)))
      (pss_one (ps_if (pt_cmpR op_lt (pe_callB call_len_seq (by rfl) B.len PySem.boot_len (pa_cons (pv 0) pa_nil)) (pv 1) (nomark _)) (pss_one (ps_raiseE ER rfl hr (by decide) (takes_of rfl rfl rfl rfl) (pe_callB call_len_seq (by rfl) B.len PySem.boot_len (pa_cons (pv 0) pa_nil)))) pss_nil))), ?_⟩
    obtain ⟨pj, xs, rfl, qj, rj⟩ := dp_tuple dv
    have xl := dps_len rj
    rw [List.length_map] at xl
    refine ⟨_, rfl, .ref pj, _, _, _, _, rfl, .ty "tuple", dp_ty dv, kit_tup dv, _, rfl, ?_⟩
    refine iteF ?_
    refine ⟨_, rfl, pj, xs, rfl, qj, for_it (D := { nx := _, rt := _ }) (walk_enumT (K := K) (a := pj) (xs := xs)) (fun i σ H' => ∃ (u2 u3 : Option V), σ = [some (.ref pj), some (.int (m : Nat)), u2, u3] ∧ Same H H')
      ⟨none, none, rfl, Same.refl _⟩ (fun i σ H' _ ⟨_, _, _, s1⟩ => same_seqT s1 qj) ?_ ?_⟩
    · rintro i v1 σ H1 H2 hi ⟨u2, u3, rfl, s1⟩ ⟨TT, x1, y1, rfl, nT, rfl, ex, ey⟩
      cases ex
      obtain ⟨d1, hd1, dp1⟩ := dps_getV rj ey
      rw [List.getElem?_map] at hd1
      obtain ⟨n, hn, rfl⟩ := Option.map_eq_some_iff.mp hd1
      have s2 := s1.trans (same_new (o := .tup [V.int (i : Nat), y1]) nT)
      refine ⟨TT, _, rfl, SqT.of upd_same, rfl, _, _, rfl, _, _, rfl, rfl, ?_⟩
      have n1 := one n (List.mem_of_getElem? hn)
      have en := dp_int dp1
      subst en
      refine ⟨_, rfl, _, rfl, _, _, rfl, rfl, _, rfl, ?_⟩
      rw [decide_eq_false (by have := hi; omega)]
      refine iteF ?_
      refine ⟨_, rfl, .int n, .int n, 1, rfl, .int n, _, rfl, ?_⟩
      rw [show integerD 1 (.int n) = true from decide_eq_true n1]
      refine iteF ?_
      exact ⟨_, _, rfl, s2⟩
    · rintro σ H1 ⟨u2, u3, rfl, s1⟩
      refine ⟨_, rfl, pj, xs, rfl, .inr (same_seqT s1 qj), _, rfl, _, _, rfl, rfl, _, rfl, ?_⟩
      by_cases lt : ls.length < m
      · rw [decide_eq_true (by rw [xl]; omega)]
        refine iteT ⟨_, rfl, pj, xs, rfl, .inr (same_seqT s1 qj), ?_⟩
        exact raise_go fun dx H5 s5 _ hh => ke lt dx H5 (s1.trans s5) (by rw [← xl]; exact hh)
      · rw [decide_eq_false (by rw [xl]; omega)]
        exact iteF (k (by omega) _ s1)
abbrev PSP : List Str := ["jobs", "lengths", "others", "rule", "processors"]
abbrev NSP : List Str := ["jobs", "lengths", "others", "rule", "processors", "ours", "theirs"]
def spSplit (K : PySem.W.Frag) (T0 Cl : Addr) : Sp := fun vs H Q E => ∃ (jv lv ov rv : V) (c : Int) (r : Rl) (nd : Str → Int) (J : List Jd), vs = [jv, lv, ov, rv, .int c] ∧ RunAt K H T0 jv lv rv c r nd J ∧
  ((∃ nd' : Str → Int, RunOk nd' J r c ∧ Dp K H ov (.tuple ((J.map fun j => nd' j.n).map PyData.int)) ∧ ∀ (T T' : Nat) (H' : Hp), EndAt r c nd J T → EndAt r c nd' J T' → Same H H' → Q (optI (fdM (segN r c nd J T) (segN r c nd' J T'))) H') ∨
   (∃ os : List Int, Dp K H ov (.tuple (os.map PyData.int)) ∧ (∀ o ∈ os, 1 ≤ o) ∧ os.length < J.length ∧ ∀ (dx : Addr) (H' : Hp), Same H H' → H' dx = some (.xd [(("place" : Str), .int (os.length : Nat))]) → E (.ref Cl) (some dx) H'))
theorem scSplit : FnScope NSP PSP (defScope sSplit) := ⟨rfl, rfl, rfl, by decide +kernel, rfl, by decide +kernel, by decide +kernel⟩
theorem clEX {CX : CXT} {x : Str} {st : Stmt} {N ps : List Str} {k : Nat} {sp : Sp} {R : FuncData → Prop} (D : DfE K mg x st R) (S : FnScope N ps (defScope st)) (len : ∀ vs H Q E, sp vs H Q E → vs.length = ps.length)
    (body : ∀ (f : Addr) (cdv : Value) (A : Around) (outer : List Env) (s : Shared) (H : Hp) (vs : List V) (Q : VK) (E : XK), Room k (A.deeper (envOfC x (defScope st) s.heap.objs.size f cdv)) → sp vs H Q E →
      ∃ t, PSs (cxOf CX P w K mg base N x (defScope st) f cdv A outer s H E) (defBody st) t ∧ t { nx := fun _ H' => Q .non H', rt := Q } (start N vs) H) : ClE P w K mg base CX (k + 1) x ps sp R := by
  obtain ⟨f, fd, kws, hm, F, r⟩ := D.ex
  exact ⟨f, fd, hm, F.kp, r, F.ok S len fun cdv A outer s H vs Q E hr h => body f cdv A outer s H vs Q E hr h⟩
theorem okE_split {T0 C : Addr} {R : FuncData → Prop} (D : DfE K mg "first_split" sSplit R) (B : Blt mg) (TC : CoC K CC) (CH : Cl P w K mg base CX0 6 "checked_course" PRW (spChecked K T0 CC CB)) (CL : Cl P w K mg base (L2.CX P w) 3 "check_lengths" ["lengths", "many"] (spLensX K C))
    (BL : Cl P w K mg base CX0 5 "course_by_lengths" PRW (spByLens K CC CB)) (ST : MCl P w K mg base CX0 2 CC "stretches" ["self"] (spStretch K CC CB)) (FD : Cl P w K mg base CX0 1 "first_difference" ["ours", "theirs"] (spFirstD K)) : ClE P w K mg base (L2.CX P w) 7 "first_split" PSP (spSplit K T0 C) R := by
  refine clEX D scSplit (fun vs H Q E h => ?_) (fun f cdv A outer s H vs Q E hr h => ?_)
  · obtain ⟨jv, lv, ov, rv, c, r, nd, J, rfl, _⟩ := h
    rfl
  · obtain ⟨jv, lv, ov, rv, c, r, nd, J, rfl, R, two⟩ := h
    obtain ⟨fS, fdS, MS, bS, FS⟩ := ST.ex
    obtain ⟨fL, fdL, mL, kL, bL, FL⟩ := CL.ex
    refine ⟨_, pss_cons (ps_set (i := 5) scSplit.nd rfl (Or.inl rfl) (pc CH hr (by decide) (pa_cons (pv 0) (pa_cons (pv 1) (pa_cons (pv 3) (pa_cons (pv 4) pa_nil))))))
      (pss_cons (ps_expr (pe_call (E := E) FL (hr.mono (by decide)) rfl mL kL bL .nil (passes_call (W := fun cls d _ H => E cls d H) (takes_of rfl rfl rfl rfl) (fun _ _ _ _ h => h)) (pa_cons (pv 2) (pa_cons (pe_callB call_len_seq (by rfl) B.len PySem.boot_len (pa_cons (pv 0) pa_nil)) pa_nil))))
      (pss_cons (ps_set (i := 6) scSplit.nd rfl (Or.inl rfl) (pc BL hr (by decide) (pa_cons (pv 0) (pa_cons (pv 2) (pa_cons (pv 3) (pa_cons (pv 4) pa_nil))))))
      (pss_one (ps_ret (pc FD hr (by decide) (pa_cons (pe_meth0 (pv 5) TC.cl MS FS (hr.mono (by decide)) bS .nil pass0) (pa_cons (pe_meth0 (pv 6) TC.cl MS FS (hr.mono (by decide)) bS .nil pass0) pa_nil))))))), ?_⟩
    obtain ⟨pj, ys, rfl, qj, rj⟩ := dp_tuple R.dj
    have yl := dps_len rj
    rw [List.length_map] at yl
    have j900 := R.ok.len
    refine ⟨_, rfl, _, rfl, _, rfl, _, rfl, .ref pj, lv, rv, c, r, nd, J, rfl, R.dj, R.dl, R.dr, R.ok, R.tg, fun a N U ps H1 W fr S => ?_⟩
    have S1 := S.trans (offL_sub (ftC a N) H1)
    have endU : EndAt r c nd J U := ⟨W.don, W.first⟩
    refine ⟨_, rfl, _, rfl, pj, ys, rfl, .inr (same_seqT S1 qj), ?_⟩
    rcases two with ⟨nd', ro', dov, k⟩ | ⟨os, dov, one, lt, ke⟩
    case inr =>
      exact ⟨ov, os, ys.length, rfl, dp_same S1 dov, by omega, by omega, one, fun h => absurd h (by omega), fun _ dx H' s' hh => ke dx H' (S1.trans s') hh⟩
    refine ⟨ov, J.map fun j => nd' j.n, ys.length, rfl, dp_same S1 dov, by omega, by rw [List.length_map]; omega, fun l hl => ?_, fun _ H2 s2 => ?_, fun h => absurd h (by rw [List.length_map]; omega)⟩
    · obtain ⟨j, hj, rfl⟩ := List.mem_map.mp hl
      exact ro'.one j hj
    have S2 := S1.trans s2
    refine ⟨_, rfl, _, rfl, _, rfl, _, rfl, .ref pj, ov, rv, c, r, nd', J, rfl, dp_same S2 R.dj, dp_same S2 dov, dp_same S2 R.dr, ro'.rok, ro'.c1, ro'.jok, ro'.jn, ro'.sum, fun a' N' U' ps' H3 W' fr' S' => ?_⟩
    have S3' := S'.trans (offL_sub (ftC a' N') H3)
    have wa := (W.at_.same s2).same S3'
    refine ⟨_, rfl, a, N.dn, _, rfl, wa.ob, by kernel_rfl, a, rv, c, N, _, r, ps, rfl, wa, W.small, W.ok, fun t1 H4 s4 d4 => ?_⟩
    have wb := W'.at_.same s4
    refine ⟨_, rfl, a', N'.dn, _, rfl, wb.ob, by kernel_rfl, a', rv, c, N', _, r, ps', rfl, wb, W'.small, W'.ok, fun t2 H5 s5 d5 => ?_⟩
    have r1 := Nat.le_trans (joinB_len (fun a b => decide (a = b)) ps) W.small
    have r2 := Nat.le_trans (joinB_len (fun a b => decide (a = b)) ps') W'.small
    have okS : ∀ {nd : Str → Int} (ro : RunOk nd J r c) (T : Nat), ∀ p ∈ segN r c nd J T, ∀ x ∈ p.2.2, PyData.strOk x = true := fun {nd} ro T => by
      intro p hp x hx
      obtain ⟨k, hk⟩ := RowsN.mem (rows_segU ((Cs.zero r J).names r c nd) T) p hp
      rw [← hk] at hx
      have ok := ro.at_ok k
      obtain ⟨j, hj, rfl⟩ := List.mem_map.mp (ok.keys x (ok.bd.sub x (Bd.run_sub x hx)))
      exact ro.jn.ok hj
    refine ⟨.ref t1, .ref t2, joinP ps, joinP ps', rfl, dp_same s5 d4, d5, r1, r2, ?_, ?_, fun H6 s6 => ?_⟩
    · rw [W.join]
      exact okS R.ok U
    · rw [W'.join]
      exact okS ro' U'
    · rw [W.join, W'.join]
      exact k U U' H6 endU ⟨W'.don, W'.first⟩ (S2.trans (S3'.trans (s4.trans (s5.trans s6))))
end
end Vk
set_option maxHeartbeats 8000000
/-! _law_names_in, _law_first -/
namespace Vk
open PySem PySem.Spec PyProof.Rows L2 GxR
abbrev NNI : List Str := ["rows", "unit", "first", "last", "names"]
theorem namesIn_cons {p : Pc} {R : List Pc} {u : Int} : namesIn (p :: R) u = if p.1 ≤ u ∧ u ≤ p.2.1 then p.2.2 else namesIn R u := by
  unfold namesIn
  rw [List.find?_cons]
  by_cases h1 : p.1 ≤ u
  · by_cases h2 : u ≤ p.2.1
    · rw [if_pos ⟨h1, h2⟩, decide_eq_true h1, decide_eq_true h2]
      rfl
    · rw [if_neg (fun h => h2 h.2), decide_eq_false h2, Bool.and_false]
  · rw [if_neg (fun h => h1 h.1), decide_eq_false h1, Bool.false_and]
theorem namesIn_ok2 {R : List Pc} (ok : ∀ p ∈ R, ∀ x ∈ p.2.2, PyData.strOk x = true) (u : Int) : ∀ x ∈ namesIn R u, PyData.strOk x = true := by
  unfold namesIn
  cases h : R.find? (fun p => decide (p.1 ≤ u) && decide (u ≤ p.2.1)) with
  | none => exact fun x hx => nomatch hx
  | some p => exact ok p (List.mem_of_find?_eq_some h)
section
variable {P : Program} {w : World} {K : PySem.W.Frag} {mg : Str → Option Value} {base : Heap}
def spNamesIn (K : PySem.W.Frag) : Sp := fun vs H Q _ => ∃ (rv : V) (u : Int) (R : List Pc), vs = [rv, .int u] ∧ Dp K H rv (.tuple (R.map pieD)) ∧ ∀ (v : V) (H' : Hp), Same H H' → Dp K H' v (.tuple ((namesIn R u).map PyData.str)) → Q v H'
theorem scNamesIn : FnScope NNI ["rows", "unit"] (defScope sNamesIn) := ⟨rfl, rfl, rfl, by decide +kernel, rfl, by decide +kernel, by decide +kernel⟩
theorem ok_namesIn (D : Df K mg "_law_names_in" sNamesIn ["rows", "unit"]) : Cl P w K mg base CX0 1 "_law_names_in" ["rows", "unit"] (spNamesIn K) := by
  refine cl0 D scNamesIn (fun vs H Q E h => ?_) (fun f cdv A outer s H vs Q E hr h => ?_)
  · obtain ⟨rv, u, R, rfl, _⟩ := h
    rfl
  · obtain ⟨rv, u, R, rfl, d, k⟩ := h
    refine ⟨_, pss_cons (ps_for PassesOwn.never rfl (pi_tup (pv 0)) (pg_tup rfl (pgs_cons (pg_name (i := 2) scNamesIn.nd rfl (.inl rfl)) (pgs_cons (pg_name (i := 3) scNamesIn.nd rfl (.inl rfl)) (pgs_cons (pg_name (i := 4) scNamesIn.nd rfl (.inl rfl)) pgs_nil))))
        (pss_one (ps_if (pt_chain op_le op_le (pv 2) (pv 1) (pv 3)) (pss_one (ps_ret (pv 4))) pss_nil)))
      (pss_one (ps_ret (pe_tup pa_nil))), ?_⟩
    obtain ⟨pr, ys, rfl, qr, rr⟩ := dp_tuple d
    have yl := dps_len rr
    rw [List.length_map] at yl
    refine ⟨_, rfl, pr, rfl, ⟨_, qr⟩, ?_⟩
    refine for_it (D := { nx := _, rt := _ }) (walk_tup (K := K) (a := pr) (xs := ys)) (fun i σ G => ∃ (u2 u3 u4 : Option V), σ = [some (.ref pr), some (.int u), u2, u3, u4] ∧ Same H G ∧ namesIn (R.drop i) u = namesIn R u)
      ⟨none, none, none, rfl, Same.refl _, rfl⟩ (fun i σ G _ ⟨_, _, _, _, sc, _⟩ => same_seqT sc qr) ?_ ?_
    · rintro i y σ G0 G hi ⟨u2, u3, u4, rfl, sc, ef⟩ ⟨rfl, hy⟩
      obtain ⟨dd, hd, dp⟩ := dps_getV rr hy
      rw [List.getElem?_map] at hd
      obtain ⟨p, hp, rfl⟩ := Option.map_eq_some_iff.mp hd
      obtain ⟨hi1, hp⟩ := List.getElem?_eq_some_iff.mp hp
      rw [List.drop_eq_getElem_cons hi1, hp, namesIn_cons] at ef
      obtain ⟨a, x1, x2, x3, rfl, q, e1, e2, e3⟩ := dp_threeB (dp_same sc dp)
      have e1 := dp_int e1
      subst e1
      have e2 := dp_int e2
      subst e2
      refine ⟨a, _, rfl, q, rfl, _, _, rfl, _, _, rfl, _, _, rfl, rfl, ?_⟩
      refine ⟨_, rfl, _, rfl, _, _, rfl, rfl, _, rfl, ?_⟩
      by_cases h1 : p.1 ≤ u
      · rw [decide_eq_true h1]
        refine iteT ⟨_, rfl, _, _, rfl, rfl, _, rfl, ?_⟩
        by_cases h2 : u ≤ p.2.1
        · rw [decide_eq_true h2]
          rw [if_pos ⟨h1, h2⟩] at ef
          refine iteT ⟨_, rfl, ?_⟩
          exact k _ _ sc (by rw [← ef]; exact e3)
        · rw [decide_eq_false h2]
          rw [if_neg (fun h => h2 h.2)] at ef
          exact iteF ⟨_, _, _, rfl, sc, ef⟩
      · rw [decide_eq_false h1]
        rw [if_neg (fun h => h1 h.1)] at ef
        exact iteF ⟨_, rfl, iteF ⟨_, _, _, rfl, sc, ef⟩⟩
    · rintro σ G ⟨u2, u3, u4, rfl, sc, ef⟩
      refine ⟨Nat.zero_le _, fun t nt => ?_⟩
      rw [show R.drop ys.length = [] by rw [yl]; exact List.drop_length] at ef
      refine k _ _ (sc.trans (same_new nt)) ?_
      rw [← ef]
      exact .tup (SqT.of upd_same) .nil
abbrev NFL : List Str := ["one", "two", "ends", "unit", "row"]
def spFirstL (K : PySem.W.Frag) : Sp := fun vs H Q _ => ∃ (u v : V) (R1 R2 : List Pc) (o : Option Int), vs = [u, v] ∧ Dp K H u (.tuple (R1.map pieD)) ∧ Dp K H v (.tuple (R2.map pieD)) ∧ R1.length ≤ 1000000 ∧ R2.length ≤ 1000000 ∧ (∀ p ∈ R1, ∀ x ∈ p.2.2, PyData.strOk x = true) ∧ (∀ p ∈ R2, ∀ x ∈ p.2.2, PyData.strOk x = true) ∧ (∀ p, (p ∈ R1 ∨ p ∈ R2) → 0 ≤ p.2.1) ∧
  (∀ l : List Int, l.Pairwise (· ≤ ·) → (∀ y, y ∈ l ↔ y = 1 ∨ ∃ p, (p ∈ R1 ∨ p ∈ R2) ∧ y = p.2.1 + 1) → (∀ y ∈ l, 1 ≤ y) → l.find? (fun u => decide (namesIn R1 u ≠ namesIn R2 u)) = o) ∧ ∀ H', Same H H' → Q (optI o) H'
theorem scFirstL : FnScope NFL ["one", "two"] (defScope sFirstL) := ⟨rfl, rfl, rfl, by decide +kernel, rfl, by decide +kernel, by decide +kernel⟩
theorem ok_firstL (D : Df K mg "_law_first" sFirstL ["one", "two"]) (sd : mg "sorted" = none) (NI : Cl P w K mg base CX0 1 "_law_names_in" ["rows", "unit"] (spNamesIn K)) : Cl P w K mg base CX0 2 "_law_first" ["one", "two"] (spFirstL K) := by
  refine cl0 D scFirstL (fun vs H Q E h => ?_) (fun f cdv A outer s H vs Q E hr h => ?_)
  · obtain ⟨u, v, R1, R2, o, rfl, _⟩ := h
    rfl
  · obtain ⟨u, v, R1, R2, o, rfl, d1, d2, l1, l2, ok1, ok2, pos, fo, k⟩ := h
    refine ⟨_, pss_cons (ps_set (i := 2) scFirstL.nd rfl (Or.inl rfl) (pe_op op_cat (pe_lst (pa_cons pe_int pa_nil)) (pe_lc (own := [("row", 4)]) (g := gName 4) (tt := tYes) (te := tOp (rI0 fun i j => .int (i + j)) (tOp (rIxT K) (tVar 4) (tC (.int 1))) (tC (.int 1))) (by rfl) scFirstL.nd (pi_tup (pe_op op_catA (pv 0) (pv 1)))
          (blkOk_by (own := [("row", 4)]) (N := NFL) (sc := defScope sFirstL) (by decide +kernel)) (fun _ _ _ _ _ => pg_name (i := 4) scFirstL.nd rfl (.inl rfl)) (fun _ _ _ _ _ => pts_nil) (fun _ _ _ _ _ => pe_op op_add (pe_ix ix_tup (pv 4) pe_int (fun _ _ => rfl)) pe_int))))
      (pss_cons (ps_for PassesOwn.never rfl (pi_list (pe_callB cr_sortedI (by rfl) sd (by decide +kernel) (pa_cons (pv 2) pa_nil))) (pg_name (i := 3) scFirstL.nd rfl (Or.inl rfl))
        (pss_one (ps_if (pt_cmpR (op_neD hr.units) (pc NI hr (by decide) (pa_cons (pv 0) (pa_cons (pv 3) pa_nil))) (pc NI hr (by decide) (pa_cons (pv 1) (pa_cons (pv 3) pa_nil))) (nomark _)) (pss_one (ps_ret (pv 3))) pss_nil)))
      (pss_one (ps_ret pe_non))), ?_⟩
    obtain ⟨p1, y1, rfl, q1, r1⟩ := dp_tuple d1
    obtain ⟨p2, y2, rfl, q2, r2⟩ := dp_tuple d2
    have yl1 := dps_len r1
    have yl2 := dps_len r2
    rw [List.length_map] at yl1 yl2
    refine ⟨by show 1 ≤ sizeLine; decide, fun a na => ?_⟩
    have sa := same_new (o := .lst [V.int 1]) na
    have ha : upd H a (.lst [V.int 1]) a = some (.lst [V.int 1]) := upd_same
    refine ⟨_, rfl, _, rfl, ?_⟩
    refine catA_go (same_seqT sa q1) (same_seqT sa q2) (Nat.le_trans (show _ ≤ 2000000 by omega) (by decide)) fun b G0 s0 q0 => ?_
    have sa0 := sa.trans s0
    have ha0 := s0.at ha
    have dd : DpAll K G0 (y1 ++ y2) ((R1 ++ R2).map pieD) := by
      rw [List.map_append]
      exact dps_app (dps_same sa0 r1) (dps_same sa0 r2)
    have memL : ∀ p, p ∈ R1 ++ R2 ↔ p ∈ R1 ∨ p ∈ R2 := fun p => List.mem_append
    have lenL : (R1 ++ R2).length ≤ 2000000 := by rw [List.length_append]; omega
    generalize y1 ++ y2 = xs at q0 dd
    generalize R1 ++ R2 = L at dd memL lenL
    have xl := dps_len dd
    rw [List.length_map] at xl
    refine ⟨b, rfl, ⟨_, q0⟩, fun D nD => ?_⟩
    refine lc_it (walk_tup (K := K) (a := b) (xs := xs)) (fun i Hc => Hc = upd G0 D (.lst (((L.take i).map fun p => p.2.1 + 1).map V.int))) rfl (fun i Hc _ e => by rw [e]; exact same_seqT (same_new nD) q0) ?_ ?_
    · rintro i y Hc0 Hc hi rfl ⟨rfl, hy⟩
      obtain ⟨d, hd, dp⟩ := dps_getV dd hy
      rw [List.getElem?_map] at hd
      obtain ⟨p, hp, rfl⟩ := Option.map_eq_some_iff.mp hd
      have sN := same_new (o := .lst (((L.take i).map fun p => p.2.1 + 1).map V.int)) nD
      obtain ⟨c, x1, x2, x3, rfl, q, e1, e2, e3⟩ := dp_threeB (dp_same sN dp)
      have e2 := dp_int e2
      subst e2
      refine ⟨rfl, _, rfl, c, _, _, _, rfl, rfl, q, rfl, _, _, rfl, rfl, _, upd_same, ?_, ?_⟩
      · rw [List.length_map, List.length_map, List.length_take]
        exact Nat.lt_of_le_of_lt (show _ ≤ 2000000 by omega) (by decide)
      · rw [upd_upd, List.take_add_one, hp, List.map_append, List.map_append]
        rfl
    rintro Hc rfl
    rw [xl, List.take_length]
    have sD := same_new (o := .lst ((L.map fun p => p.2.1 + 1).map V.int)) nD
    have hD : upd G0 D (.lst ((L.map fun p => p.2.1 + 1).map V.int)) D = some (.lst ((L.map fun p => p.2.1 + 1).map V.int)) := upd_same
    have haD := sD.at ha0
    have sAll := sa0.trans sD
    generalize upd G0 D (.lst ((L.map fun p => p.2.1 + 1).map V.int)) = G1 at sD hD haD sAll ⊢
    refine ⟨a, D, _, _, rfl, rfl, haD, hD, by rw [List.length_map, List.length_map]; exact Nat.le_trans (show _ ≤ 2000001 by show 1 + _ ≤ _; omega) (by decide), fun e ne => ?_⟩
    have sE := same_new (o := .lst ([V.int 1] ++ (L.map fun p => p.2.1 + 1).map V.int)) ne
    have hE : upd G1 e (.lst ([V.int 1] ++ (L.map fun p => p.2.1 + 1).map V.int)) e = some (.lst ((1 :: L.map fun p => p.2.1 + 1).map V.int)) := upd_same
    have sAll := sAll.trans sE
    generalize upd G1 e (.lst ([V.int 1] ++ (L.map fun p => p.2.1 + 1).map V.int)) = G2 at hE sAll ⊢
    refine ⟨_, rfl, e, _, rfl, SqL.of hE, fun l t pm pw nt => ?_⟩
    have sT := same_new (o := .lst (l.map V.int)) nt
    have hT : upd G2 t (.lst (l.map V.int)) t = some (.lst (l.map V.int)) := upd_same
    have sAll := sAll.trans sT
    generalize upd G2 t (.lst (l.map V.int)) = G3 at hT sAll ⊢
    have mem : ∀ y, y ∈ l ↔ y = 1 ∨ ∃ p, (p ∈ R1 ∨ p ∈ R2) ∧ y = p.2.1 + 1 := fun y => by
      rw [pm.mem_iff, List.mem_cons]
      refine or_congr Iff.rfl ?_
      rw [List.mem_map]
      exact ⟨fun ⟨p, h1, h2⟩ => ⟨p, (memL p).mp h1, h2.symm⟩, fun ⟨p, h1, h2⟩ => ⟨p, (memL p).mpr h1, h2.symm⟩⟩
    have fo := fo l pw mem fun y hy => by
      rcases (mem y).mp hy with h | ⟨p, h1, h2⟩
      · omega
      · have := pos p h1
        omega
    refine ⟨t, rfl, ⟨_, SqL.of hT⟩, ?_⟩
    refine for_it (D := { nx := _, rt := _ }) (walk_list (K := K) (a := t) (xs := l.map V.int)) (fun i σ G => ∃ (u3 : Option V), σ = [some (.ref p1), some (.ref p2), some (.ref e), u3, none] ∧ Same G3 G ∧ (l.drop i).find? (fun u => decide (namesIn R1 u ≠ namesIn R2 u)) = o)
      ⟨none, rfl, Same.refl _, fo⟩ (fun i σ G _ ⟨_, _, sc, _⟩ => SqL.of (sc.at hT)) ?_ ?_
    · rintro i y σ G0' G hi ⟨u3, rfl, sc, ef⟩ ⟨rfl, hy⟩
      rw [List.getElem?_map] at hy
      obtain ⟨n, hn, rfl⟩ := Option.map_eq_some_iff.mp hy
      obtain ⟨hi1, hn⟩ := List.getElem?_eq_some_iff.mp hn
      rw [List.drop_eq_getElem_cons hi1, hn, List.find?_cons] at ef
      have sG := sAll.trans sc
      refine ⟨_, rfl, _, rfl, .ref p1, n, R1, rfl, dp_same sG (.tup q1 r1), fun v1 G4 s4 dv1 => ?_⟩
      refine ⟨_, rfl, _, rfl, .ref p2, n, R2, rfl, dp_same (sG.trans s4) (.tup q2 r2), fun v2 G5 s5 dv2 => ?_⟩
      refine ⟨_, _, dp_same s5 dv1, dv2, sh_names (namesIn_ok2 ok1 n), sh_names (namesIn_ok2 ok2 n), ?_⟩
      refine ⟨_, rfl, ?_⟩
      rw [eqv_names (namesIn_ok2 ok1 n)]
      have s45 := s4.trans s5
      by_cases hne : namesIn R1 n = namesIn R2 n
      · rw [decide_eq_true hne]
        rw [decide_eq_false (fun h => h hne)] at ef
        exact iteF ⟨_, rfl, sc.trans s45, ef⟩
      · rw [decide_eq_false hne]
        rw [decide_eq_true hne] at ef
        refine iteT ⟨_, rfl, ?_⟩
        have z := k _ (sG.trans s45)
        rw [← ef] at z
        exact z
    · rintro σ G ⟨u3, rfl, sc, ef⟩
      rw [List.length_map, List.drop_length] at ef
      have z := k _ (sAll.trans sc)
      rw [← ef] at z
      exact z
end
end Vk
set_option maxHeartbeats 4000000
/-! xs.count(y) of flat items -/
namespace Vk
open PySem PySem.Spec PyProof.Rows L2
theorem cnt_flat {y : V} : ∀ {ys : List V} {us : List Value}, Vals ys us → ys.all flatV = true → us.countP (eqU y) = ys.countP (fun z => eqV z y)
  | _, _, .nil, _ => rfl
  | _, _, .cons r t, f => by
    have f2 := Bool.and_eq_true_iff.mp f
    rw [List.countP_cons, List.countP_cons, cnt_flat t f2.2, eqU_of r f2.1]
def rCntV (K : PySem.W.Frag) : V → List V → Hp → VK → Prop := fun x xs H Q => ∃ (p : Addr) (ys : List V) (y : V), x = .ref p ∧ xs = [y] ∧ SqL K H p ys ∧ flatV y = true ∧ ys.all flatV = true ∧ Q (.int (ys.countP (fun z => eqV z y) : Nat)) H
theorem mt_countV {X : Cx} : MtR X "list.count" (rCntV X.K) := by
  intro pins s σ H x xs v us Q I rx rxs h
  obtain ⟨p, ys, y, rfl, rfl, hs, fy, fys, q⟩ := h
  cases rx
  obtain ⟨u, rfl, ru⟩ := rxs.one
  obtain ⟨its, rv, ⟨⟨cls, dd, data, sl⟩, n, ho, hc, hdn, hd⟩, hlen⟩ := I.list hs
  simp only at hc hd
  subst hc hd
  refine call_meets PySem.F.slot_list_count ⟨_, ho, rfl⟩ PySem.F.entry_list_count (PySem.F.args_list_count_2 _ _)
    (SeqAt.list_countAt p its.toArray n dd sl u (eqU y)) ⟨ho, fun z hz => mem_eqAt ru fy rv fys z (by simpa using hz), ?_⟩
  refine ⟨.int (ys.countP (fun z => eqV z y) : Nat), H, I.tok _, ⟨s.toks, ?_⟩, q⟩
  show Value.int ((its.toArray.toList.countP (eqU y) : Nat) : Int) s.toks = _
  rw [show its.toArray.toList = its from rfl, cnt_flat rv fys]
end Vk
set_option maxHeartbeats 4000000
namespace Vk
open PySem PySem.Spec PyProof.Rows L2
/-- the truth of the twelve questions, for the class with number i -/
def bits (i : Nat) : List V := (List.range 12).map fun j => V.bl (decide (j = i))
def words7 : List Str := ["jobs", "rule", "lengths", "log", "marks", "named", "order"]
theorem bits_len (i : Nat) : (bits i).length = 12 := by simp [bits]
theorem bits_get {i m : Nat} (h : m < 12) : (bits i)[m]? = some (V.bl (decide (m = i))) := by
  unfold bits
  rw [List.getElem?_map, List.getElem?_range h]
  rfl
theorem bits_flat (i : Nat) : (bits i).all flatV = true := by
  unfold bits
  rw [List.all_eq_true]
  intro x hx
  obtain ⟨j, _, rfl⟩ := List.mem_map.mp hx
  rfl
theorem bits_cnt : ∀ i : Fin 12, (bits i.1).countP (fun z => eqV z (.bl true)) = 1 := by decide +kernel
structure Kn (K : PySem.W.Frag) (mg : Str → Option Value) (C : Addr) (i : Nat) : Prop where
  ex : ExcC K C
  xf : XfC K C
  noP : PySem.W.findIn K (.ref C) "place" = some none
  ve : mg "ValueError" = none
  kv : PySem.W.kitOne K (.ref C) (.type "ValueError") = some true
  se : ∃ S, mg "SlotError" = some (.ref S) ∧ PySem.W.kitOne K (.ref C) (.ref S) = some true ∧ PySem.W.exmOne K (.ref C) (.ref S) = some true
  c0 : ∃ D, mg "NoJobs" = some (.ref D) ∧ PySem.W.kitOne K (.ref C) (.ref D) = some (decide (0 = i))
  c1 : ∃ D, mg "NoRule" = some (.ref D) ∧ PySem.W.kitOne K (.ref C) (.ref D) = some (decide (1 = i))
  c2 : ∃ D, mg "NoLengths" = some (.ref D) ∧ PySem.W.kitOne K (.ref C) (.ref D) = some (decide (2 = i))
  c3 : ∃ D, mg "NoLog" = some (.ref D) ∧ PySem.W.kitOne K (.ref C) (.ref D) = some (decide (3 = i))
  c4 : ∃ D, mg "NoMarks" = some (.ref D) ∧ PySem.W.kitOne K (.ref C) (.ref D) = some (decide (4 = i))
  c5 : ∃ D, mg "NoNamed" = some (.ref D) ∧ PySem.W.kitOne K (.ref C) (.ref D) = some (decide (5 = i))
  c6 : ∃ D, mg "NoOrder" = some (.ref D) ∧ PySem.W.kitOne K (.ref C) (.ref D) = some (decide (6 = i))
  c7 : ∃ D, mg "NoText" = some (.ref D) ∧ PySem.W.kitOne K (.ref C) (.ref D) = some (decide (7 = i))
  c8 : ∃ D, mg "NoNumber" = some (.ref D) ∧ PySem.W.kitOne K (.ref C) (.ref D) = some (decide (8 = i))
  c9 : ∃ D, mg "NoName" = some (.ref D) ∧ PySem.W.kitOne K (.ref C) (.ref D) = some (decide (9 = i))
  c10 : ∃ D, mg "NoUndo" = some (.ref D) ∧ PySem.W.kitOne K (.ref C) (.ref D) = some (decide (10 = i))
  c11 : ∃ D, mg "NoLine" = some (.ref D) ∧ PySem.W.kitOne K (.ref C) (.ref D) = some (decide (11 = i))
section
variable {P : Program} {w : World} {K : PySem.W.Frag} {mg : Str → Option Value} {base : Heap}
def spKind (C : Addr) (i : Nat) : Sp := fun vs H Q _ => ∃ (a dd : Addr) (v : V), vs = [.ref a] ∧ H a = some (Xco a (.ref C) (some dd)) ∧ H dd = some (.xd [(("place" : Str), v)]) ∧
  ∀ (t : Addr) (H' : Hp), Same H H' → H' t = some (.tup [.str (words7.getD i ""), v]) → Q (.ref t) H'
theorem scKind : FnScope ["caught", "kinds", "at"] ["caught"] (defScope sKind) := ⟨rfl, rfl, rfl, by decide +kernel, rfl, by decide +kernel, by decide +kernel⟩
theorem ok_kind {C : Addr} {i : Nat} (hi : i < 7) (D : Df K mg "_law_kind" sKind ["caught"]) (B : Blt mg) (N : Kn K mg C i) : Cl P w K mg base CX0 1 "_law_kind" ["caught"] (spKind C i) := by
  refine cl0 D scKind (fun vs H Q E h => ?_) (fun f cdv A outer s H vs Q E hr h => ?_)
  · obtain ⟨a, dd, v, rfl, _⟩ := h
    rfl
  · obtain ⟨a, dd, v, rfl, ha, hdd, k⟩ := h
    obtain ⟨S, mS, kS, _⟩ := N.se
    obtain ⟨D0, m0, k0⟩ := N.c0
    obtain ⟨D1, m1, k1⟩ := N.c1
    obtain ⟨D2, m2, k2⟩ := N.c2
    obtain ⟨D3, m3, k3⟩ := N.c3
    obtain ⟨D4, m4, k4⟩ := N.c4
    obtain ⟨D5, m5, k5⟩ := N.c5
    obtain ⟨D6, m6, k6⟩ := N.c6
    obtain ⟨D7, m7, k7⟩ := N.c7
    obtain ⟨D8, m8, k8⟩ := N.c8
    obtain ⟨D9, m9, k9⟩ := N.c9
    obtain ⟨D10, m10, k10⟩ := N.c10
    obtain ⟨D11, m11, k11⟩ := N.c11
    refine ⟨_, pss_cons (ps_set (i := 1) scKind.nd rfl (Or.inl rfl) (pe_lst (pa_cons (pe_callB call_isX (by rfl) B.isi (by decide +kernel) (pa_cons (pv 0) (pa_cons (pe_glob rfl m0 (show RelV (.ref _) _ from rfl)) pa_nil))) (pa_cons (pe_callB call_isX (by rfl) B.isi (by decide +kernel) (pa_cons (pv 0) (pa_cons (pe_glob rfl m1 (show RelV (.ref _) _ from rfl)) pa_nil))) (pa_cons (pe_callB call_isX (by rfl) B.isi (by decide +kernel) (pa_cons (pv 0) (pa_cons (pe_glob rfl m2 (show RelV (.ref _) _ from rfl)) pa_nil))) pa_nil)))))
      (pss_cons (ps_set (i := 1) scKind.nd rfl (Or.inl rfl) (pe_op op_cat (pv 1) (pe_lst (pa_cons (pe_callB call_isX (by rfl) B.isi (by decide +kernel) (pa_cons (pv 0) (pa_cons (pe_glob rfl m3 (show RelV (.ref _) _ from rfl)) pa_nil))) (pa_cons (pe_callB call_isX (by rfl) B.isi (by decide +kernel) (pa_cons (pv 0) (pa_cons (pe_glob rfl m4 (show RelV (.ref _) _ from rfl)) pa_nil))) (pa_cons (pe_callB call_isX (by rfl) B.isi (by decide +kernel) (pa_cons (pv 0) (pa_cons (pe_glob rfl m5 (show RelV (.ref _) _ from rfl)) pa_nil))) pa_nil))))))
      (pss_cons (ps_set (i := 1) scKind.nd rfl (Or.inl rfl) (pe_op op_cat (pv 1) (pe_lst (pa_cons (pe_callB call_isX (by rfl) B.isi (by decide +kernel) (pa_cons (pv 0) (pa_cons (pe_glob rfl m6 (show RelV (.ref _) _ from rfl)) pa_nil))) (pa_cons (pe_callB call_isX (by rfl) B.isi (by decide +kernel) (pa_cons (pv 0) (pa_cons (pe_glob rfl m7 (show RelV (.ref _) _ from rfl)) pa_nil))) (pa_cons (pe_callB call_isX (by rfl) B.isi (by decide +kernel) (pa_cons (pv 0) (pa_cons (pe_glob rfl m8 (show RelV (.ref _) _ from rfl)) pa_nil))) pa_nil))))))
      (pss_cons (ps_set (i := 1) scKind.nd rfl (Or.inl rfl) (pe_op op_cat (pv 1) (pe_lst (pa_cons (pe_callB call_isX (by rfl) B.isi (by decide +kernel) (pa_cons (pv 0) (pa_cons (pe_glob rfl m9 (show RelV (.ref _) _ from rfl)) pa_nil))) (pa_cons (pe_callB call_isX (by rfl) B.isi (by decide +kernel) (pa_cons (pv 0) (pa_cons (pe_glob rfl m10 (show RelV (.ref _) _ from rfl)) pa_nil))) (pa_cons (pe_callB call_isX (by rfl) B.isi (by decide +kernel) (pa_cons (pv 0) (pa_cons (pe_glob rfl m11 (show RelV (.ref _) _ from rfl)) pa_nil))) pa_nil))))))
      (pss_cons (ps_if (PW.pt (pw_or (pt_not (pt_val (pe_callB call_isX (by rfl) B.isi (by decide +kernel) (pa_cons (pv 0) (pa_cons (pe_glob rfl mS (show RelV (.ref _) _ from rfl)) pa_nil))))) (pw_or (pt_not (pt_val (pe_callB call_isX (by rfl) B.isi (by decide +kernel) (pa_cons (pv 0) (pa_cons (pe_bltn (v := .ty "ValueError") (u := .type "ValueError") (by rfl) N.ve (by decide +kernel) rfl) pa_nil)))))
        (pw_or1 (pt_cmpR op_ne (pe_bm PySem.F.plainAttrs_list PySem.F.slot_list_count PySem.F.type_list_count mt_countV (pv 1) (pa_cons pe_bl pa_nil)) pe_int (nomark _)))))) (pss_one (ps_ret (pe_tup (pa_cons pe_str (pa_cons pe_int pa_nil))))) pss_nil)
      (pss_cons (ps_set (i := 2) scKind.nd rfl (Or.inl rfl) (pe_bm PySem.F.plainAttrs_list PySem.F.slot_list_index PySem.F.type_list_index mt_index (pv 1) (pa_cons pe_bl pa_nil)))
      (pss_cons (ps_if (pt_cmpR op_lt (pv 2) pe_int (nomark _)) (pss_one (ps_ret (pe_tup (pa_cons (pe_ix ix_list (pe_lst (pa_cons pe_str (pa_cons pe_str (pa_cons pe_str (pa_cons pe_str (pa_cons pe_str (pa_cons pe_str (pa_cons pe_str pa_nil)))))))) (pv 2) (fun _ _ => rfl)) (pa_cons (pe_xp (pv 0)) pa_nil))))) pss_nil)
      (pss_cons ps_never (pss_cons ps_never (pss_cons ps_never (pss_one ps_never)))))))))), ?_⟩
    refine ⟨_, rfl, a, C, some dd, _, _, _, rfl, (Same.refl H).at ha, (fun d2 e2 => by cases e2; exact ⟨_, (Same.refl H).at hdd⟩), N.ex, .own _, k0,
      _, rfl, a, C, some dd, _, _, _, rfl, (Same.refl H).at ha, (fun d2 e2 => by cases e2; exact ⟨_, (Same.refl H).at hdd⟩), N.ex, .own _, k1,
      _, rfl, a, C, some dd, _, _, _, rfl, (Same.refl H).at ha, (fun d2 e2 => by cases e2; exact ⟨_, (Same.refl H).at hdd⟩), N.ex, .own _, k2, (by show 3 ≤ sizeLine; decide), fun p1 n1 => ?_⟩
    have s1 := same_new (o := .lst [.bl (decide (0 = i)), .bl (decide (1 = i)), .bl (decide (2 = i))]) n1
    refine ⟨_, rfl, _, rfl, a, C, some dd, _, _, _, rfl, s1.at ha, (fun d2 e2 => by cases e2; exact ⟨_, s1.at hdd⟩), N.ex, .own _, k3,
      _, rfl, a, C, some dd, _, _, _, rfl, s1.at ha, (fun d2 e2 => by cases e2; exact ⟨_, s1.at hdd⟩), N.ex, .own _, k4,
      _, rfl, a, C, some dd, _, _, _, rfl, s1.at ha, (fun d2 e2 => by cases e2; exact ⟨_, s1.at hdd⟩), N.ex, .own _, k5, (by show 3 ≤ sizeLine; decide), fun q1 m1' => ?_⟩
    have t1 := same_new (o := .lst [.bl (decide (3 = i)), .bl (decide (4 = i)), .bl (decide (5 = i))]) m1'
    refine ⟨p1, q1, _, _, rfl, rfl, t1.at upd_same, upd_same, (by show 3 + 3 ≤ sizeLine; decide), fun p2 n2 => ?_⟩
    have s2 := (s1.trans t1).trans (same_new (o := .lst ([.bl (decide (0 = i)), .bl (decide (1 = i)), .bl (decide (2 = i))] ++ [.bl (decide (3 = i)), .bl (decide (4 = i)), .bl (decide (5 = i))])) n2)
    refine ⟨_, rfl, _, rfl, a, C, some dd, _, _, _, rfl, s2.at ha, (fun d2 e2 => by cases e2; exact ⟨_, s2.at hdd⟩), N.ex, .own _, k6,
      _, rfl, a, C, some dd, _, _, _, rfl, s2.at ha, (fun d2 e2 => by cases e2; exact ⟨_, s2.at hdd⟩), N.ex, .own _, k7,
      _, rfl, a, C, some dd, _, _, _, rfl, s2.at ha, (fun d2 e2 => by cases e2; exact ⟨_, s2.at hdd⟩), N.ex, .own _, k8, (by show 3 ≤ sizeLine; decide), fun q2 m2' => ?_⟩
    have t2 := same_new (o := .lst [.bl (decide (6 = i)), .bl (decide (7 = i)), .bl (decide (8 = i))]) m2'
    refine ⟨p2, q2, _, _, rfl, rfl, t2.at upd_same, upd_same, (by show 6 + 3 ≤ sizeLine; decide), fun p3 n3 => ?_⟩
    have s3 := (s2.trans t2).trans (same_new (o := .lst (([.bl (decide (0 = i)), .bl (decide (1 = i)), .bl (decide (2 = i))] ++ [.bl (decide (3 = i)), .bl (decide (4 = i)), .bl (decide (5 = i))]) ++ [.bl (decide (6 = i)), .bl (decide (7 = i)), .bl (decide (8 = i))])) n3)
    refine ⟨_, rfl, _, rfl, a, C, some dd, _, _, _, rfl, s3.at ha, (fun d2 e2 => by cases e2; exact ⟨_, s3.at hdd⟩), N.ex, .own _, k9,
      _, rfl, a, C, some dd, _, _, _, rfl, s3.at ha, (fun d2 e2 => by cases e2; exact ⟨_, s3.at hdd⟩), N.ex, .own _, k10,
      _, rfl, a, C, some dd, _, _, _, rfl, s3.at ha, (fun d2 e2 => by cases e2; exact ⟨_, s3.at hdd⟩), N.ex, .own _, k11, (by show 3 ≤ sizeLine; decide), fun q3 m3' => ?_⟩
    have t3 := same_new (o := .lst [.bl (decide (9 = i)), .bl (decide (10 = i)), .bl (decide (11 = i))]) m3'
    refine ⟨p3, q3, _, _, rfl, rfl, t3.at upd_same, upd_same, (by show 9 + 3 ≤ sizeLine; decide), fun p4 n4 => ?_⟩
    have s4 := (s3.trans t3).trans (same_new (o := .lst ((([.bl (decide (0 = i)), .bl (decide (1 = i)), .bl (decide (2 = i))] ++ [.bl (decide (3 = i)), .bl (decide (4 = i)), .bl (decide (5 = i))]) ++ [.bl (decide (6 = i)), .bl (decide (7 = i)), .bl (decide (8 = i))]) ++ [.bl (decide (9 = i)), .bl (decide (10 = i)), .bl (decide (11 = i))])) n4)
    have e12 : ((([.bl (decide (0 = i)), .bl (decide (1 = i)), .bl (decide (2 = i))] ++ [.bl (decide (3 = i)), .bl (decide (4 = i)), .bl (decide (5 = i))]) ++ [.bl (decide (6 = i)), .bl (decide (7 = i)), .bl (decide (8 = i))]) ++ [.bl (decide (9 = i)), .bl (decide (10 = i)), .bl (decide (11 = i))]) = bits i := rfl
    refine ⟨_, rfl, a, C, some dd, _, _, _, rfl, s4.at ha, (fun d2 e2 => by cases e2; exact ⟨_, s4.at hdd⟩), N.ex, .own _, kS, _, rfl, iteF ?_⟩
    refine ⟨_, rfl, a, C, some dd, _, _, _, rfl, s4.at ha, (fun d2 e2 => by cases e2; exact ⟨_, s4.at hdd⟩), N.ex, .ty "ValueError", N.kv, _, rfl, iteF ?_⟩
    refine ⟨_, rfl, .inl ⟨rfl, _, SqL.of upd_same⟩, p4, _, _, rfl, rfl, SqL.of upd_same, rfl, ?_, ?_⟩
    · rw [e12]
      exact bits_flat i
    rw [e12]
    have ec : (bits i).countP (fun z => eqV z (.bl true)) = 1 := bits_cnt ⟨i, by omega⟩
    rw [ec]
    refine ⟨rfl, _, rfl, iteF ?_⟩
    refine ⟨_, rfl, .inl ⟨rfl, _, SqL.of upd_same⟩, p4, _, _, i, .bl (decide (i = i)), rfl, rfl, SqL.of upd_same, rfl, bits_flat i, bits_get (by omega), by rw [decide_eq_true rfl]; rfl, fun m z' hm hz => ?_, ?_⟩
    · rw [bits_get (by omega)] at hz
      cases hz
      rw [decide_eq_false (by omega)]
      rfl
    refine ⟨_, rfl, _, _, rfl, rfl, _, rfl, ?_⟩
    rw [decide_eq_true (show (i : Int) < 7 by omega)]
    refine iteT ⟨(by show 7 ≤ sizeLine; decide), fun l nl => ?_⟩
    have s5 := s4.trans (same_new (o := .lst (words7.map V.str)) nl)
    have ew : (words7.map V.str)[i]? = some (.str (words7.getD i "")) := by
      rw [List.getElem?_map, List.getD_eq_getElem?_getD]
      have hl : i < words7.length := hi
      rw [List.getElem?_eq_getElem hl]
      rfl
    refine ⟨_, rfl, l, _, _, _, rfl, rfl, SqL.of upd_same, atI_nat ew, _, rfl, a, C, dd, _, v, rfl, s5.at ha, s5.at hdd, by simp [List.lookup], N.xf, N.noP, (by show 2 ≤ sizeLine; decide), fun t nt => ?_⟩
    exact k t _ (s5.trans (same_new nt)) upd_same
end
end Vk
set_option maxHeartbeats 8000000
/-! _law_short_right -/
namespace Vk
open PySem PySem.Spec PyProof.Rows L2 GxR
abbrev gNo : List V → List V → List V := fun vs zs => vs ++ zs ++ [.int 1]
def spShort (K : PySem.W.Frag) (T0 : Addr) : Sp := fun vs H Q _ => ∃ (jv lv rv : V) (c : Int) (r : Rl) (nd : Str → Int) (J : List Jd), vs = [jv, lv, rv] ∧ c = 1 ∧ RunAt K H T0 jv lv rv c r nd J ∧ J ≠ [] ∧ ∀ H', Q (.bl true) H'
theorem scShort : FnScope ["jobs", "lengths", "policy", "caught", "e"] ["jobs", "lengths", "policy"] (defScope sShort) := ⟨rfl, rfl, rfl, by decide +kernel, rfl, by decide +kernel, by decide +kernel⟩
section
variable {P : Program} {w : World} {K : PySem.W.Frag} {mg : Str → Option Value} {base : Heap}
theorem ok_short {T0 C S : Addr} (D : Df K mg "_law_short_right" sShort ["jobs", "lengths", "policy"]) (B : Blt mg) (SP : ClE P w K mg base (L2.CX P w) 7 "first_split" PSP (spSplit K T0 C) (RAll K PSP 3 ["rule"] gNo))
    (mS : mg "SlotError" = some (.ref S)) (exm : PySem.W.exmOne K (.ref C) (.ref S) = some true) (KI : Cl P w K mg base CX0 1 "_law_kind" ["caught"] (spKind C 2)) : Cl P w K mg base CX0 8 "_law_short_right" ["jobs", "lengths", "policy"] (spShort K T0) := by
  refine cl0 D scShort (fun vs H Q E h => ?_) (fun f cdv A outer s0 H vs Q E hr h => ?_)
  · obtain ⟨jv, lv, rv, c, r, nd, J, rfl, _⟩ := h
    rfl
  · obtain ⟨jv, lv, rv, c, r, nd, J, rfl, c1, R, ne, k⟩ := h
    obtain ⟨fU, fdU, mU, kpU, ⟨gU, kbU⟩, FU⟩ := SP.ex
    refine ⟨_, pss_cons (ps_set (i := 3) scShort.nd rfl (Or.inl rfl) pe_non)
      (pss_cons (ps_try_keep (i := 4) (c := .ref S) (ts := fun _ _ _ => tAsg (tVar 4) (gName 3)) rfl rfl rfl scShort.nd rfl rfl rfl mS (by decide)
          (fun W pn xe tk _ => pss_one (ps_expr (pe_callM (ex := WE W) FU (hr.mono (by decide)) rfl mU kpU kbU (fun σ => passAt tk σ) (pa_cons (pv 0) (pa_cons (pv 1) (pa_cons (pe_slice (r := rSlA K) sl_tupA (pv 1) (po_some pe_int) po_none) pa_nil))) (pk_cons (pv 2) pk_nil))))
          (fun a oe cls d pn _ _ => pss_one (ps_set (i := 3) scShort.nd rfl (Or.inl rfl) (by exact (pv 4)))))
      (pss_one (ps_ret (pe_and (pe_cmpR op_notN (pv 3) pe_non (nomark _)) (pe_one (pe_cmpR (op_eqD hr.units) (pc KI hr (by decide) (pa_cons (pv 3) pa_nil)) (pe_tup (pa_cons pe_str (pa_cons (pe_op op_sub (pe_callB call_len_seq (by rfl) B.len PySem.boot_len (pa_cons (pv 1) pa_nil)) pe_int) pa_nil))) (nomark _))))))), ?_⟩
    obtain ⟨pl, xl, rfl, ql, rl⟩ := dp_tuple R.dl
    have len := dps_len rl
    rw [List.length_map, List.length_map] at len
    refine ⟨_, rfl, _, rfl, _, rfl, ?_⟩
    dsimp only [tNoPart]
    refine ⟨_, rfl, slA_go ql fun b G0 s0 q0 => ?_⟩
    rw [show (1 : Int) = ((1 : Nat) : Int) from rfl, cut_fromN] at q0
    have dd := dps_drop 1 (dps_same s0 rl)
    rw [← List.map_drop] at dd
    have jl : 1 ≤ J.length := by
      cases J with
      | nil => exact absurd rfl ne
      | cons _ _ => exact Nat.succ_le_succ (Nat.zero_le _)
    have dl : ((J.map fun j => nd j.n).drop 1).length = J.length - 1 := by rw [List.length_drop, List.length_map]
    refine ⟨_, rfl, rfl, rfl, jv, .ref pl, .ref b, rv, c, r, nd, J, by rw [c1]; rfl, ⟨dp_same s0 R.dj, dp_same s0 (.tup ql rl), dp_same s0 R.dr, R.ok, s0.tab T0 R.tg⟩, .inr ⟨(J.map fun j => nd j.n).drop 1, .tup q0 dd, fun o ho => ?_, by omega, fun dx H1 s1 hdx => ?_⟩⟩
    · obtain ⟨j, hj, rfl⟩ := List.mem_map.mp (List.mem_of_mem_drop ho)
      exact R.ok.one j hj
    rw [dl] at hdx
    refine ⟨exm, fun a na => ⟨_, rfl, fun na2 => ?_⟩⟩
    have s2 := (s0.trans s1).trans (same_new (o := Xco a (.ref C) (some dx)) na2)
    have hd2 : upd H1 a (Xco a (.ref C) (some dx)) dx = some (.xd [(("place" : Str), .int ((J.length - 1 : Nat) : Int))]) := by
      rw [upd_ne (ne_of_none hdx na2)]
      exact hdx
    refine ⟨_, rfl, rfl, _, rfl, iteT ?_⟩
    refine ⟨_, rfl, a, dx, _, rfl, upd_same, hd2, fun t H3 s3 ht => ?_⟩
    refine ⟨_, rfl, pl, _, rfl, .inr (same_seqT (s2.trans s3) ql), _, _, rfl, rfl, by show 2 ≤ sizeLine; decide, fun z nz => ?_⟩
    have s4 := same_new (o := .tup [V.str "lengths", .int ((xl.length : Nat) - 1)]) nz
    have sh : SeqAt.shaped (.tuple [.str ("lengths" : Str), .int ((J.length - 1 : Nat) : Int)]) = true := by simp [SeqAt.shaped, PyData.canLay0, PyData.canLayAll0, PyData.depth, PyData.depthAll]; decide +kernel
    have e1 : ((xl.length : Nat) : Int) - 1 = ((J.length - 1 : Nat) : Int) := by omega
    refine ⟨_, _, .tup (SqT.of (s4.at ht)) (.cons (.str _) (.cons (.int _) .nil)), .tup (SqT.of upd_same) (.cons (.str _) (.cons (.int _) .nil)), sh, by rw [e1]; exact sh, ?_⟩
    rw [e1, show (.tuple [.str (words7.getD 2 ""), .int ((J.length - 1 : Nat) : Int)] : PyData) = .tuple [.str ("lengths" : Str), .int ((J.length - 1 : Nat) : Int)] from rfl, SeqAt.eqv_refl _ (SeqAt.canLay_of_shaped sh)]
    exact k _
end
end Vk
set_option maxHeartbeats 8000000
/-! _law_others -/
namespace Vk
open PySem PySem.Spec PyProof.Rows L2 GxR
theorem dps_intsV {K : PySem.W.Frag} {X : Hp} {vs : List V} {l : List Int} (h : DpAll K X vs (l.map PyData.int)) : vs = l.map V.int := by
  induction l generalizing vs with
  | nil => cases h; rfl
  | cons x l ih =>
    cases h with
    | cons a t =>
      rw [ih t, dp_int a]
      rfl
theorem dps_ofInts {K : PySem.W.Frag} {X : Hp} : ∀ l : List Int, DpAll K X (l.map V.int) (l.map PyData.int)
  | [] => .nil
  | x :: l => .cons (.int x) (dps_ofInts l)
abbrev NOT : List Str := ["store", "lengths", "at", "to", "turned", "some", "k"]
def intsD (l : List Int) : PyData := .tuple (l.map PyData.int)
def putL (L : List Int) (i : Nat) (v : Int) : List Int := L.take i ++ [v] ++ L.drop (i + 1)
def OthOk (L o : List Int) : Prop := o.length = L.length ∧ ∀ x ∈ o, 1 ≤ x ∧ x ≤ 700
theorem sh_intsL (l : List Int) : SeqAt.shaped (.tuple (l.map PyData.int)) = true :=
  shaped_mk (n := 3) (shaped_tuple (n := 2) fun x _ => by simp [PyData.canLay0, PyData.depth]) (by decide)
theorem putL_ok {L : List Int} {i : Nat} {v : Int} (hi : i < L.length) (b : ∀ x ∈ L, 1 ≤ x ∧ x ≤ 600) (v1 : 1 ≤ v ∧ v ≤ 700) : OthOk L (putL L i v) := by
  unfold putL
  refine ⟨by rw [List.length_append, List.length_append, List.length_take, List.length_drop]; simp; omega, fun x hx => ?_⟩
  rcases List.mem_append.mp hx with h | h
  · rcases List.mem_append.mp h with h | h
    · have := b x (List.mem_of_mem_take h)
      omega
    · rw [List.mem_singleton.mp h]
      exact v1
  · have := b x (List.mem_of_mem_drop h)
    omega
section
variable {P : Program} {w : World} {K : PySem.W.Frag} {mg : Str → Option Value} {base : Heap}
theorem sqt_offL9 {K : PySem.W.Frag} {X : Hp} {st : Addr} {l : List V} (h : X st = some (.lst l)) {a : Addr} {xs : List V} (q : SqT K X a xs) : SqT K (Off st X) a xs := by
  have ne : ∀ {o : HO}, X a = some o → o ≠ .lst l → a ≠ st := fun {o} e n z => by
    rw [z, h] at e
    cases e
    exact n rfl
  rcases q with (q | ⟨o, q⟩) | q
  · exact .inl (.inl (by rw [off_ne (ne q (fun z => nomatch z))]; exact q))
  · exact .inl (.inr ⟨o, by rw [off_ne (ne q (fun z => nomatch z))]; exact q⟩)
  · exact .inr q
theorem dps_offI {K : PySem.W.Frag} {X : Hp} {st : Addr} {l : List V} (h : X st = some (.lst l)) : ∀ {os : List (List Int)} {vs : List V}, DpAll K X vs (os.map intsD) → DpAll K (Off st X) vs (os.map intsD)
  | [], _, d => by
    cases d
    exact .nil
  | o :: os, _, d => by
    obtain _ | ⟨d1, d2⟩ := d
    obtain ⟨p, xs, rfl, q, r⟩ := dp_tuple d1
    have e := dps_intsV r
    subst e
    exact .cons (.tup (sqt_offL9 h q) (dps_ofInts o)) (dps_offI h d2)
theorem off_updn {a D : Addr} {H : Hp} {o : HO} (ne : D ≠ a) : Off a (upd H D o) = upd (Off a H) D o := by
  funext b
  by_cases e : b = a
  · rw [e, off_same, upd_ne (Ne.symm ne), off_same]
  · rw [off_ne e]
    by_cases d : b = D
    · rw [d, upd_same, upd_same]
    · rw [upd_ne d, upd_ne d, off_ne e]
theorem cut_toN {xs : List V} {n : Nat} : cutV xs none (some (n : Int)) = xs.take n := by
  unfold cutV
  rw [show HT.sIx xs.length xs.length (some (n : Int)) = min n xs.length from HT.sIx_nat _ _ n, show HT.sIx xs.length 0 none = 0 from rfl]
  rcases Nat.le_total n xs.length with h | h
  · rw [Nat.min_eq_left h]
    simp
  · rw [Nat.min_eq_right h, List.take_of_length_le h]
    simp
def spOthers (K : PySem.W.Frag) : Sp := fun vs H Q _ => ∃ (st sc : Addr) (m : Int) (lv : V) (L : List Int), vs = [.ref st, lv] ∧ Sto sc st m H ∧ m ≤ 800000 ∧ Dp K (Off st H) lv (intsD L) ∧ (∀ x ∈ L, 1 ≤ x ∧ x ≤ 600) ∧ L.length ≤ 12 ∧
  ∀ (p : Addr) (ys : List V) (os : List (List Int)) (H' : Hp), Sto sc st (m + 100) H' → Kept st H H' → H' p = some (.lst ys) → DpAll K (Off st H') ys (os.map intsD) → (∀ o ∈ os, OthOk L o) → Q (.ref p) H'
theorem scOthers : FnScope NOT ["store", "lengths"] (defScope sOthers) := ⟨rfl, rfl, rfl, by decide +kernel, rfl, by decide +kernel, by decide +kernel⟩
theorem ok_others (D : Df K mg "_law_others" sOthers ["store", "lengths"]) (B : Blt mg) (ml : mg "list" = none) (mx : mg "max" = none) (PK : Cl P w K mg base CX0 2 "_law_pick" ["store", "count"] spPick) (LQ : Cl P w K mg base CX0 3 "_law_lengths" ["store", "count", "most"] (spLqs K)) : Cl P w K mg base CX0 4 "_law_others" ["store", "lengths"] (spOthers K) := by
  refine cl0 D scOthers (fun vs H Q E h => ?_) (fun f cdv A outer s H vs Q E hr h => ?_)
  · obtain ⟨st, sc, m, lv, L, rfl, _⟩ := h
    rfl
  · obtain ⟨st, sc, m, lv, L, rfl, S0, m9, dl, bL, l12, k⟩ := h
    refine ⟨_, pss_cons (ps_if (pt_cmpR (op_eqD hr.units) (pv 1) (pe_tup pa_nil) (nomark _)) (pss_one (ps_ret (pe_lst (pa_cons (pe_tup pa_nil) pa_nil)))) pss_nil)
      (pss_cons (ps_set (i := 2) scOthers.nd rfl (Or.inr rfl) (pc PK hr (by decide) (pa_cons (pv 0) (pa_cons (pe_callB call_len_seq (by rfl) B.len PySem.boot_len (pa_cons (pv 1) pa_nil)) pa_nil))))
      (pss_cons (ps_set (i := 3) scOthers.nd rfl (Or.inl rfl) (pc PK hr (by decide) (pa_cons (pv 0) (pa_cons (pe_callB call_len_seq (by rfl) B.len PySem.boot_len (pa_cons (pv 1) pa_nil)) pa_nil))))
      (pss_cons (ps_set (i := 4) scOthers.nd rfl (Or.inl rfl) (pe_callTy call_list_of (by rfl) ml (by decide +kernel) (pa_cons (pv 1) pa_nil)))
      (pss_cons (ps_asg (pe_tup (pa_cons (pe_ix ix_list (pv 4) (pv 3) (fun _ _ => rfl)) (pa_cons (pe_ix ix_list (pv 4) (pv 2) (fun _ _ => rfl)) pa_nil))) (pg_tup rfl (pgs_cons (pg_sub (pv 4) (pv 2) set_list) (pgs_cons (pg_sub (pv 4) (pv 3) set_list) pgs_nil))))
      (pss_cons (ps_setLc (i := 5) (own := [("k", 6)]) (g := gName 6) (tt := tYes) (te := tOp (rCatA K) (tOp (rCatA K) (tSl (rSlA K) (tVar 1) tNoPart (tPart (tVar 2))) (tTup (tCons (tOp (rI0 fun i j => .int (i + j)) (tOp (rIxT K) (tVar 1) (tVar 2)) (tVar 6)) tNil))) (tSl (rSlA K) (tVar 1) (tPart (tOp (rI0 fun i j => .int (i + j)) (tVar 2) (tC (.int 1)))) tNoPart)) rfl scOthers.nd rfl rfl (sw_true rfl rfl rfl (by decide +kernel)) (pi_tup (pe_tup (pa_cons pe_int (pa_cons pe_int (pa_cons pe_int pa_nil)))))
          (blkOk_by (own := [("k", 6)]) (N := NOT) (sc := defScope sOthers) (by decide +kernel)) (fun _ _ _ _ _ => pg_name (i := 6) scOthers.nd rfl (.inl rfl)) (fun _ _ _ _ _ => pts_nil) (fun _ _ _ _ _ => pe_op op_catA (pe_op op_catA (pe_slice sl_tupA (pv 1) po_none (po_some (pv 2))) (pe_tup (pa_cons (pe_op op_add (pe_ix ix_tup (pv 1) (pv 2) (fun _ _ => rfl)) (pv 6)) pa_nil))) (pe_slice sl_tupA (pv 1) (po_some (pe_op op_add (pv 2) pe_int)) po_none)))
      (pss_cons (ps_expr (pe_bm PySem.F.plainAttrs_list PySem.F.slot_list_append PySem.F.type_list_append mt_append (pv 5) (pa_cons (pe_op op_catA (pe_op op_catA (pe_slice sl_tupA (pv 1) po_none (po_some (pv 3))) (pe_tup (pa_cons (pe_callB (call_max2 rfl) (by rfl) mx (by decide +kernel) (pa_cons pe_int (pa_cons (pe_op op_sub (pe_ix ix_tup (pv 1) (pv 3) (fun _ _ => rfl)) pe_int) pa_nil))) pa_nil))) (pe_slice sl_tupA (pv 1) (po_some (pe_op op_add (pv 3) pe_int)) po_none)) pa_nil)))
      (pss_one (ps_ret (pe_op op_cat (pv 5) (pe_lst (pa_cons (pe_callTy call_tuple_of (by rfl) B.tuple (by decide +kernel) (pa_cons (pv 4) pa_nil)) (pa_cons (pc LQ hr (by decide) (pa_cons (pv 0) (pa_cons (pe_callB call_len_seq (by rfl) B.len PySem.boot_len (pa_cons (pv 1) pa_nil)) (pa_cons pe_int pa_nil)))) (pa_cons (pv 1) pa_nil))))))))))))), ?_⟩
    obtain ⟨pl, xl, rfl, ql, rl⟩ := dp_tuple dl
    have len := dps_len rl
    rw [List.length_map] at len
    have exl := dps_intsV rl
    subst exl
    refine ⟨_, rfl, Nat.zero_le _, fun e0 n0 => ?_⟩
    have s0 := same_new (o := .tup ([] : List V)) n0
    have shL := sh_intsL L
    have sh0 : SeqAt.shaped (.tuple []) = true := by decide +kernel
    refine ⟨_, _, dp_same s0 (dp_same (off_sub st H) (.tup ql rl)), .tup (SqT.of upd_same) .nil, shL, sh0, ?_⟩
    refine ⟨_, rfl, ?_⟩
    have S1 := S0.same s0
    have K1 : Kept st H (upd H e0 (.tup [])) := kept_same s0
    generalize upd H e0 (.tup []) = G1 at S1 K1
    rcases List.eq_nil_or_concat L with hL | ⟨L0, b0, hL⟩
    · subst hL
      rw [show PyData.eqv (.tuple ([].map PyData.int)) (.tuple []) = true from eqv_same sh0]
      refine iteT ⟨Nat.zero_le _, fun t nt => ⟨by show 1 ≤ sizeLine; decide, fun p np => ?_⟩⟩
      have st1 := same_new (o := .tup ([] : List V)) nt
      have sp1 := same_new (o := .lst [V.ref t]) np
      have hts : t ≠ st := S1.ne nt
      refine k p [.ref t] [[]] _ (((S1.same st1).same sp1).more (by omega)) (K1.trans ((kept_same st1).trans (kept_same sp1))) upd_same (.cons (.tup (a := t) (SqT.of (by rw [off_ne hts]; exact sp1.at (b := t) (o := .tup []) upd_same)) .nil) .nil) fun o ho => ?_
      rw [List.mem_singleton.mp ho]
      exact ⟨rfl, fun x hx => nomatch hx⟩
    have L0' : 0 < L.length := by rw [hL]; simp
    have ee : PyData.eqv (.tuple (L.map PyData.int)) (.tuple []) = false := by
      cases L with
      | nil => cases L0'
      | cons x l => simp [PyData.eqv, PyData.eqvAll]
    rw [ee]
    refine iteF ?_
    have q1 : ∀ {X : Hp}, Kept st H X → SqT K (Off st X) pl (L.map V.int) := fun kk => same_seqT kk ql
    have q1' : ∀ {X : Hp}, Kept st H X → SqT K X pl (L.map V.int) := fun {X} kk => same_seqT (off_sub st X) (q1 kk)
    have ll : ((L.map V.int).length : Int) = L.length := by rw [List.length_map]
    refine ⟨_, rfl, _, rfl, pl, _, rfl, .inr (q1' K1), st, sc, _, _, rfl, by omega, by omega, S1, by omega, fun a1 G2 a10 a1n S2 K2 => ?_⟩
    have K12 := K1.trans K2
    refine ⟨_, rfl, _, rfl, pl, _, rfl, .inr (q1' K12), st, sc, _, _, rfl, by omega, by omega, S2, by omega, fun a2 G3 a20 a2n S3 K3 => ?_⟩
    have K13 := K12.trans K3
    rw [ll] at a1n a2n
    obtain ⟨i1, rfl⟩ : ∃ i1 : Nat, a1 = (i1 : Int) := ⟨a1.toNat, by omega⟩
    obtain ⟨i2, rfl⟩ : ∃ i2 : Nat, a2 = (i2 : Int) := ⟨a2.toNat, by omega⟩
    have h1 : i1 < L.length := by omega
    have h2 : i2 < L.length := by omega
    have g1 : L[i1]? = some L[i1] := List.getElem?_eq_getElem h1
    have g2 : L[i2]? = some L[i2] := List.getElem?_eq_getElem h2
    have b1 := bL L[i1] (List.getElem_mem h1)
    have b2 := bL L[i2] (List.getElem_mem h2)
    generalize L[i1] = v1 at g1 b1
    generalize L[i2] = v2 at g2 b2
    have vb1 := b1
    have vb2 := b2
    have at1 : ∀ {l : List Int} {i : Nat} {v : Int}, l[i]? = some v → atI (l.map V.int) (i : Int) = some (.int v) := fun h => atI_nat (by rw [List.getElem?_map, h]; rfl)
    -- the list
    refine ⟨_, rfl, pl, _, rfl, .inr (q1' K13), fun D nD => ?_⟩
    have sD := same_new (o := .lst (L.map V.int)) nD
    have hD : upd G3 D (.lst (L.map V.int)) D = some (.lst (L.map V.int)) := upd_same
    have hDs : D ≠ st := S3.ne nD
    have hDsc : D ≠ sc := S3.ne2 nD
    have S4 := S3.same sD
    have K4 : Same (Off st H) (Off D (Off st (upd G3 D (.lst (L.map V.int))))) := by
      rw [off_updn hDs]
      exact (show Same (Off st H) (Off st G3) from K13).trans (off_newB (by rw [off_ne hDs]; exact nD))
    generalize upd G3 D (.lst (L.map V.int)) = G4 at hD S4 K4 ⊢
    refine ⟨_, rfl, _, rfl, D, _, _, _, rfl, rfl, SqL.of hD, at1 g2, _, rfl, _, rfl, D, _, _, _, rfl, rfl, SqL.of hD, at1 g1, by show 2 ≤ sizeLine; decide, fun tt nt => ?_⟩
    have st5 := same_new (o := .tup [V.int v2, .int v1]) nt
    have hD5 := st5.at hD
    have S5 := S4.same st5
    have K5 := K4.trans (off_mono (a := D) (show Same (Off st G4) (Off st _) from kept_same st5))
    refine ⟨tt, _, rfl, SqT.of upd_same, rfl, _, _, rfl, ?_⟩
    have ix : ∀ {l : List Int} {i : Nat}, i < l.length → ixN (l.map V.int).length (i : Int) = some i := fun {l i} h => by
      rw [ixN_at (by omega) (by rw [List.length_map]; omega)]
      rfl
    refine ⟨_, rfl, _, rfl, D, _, _, _, rfl, rfl, hD5, ix h1, ?_⟩
    generalize hG5 : upd G4 tt (.tup [V.int v2, .int v1]) = G5 at hD5 S5 K5 ⊢
    rw [show (L.map V.int).set i1 (.int v2) = (L.set i1 v2).map V.int from (List.map_set ..).symm]
    have hD6 : upd G5 D (.lst ((L.set i1 v2).map V.int)) D = some (.lst ((L.set i1 v2).map V.int)) := upd_same
    have len1 : (L.set i1 v2).length = L.length := List.length_set
    refine ⟨_, _, rfl, _, rfl, _, rfl, D, _, _, _, rfl, rfl, hD6, ix (by omega), ?_⟩
    rw [show ((L.set i1 v2).map V.int).set i2 (.int v1) = ((L.set i1 v2).set i2 v1).map V.int from (List.map_set ..).symm, upd_upd]
    refine ⟨rfl, ?_⟩
    have hD7 : upd G5 D (.lst (((L.set i1 v2).set i2 v1).map V.int)) D = some (.lst (((L.set i1 v2).set i2 v1).map V.int)) := upd_same
    have K7 : Kept st H (upd G5 D (.lst (((L.set i1 v2).set i2 v1).map V.int))) := by
      have z : Same (Off st H) (Off D (Off st (upd G5 D (.lst (((L.set i1 v2).set i2 v1).map V.int))))) := by
        rw [off_updn hDs, off_upd]
        exact K5
      exact z.trans (off_sub D _)
    have S7 : Sto sc st _ (upd G5 D (.lst (((L.set i1 v2).set i2 v1).map V.int))) := S5.other hDs hDsc
    generalize upd G5 D (.lst (((L.set i1 v2).set i2 v1).map V.int)) = G7 at hD7 K7 S7 ⊢
    refine ⟨by show 3 ≤ sizeLine; decide, fun T3 n3 => ?_⟩
    have s8 := same_new (o := .tup [V.int 1, .int 2, .int 40]) n3
    have hT3 : upd G7 T3 (.tup [V.int 1, .int 2, .int 40]) T3 = some (.tup [V.int 1, .int 2, .int 40]) := upd_same
    have hD8 := s8.at hD7
    have S8 := S7.same s8
    have K8 := K7.trans (kept_same s8)
    generalize upd G7 T3 (.tup [V.int 1, .int 2, .int 40]) = G8 at hT3 hD8 S8 K8 ⊢
    refine ⟨T3, rfl, ⟨_, SqT.of hT3⟩, fun D2 nD2 => ?_⟩
    have bl : L.length + 3 ≤ sizeLine := Nat.le_trans (show _ ≤ 1000 by omega) (by decide)
    have dpL : ∀ {X : Hp} {b : Addr} (l : List Int), SqT K X b (l.map V.int) → Dp K X (.ref b) (intsD l) := fun l q => .tup q (dps_ofInts l)
    have q8 := q1' K8
    refine lc_it (walk_tup (K := K) (a := T3) (xs := [V.int 1, .int 2, .int 40])) (fun i Hc => ∃ acc, Hc D2 = some (.lst acc) ∧ Same G8 (Off D2 Hc) ∧ DpAll K (Off D2 Hc) acc (([1, 2, 40].take i).map fun k => intsD (putL L i1 (v1 + k)))) ⟨[], upd_same, off_newB nD2, .nil⟩ (fun i Hc _ ⟨_, _, sc', _⟩ => same_seqT (sc'.trans (off_sub D2 Hc)) (SqT.of hT3)) ?_ ?_
    · rintro i y Hc0 Hc hi ⟨acc, hA, sc', da⟩ ⟨rfl, hy⟩
      have hy' : ([1, 2, 40] : List Int)[i]? = some (([1, 2, 40] : List Int).getD i 0) := by
        match i, hi with
        | 0, _ => rfl
        | 1, _ => rfl
        | 2, _ => rfl
      have ey : y = .int (([1, 2, 40] : List Int).getD i 0) := by
        match i, hi, hy with
        | 0, _, h => cases h; rfl
        | 1, _, h => cases h; rfl
        | 2, _, h => cases h; rfl
      subst ey
      generalize ([1, 2, 40] : List Int).getD i 0 = kk at hy'
      have sC := sc'.trans (off_sub D2 Hc)
      have qC := same_seqT sC q8
      have al := dps_len da
      rw [List.length_map, List.length_take] at al
      refine ⟨rfl, _, rfl, ?_⟩
      dsimp only [tNoPart]
      refine ⟨_, rfl, _, rfl, slA_go qC fun b1 X1 sx1 qb1 => ?_⟩
      rw [cut_toN, ← List.map_take] at qb1
      refine ⟨_, rfl, _, rfl, pl, _, _, _, rfl, rfl, same_seqT sx1 qC, at1 g1, _, rfl, _, _, rfl, rfl, by show 1 ≤ sizeLine; decide, fun b2 nb2 => ?_⟩
      have sx2 := same_new (o := .tup [V.int (v1 + kk)]) nb2
      refine catA_go (same_seqT sx2 qb1) (SqT.of upd_same) (by rw [List.length_map, List.length_take]; show min i1 L.length + 1 ≤ _; omega) fun b3 X3 sx3 qb3 => ?_
      have sx13 := sx1.trans (sx2.trans sx3)
      refine ⟨_, rfl, _, rfl, _, _, rfl, rfl, _, rfl, ?_⟩
      dsimp only [tNoPart]
      refine slA_go (same_seqT sx13 qC) fun b4 X4 sx4 qb4 => ?_
      rw [show (i1 : Int) + 1 = ((i1 + 1 : Nat) : Int) from rfl, cut_fromN, ← List.map_drop] at qb4
      refine catA_go (same_seqT sx4 qb3) qb4 (by rw [List.length_append, List.length_map, List.length_map, List.length_take, List.length_drop]; show min i1 L.length + 1 + _ ≤ _; omega) fun b5 X5 sx5 qb5 => ?_
      have sx := sx13.trans (sx4.trans sx5)
      have qq : SqT K X5 b5 ((putL L i1 (v1 + kk)).map V.int) := by
        unfold putL
        rw [List.map_append, List.map_append]
        exact qb5
      have hA5 := sx.at hA
      refine ⟨acc, hA5, Nat.lt_of_le_of_lt (show acc.length ≤ 3 by rw [al]; exact Nat.min_le_right _ _) (by decide), acc ++ [.ref b5], upd_same, ?_, ?_⟩
      · rw [off_upd]
        exact sc'.trans (off_mono sx)
      · rw [off_upd, List.take_add_one, hy', List.map_append]
        exact dps_app (dps_same (off_mono sx) da) (.cons (dpL _ (sqt_offL9 hA5 qq)) .nil)
    rintro Hc ⟨acc, hA, sc', da⟩
    have sC := sc'.trans (off_sub D2 Hc)
    have da0 : DpAll K (Off D2 Hc) acc (([1, 2, 40] : List Int).map fun k => intsD (putL L i1 (v1 + k))) := da
    have da := dps_same (off_sub D2 Hc) da
    have al := dps_len da
    replace al : acc.length = 3 := al
    replace da : DpAll K Hc acc ([1, 2, 40].map fun k => intsD (putL L i1 (v1 + k))) := da
    have S9 := S8.same sC
    have K9 := K8.trans (kept_same sC)
    have hD9 := sC.at hD8
    have hAD : D2 ≠ D := fun e => by rw [e] at nD2; rw [nD2] at hD8; cases hD8
    have hD2s : D2 ≠ st := S8.ne nD2
    have hD2c : D2 ≠ sc := S8.ne2 nD2
    have nH : (Off st H) D2 = none := by
      cases e : (Off st H) D2 with
      | none => rfl
      | some o =>
        have z := (show Same (Off st H) (Off st G8) from K8).has D2 (by rw [e]; exact fun w => nomatch w)
        rw [off_ne hD2s] at z
        exact absurd nD2 z
    have K9' : Same (Off st H) (Off D2 (Off st Hc)) := by
      have e : Off D2 (Off st Hc) = Off st (Off D2 Hc) := by
        funext z
        by_cases e1 : z = st
        · rw [e1, off_same, off_ne hD2s.symm, off_same]
        · by_cases e2 : z = D2
          · rw [e2, off_same, off_ne hD2s, off_same]
          · rw [off_ne e2, off_ne e1, off_ne e1, off_ne e2]
      rw [e]
      exact (show Same (Off st H) (Off st G8) from K8).trans (off_mono sc')
    have qC := q1' K9
    refine ⟨_, rfl, .inl ⟨rfl, _, SqL.of hA⟩, _, rfl, ?_⟩
    dsimp only [tNoPart]
    refine ⟨_, rfl, _, rfl, slA_go qC fun b1 X1 sx1 qb1 => ?_⟩
    rw [cut_toN, ← List.map_take] at qb1
    refine ⟨_, rfl, _, rfl, pl, _, _, _, rfl, rfl, same_seqT sx1 qC, at1 g2, _, _, rfl, rfl, _, _, rfl, by show 1 ≤ sizeLine; decide, fun b2' nb2 => ?_⟩
    have sx2 := same_new (o := .tup [V.int (if v2 - 1 > 1 then v2 - 1 else 1)]) nb2
    refine catA_go (same_seqT sx2 qb1) (SqT.of upd_same) (by rw [List.length_map, List.length_take]; show min i2 L.length + 1 ≤ _; omega) fun b3' X3 sx3 qb3 => ?_
    have sx13 := sx1.trans (sx2.trans sx3)
    refine ⟨_, rfl, _, rfl, _, _, rfl, rfl, _, rfl, ?_⟩
    dsimp only [tNoPart]
    refine slA_go (same_seqT sx13 qC) fun b4 X4 sx4 qb4 => ?_
    rw [show (i2 : Int) + 1 = ((i2 + 1 : Nat) : Int) from rfl, cut_fromN, ← List.map_drop] at qb4
    refine catA_go (same_seqT sx4 qb3) qb4 (by rw [List.length_append, List.length_map, List.length_map, List.length_take, List.length_drop]; show min i2 L.length + 1 + _ ≤ _; omega) fun b5 X5 sx5 qb5 => ?_
    have sx := sx13.trans (sx4.trans sx5)
    have qq : SqT K X5 b5 ((putL L i2 (if v2 - 1 > 1 then v2 - 1 else 1)).map V.int) := by
      unfold putL
      rw [List.map_append, List.map_append]
      exact qb5
    have hA5 := sx.at hA
    refine ⟨D2, acc, _, rfl, rfl, hA5, Nat.lt_of_le_of_lt (show acc.length ≤ 3 by omega) (by decide), ?_⟩
    have K10 : Same (Off st H) (Off D2 (Off st (upd X5 D2 (.lst (acc ++ [.ref b5]))))) := by
      rw [off_updn hD2s, off_upd]
      exact K9'.trans (off_mono (off_mono sx))
    have K11 : Kept st H (upd X5 D2 (.lst (acc ++ [.ref b5]))) := K10.trans (off_sub D2 _)
    have S11 : Sto sc st _ (upd X5 D2 (.lst (acc ++ [.ref b5]))) := (S9.same sx).other hD2s hD2c
    have hA11 : upd X5 D2 (.lst (acc ++ [.ref b5])) D2 = some (.lst (acc ++ [.ref b5])) := upd_same
    have hD11 : upd X5 D2 (.lst (acc ++ [.ref b5])) D = some (.lst (((L.set i1 v2).set i2 v1).map V.int)) := by
      rw [upd_ne hAD.symm]
      exact sx.at hD9
    have da11 : DpAll K (Off D2 (upd X5 D2 (.lst (acc ++ [.ref b5])))) (acc ++ [.ref b5]) ((([1, 2, 40] : List Int).map fun k => intsD (putL L i1 (v1 + k))) ++ [intsD (putL L i2 (if v2 - 1 > 1 then v2 - 1 else 1))]) := by
      rw [off_upd]
      refine dps_app ?_ (.cons (dpL _ (sqt_offL9 hA5 qq)) .nil)
      exact dps_same (off_mono sx) da0
    replace da11 := dps_same (off_sub D2 _) da11
    generalize upd X5 D2 (.lst (acc ++ [.ref b5])) = G11 at K11 S11 hA11 hD11 da11 ⊢
    obtain ⟨_, _, _, _, _, hst, _⟩ := S11.ex
    have da12 : DpAll K (Off st G11) (acc ++ [.ref b5]) (([putL L i1 (v1 + 1), putL L i1 (v1 + 2), putL L i1 (v1 + 40), putL L i2 (if v2 - 1 > 1 then v2 - 1 else 1)]).map intsD) := dps_offI hst da11
    refine ⟨_, rfl, _, rfl, D, _, rfl, .inl ⟨SqL.of hD11, fun t nt => ?_⟩⟩
    have st12 := same_new (o := .tup (((L.set i1 v2).set i2 v1).map V.int)) nt
    have hts : t ≠ st := S11.ne nt
    have S12 := S11.same st12
    have K12' := K11.trans (kept_same st12)
    have ht12 : SqT K (Off st (upd G11 t (.tup (((L.set i1 v2).set i2 v1).map V.int)))) t (((L.set i1 v2).set i2 v1).map V.int) := SqT.of (by rw [off_ne hts]; exact upd_same)
    have hA12 := st12.at hA11
    have da13 := dps_same (show Same (Off st G11) (Off st _) from kept_same st12) da12
    generalize upd G11 t (.tup (((L.set i1 v2).set i2 v1).map V.int)) = G12 at S12 K12' ht12 hA12 da13 ⊢
    refine ⟨_, rfl, _, rfl, pl, _, rfl, .inr (q1' K12'), st, sc, _, _, 15, rfl, S12, by omega, by omega, by omega, by decide, by decide, fun tl L' G13 S13 K13' dl' len' bL' => ?_⟩
    have da14 := dps_same (show Same (Off st G12) (Off st G13) from K13') da13
    have ht14 := same_seqT (show Same (Off st G12) (Off st G13) from K13') ht12
    have hA14 : G13 D2 = some (.lst (acc ++ [.ref b5])) := K13'.at hA12 hD2s
    have K14 := K12'.trans K13'
    refine ⟨_, rfl, by show 3 ≤ sizeLine; decide, fun e ne => ?_⟩
    have s14 := same_new (o := .lst [V.ref t, .ref tl, .ref pl]) ne
    refine ⟨D2, e, _, _, rfl, rfl, s14.at hA14, upd_same, by rw [List.length_append]; exact Nat.le_trans (show acc.length + 1 + 3 ≤ 1000 by omega) (by decide), fun p np => ?_⟩
    have s15 := s14.trans (same_new (o := .lst ((acc ++ [V.ref b5]) ++ [V.ref t, .ref tl, .ref pl])) np)
    have K15 := K14.trans (kept_same s15)
    have kk : Same (Off st G13) (Off st _) := kept_same s15
    refine k p _ ([putL L i1 (v1 + 1), putL L i1 (v1 + 2), putL L i1 (v1 + 40), putL L i2 (if v2 - 1 > 1 then v2 - 1 else 1)] ++ [(L.set i1 v2).set i2 v1, L', L]) _ ((S13.same s15).more (by omega)) K15 upd_same ?_ ?_
    · rw [List.map_append]
      refine dps_app (dps_same kk da14) (.cons (.tup (same_seqT kk ht14) (dps_ofInts _)) (.cons (dp_same kk dl') (.cons (.tup (q1 K15) (dps_ofInts _)) .nil)))
    · intro o ho
      rw [List.length_map] at len'
      have lens : L'.length = L.length := by omega
      have inL : ∀ x ∈ (L.set i1 v2).set i2 v1, 1 ≤ x ∧ x ≤ 600 := fun x hx => by
        rcases List.mem_or_eq_of_mem_set hx with h | h
        · rcases List.mem_or_eq_of_mem_set h with h | h
          · exact bL x h
          · rw [h]; exact vb2
        · rw [h]; exact vb1
      rcases List.mem_append.mp ho with h | h
      · simp only [List.mem_cons, List.not_mem_nil, or_false] at h
        rcases h with rfl | rfl | rfl | rfl
        · exact putL_ok h1 bL (by omega)
        · exact putL_ok h1 bL (by omega)
        · exact putL_ok h1 bL (by omega)
        · refine putL_ok h2 bL ?_
          split <;> omega
      · simp only [List.mem_cons, List.not_mem_nil, or_false] at h
        rcases h with rfl | rfl | rfl
        · refine ⟨by rw [List.length_set, List.length_set], fun x hx => ?_⟩
          have := inL x hx
          omega
        · refine ⟨lens, fun x hx => ?_⟩
          have := bL' x hx
          omega
        · refine ⟨rfl, fun x hx => ?_⟩
          have := bL x hx
          omega
end
end Vk
set_option maxHeartbeats 8000000
/-! run, log_of, finish_units -/
namespace Vk
open PySem PySem.Spec PyProof.Rows L2 GxR
section
variable {P : Program} {w : World} {K : PySem.W.Frag} {mg : Str → Option Value} {base : Heap} {CC CB : Addr}
abbrev NFU : List Str := ["jobs", "lengths", "rule", "processors", "course", "units", "unit", "_", "leaving", "name", "job"]
def spFinF (K : PySem.W.Frag) (T : Addr) : Sp := fun vs H Q _ => ∃ (jv lv rv : V) (c : Int) (r : Rl) (nd : Str → Int) (J : List Jd), vs = [jv, lv, rv, .int c] ∧ RunAt K H T jv lv rv c r nd J ∧ ∀ (U : Nat) (t : Addr) (H' : Hp), EndAt r c nd J U → Same H H' → Dp K H' (.ref t) (.tuple (J.map fun j => .int (getS (finS ((Cs.zero r J).at r c nd U).s) j.n))) → Q (.ref t) H'
theorem scFinF : FnScope NFU PRW (defScope sFinish) := ⟨rfl, rfl, rfl, by decide +kernel, rfl, by decide +kernel, by decide +kernel⟩
theorem okE_finF {T : Addr} {R : FuncData → Prop} (D : DfE K mg "finish_units" sFinish R) (mt : mg "tuple" = none) (TC : CoC K CC) (TB : BdC K CB) (CH : Cl P w K mg base CX0 6 "checked_course" PRW (spChecked K T CC CB)) : ClE P w K mg base CX0 7 "finish_units" PRW (spFinF K T) R := by
  refine clE0 D scFinF (fun vs H Q E h => ?_) (fun f cdv A outer s H vs Q E hr h => ?_)
  · obtain ⟨jv, lv, rv, c, r, nd, J, rfl, _⟩ := h
    rfl
  · obtain ⟨jv, lv, rv, c, r, nd, J, rfl, R, k⟩ := h
    refine ⟨_, pss_cons (ps_set (i := 4) scFinF.nd rfl (Or.inl rfl) (pc CH hr (by decide) (pa_cons (pv 0) (pa_cons (pv 1) (pa_cons (pv 2) (pa_cons (pv 3) pa_nil))))))
      (pss_cons (ps_set (i := 5) scFinF.nd rfl (Or.inr rfl) (pe_dc2 (own := [("unit", 6), ("_", 7), ("leaving", 8), ("name", 9)]) (vj := [9]) (g := gTup K 3 (gCons (gName 6) (gCons (gName 7) (gCons (gName 8) gNil)))) (tt := tYes) (wj := iTup K (tVar 8)) (gj := gName 9) (tj := tYes) (tk := tVar 9) (tv := tVar 6) (by rfl) scFinF.nd (pi_list (pe_fld (pe_fld (pv 4) rfl) rfl))
        (blkOk_by (own := [("unit", 6), ("_", 7), ("leaving", 8), ("name", 9)]) (N := NFU) (sc := defScope sFinish) (by decide +kernel)) (by decide) (fun _ _ _ _ _ => pg_tup rfl (pgs_cons (pg_name (i := 6) scFinF.nd rfl (Or.inl rfl)) (pgs_cons (pg_name (i := 7) scFinF.nd rfl (Or.inl rfl)) (pgs_cons (pg_name (i := 8) scFinF.nd rfl (Or.inl rfl)) pgs_nil)))) (fun _ _ _ _ _ => pts_nil)
        (fun _ _ _ _ _ => pi_tup (pv 8)) (fun _ _ _ _ _ => pg_name (i := 9) scFinF.nd rfl (Or.inl rfl)) (fun _ _ _ _ _ => pts_nil) (fun _ _ _ _ _ => pv 9) (fun _ _ _ _ _ => pv 6)))
      (pss_one (ps_ret (pe_callTy call_tuple_of (by rfl) mt (by decide +kernel) (pa_cons (pe_lc (own := [("job", 10)]) (g := gName 10) (tt := tYes) (te := tDGet (tVar 5) (tOp (rIxT K) (tVar 10) (tC (.int 0)))) (by rfl) scFinF.nd (pi_tup (pv 0)) (blkOk_by (own := [("job", 10)]) (N := NFU) (sc := defScope sFinish) (by decide +kernel))
          (fun _ _ _ _ _ => pg_name (i := 10) scFinF.nd rfl (Or.inl rfl)) (fun _ _ _ _ _ => pts_nil) (fun _ _ _ _ _ => pe_dget (hu_of hr) (pv 5) (pe_ix ix_tup (pv 10) pe_int (fun _ _ => rfl)) (fun _ _ => rfl))) pa_nil))))), ?_⟩
    refine ⟨_, rfl, _, rfl, _, rfl, _, rfl, jv, lv, rv, c, r, nd, J, rfl, R.dj, R.dl, R.dr, R.ok, R.tg, fun a N U ps H1 W fr S => ?_⟩
    obtain ⟨z1, z2⟩ := Cs.zero_ok (r := r) R.ok.rok R.ok.jok
    have okU := (Cs.at_ok (c := c) R.ok.rok R.ok.jok z1 z2 U).1
    have wa := W.at_
    have don := W.don
    have afin := all_fin okU don
    have endU : EndAt r c nd J U := ⟨W.don, W.first⟩
    have kU := k U
    generalize (Cs.zero r J).at r c nd U = C at okU wa afin kU
    have ok := okU.bd
    have B := wa.bd
    obtain ⟨xs, fF, dF⟩ := B.fins
    have xl := dps_len dF
    rw [List.length_map] at xl
    refine ⟨_, rfl, a, CC, N.dn, _, _, rfl, wa.ob, TC.cl, TC.nB, cf_board, N.b, CB, N.A.dx, _, _, rfl, B.ob, TB.cl, TB.nF, bf_fins, N.A.F, rfl, ⟨_, SqL.of fF⟩, fun D nD => ?_⟩
    have all : (C.s.fins.flatMap fun f => f.2.2).length ≤ 1000 := by
      refine Nat.le_trans (nd_len (m := C.s.ran.map (·.1)) ok.ndf fun x hx => ?_) (by rw [List.length_map]; exact ok.small)
      obtain ⟨fi, h1, h2⟩ := List.mem_flatMap.mp hx
      exact (ok.fst fi h1).2.2 x h2
    have part : ∀ l : List (Int × List Str × List Str), (l.flatMap fun f => f.2.2.map fun y => (y, f.1)).length = (l.flatMap fun f => f.2.2).length := fun l => by
      induction l with
      | nil => rfl
      | cons f l ih => rw [List.flatMap_cons, List.flatMap_cons, List.length_append, List.length_append, List.length_map, ih]
    refine dc2_it (walk_list (K := K) (a := N.A.F) (xs := xs)) (fun i Hc => Hc D = some (.dK (kvS ((C.s.fins.take i).flatMap fun f => f.2.2.map fun y => (y, f.1)))) ∧ Same H1 (Off D Hc)) ⟨upd_same, off_newB nD⟩ (fun i Hc _ ⟨_, sc⟩ => SqL.of ((sc.trans (off_sub D Hc)).at fF)) ?_ ?_
    · rintro i y Hc0 Hc hi ⟨hD, sc⟩ ⟨rfl, hy⟩
      obtain ⟨d, hd, dd⟩ := dps_getV dF hy
      rw [List.getElem?_map] at hd
      obtain ⟨fi, hfi, rfl⟩ := Option.map_eq_some_iff.mp hd
      have sC := sc.trans (off_sub D Hc)
      obtain ⟨p, x, yv, z, rfl, q, dx, dy, dz⟩ := dp_threeB (dp_same (offL_sub (ftB N.b N.A) H1) dd)
      have ex := dp_int dx
      subst ex
      obtain ⟨pl, vl, rfl, ql, rl⟩ := dp_tuple dz
      have ev := strs_dps rl
      subst ev
      have tk : (C.s.fins.take (i + 1)).flatMap (fun f => f.2.2.map fun y => (y, f.1)) = (C.s.fins.take i).flatMap (fun f => f.2.2.map fun y => (y, f.1)) ++ fi.2.2.map fun y => (y, fi.1) := by
        rw [List.take_add_one, hfi, List.flatMap_append]
        simp
      have tk0 : (C.s.fins.take (i + 1)).flatMap (fun f => f.2.2) = (C.s.fins.take i).flatMap (fun f => f.2.2) ++ fi.2.2 := by
        rw [List.take_add_one, hfi, List.flatMap_append]
        simp
      have whole : C.s.fins.flatMap (fun f => f.2.2) = (C.s.fins.take i).flatMap (fun f => f.2.2) ++ (fi.2.2 ++ (C.s.fins.drop (i + 1)).flatMap (fun f => f.2.2)) := by
        have z : C.s.fins = C.s.fins.take (i + 1) ++ C.s.fins.drop (i + 1) := (List.take_append_drop _ _).symm
        rw [← List.append_assoc, ← tk0, ← List.flatMap_append, ← z]
      have nd := ok.ndf
      rw [whole] at nd all
      have keyT : ((C.s.fins.take i).flatMap fun f => f.2.2.map fun y => (y, f.1)).map (·.1) = (C.s.fins.take i).flatMap fun f => f.2.2 := by
        rw [List.map_flatMap]
        congr 1
        funext f
        rw [List.map_map]
        exact List.map_id _
      refine ⟨p, _, rfl, same_seqT sC q, rfl, _, _, rfl, _, _, rfl, _, _, rfl, rfl, rfl, ?_⟩
      refine ⟨_, rfl, pl, rfl, ⟨_, same_seqT sC ql⟩, ?_⟩
      refine dc_it (walk_tup (K := K) (a := pl) (xs := fi.2.2.map V.str)) (fun j Hd => Hd D = some (.dK (kvS (((C.s.fins.take i).flatMap fun f => f.2.2.map fun y => (y, f.1)) ++ (fi.2.2.take j).map fun y => (y, fi.1)))) ∧ Same H1 (Off D Hd)) ⟨by rw [List.take_zero, List.map_nil, List.append_nil]; exact hD, sc⟩ (fun j Hd _ ⟨_, sd⟩ => same_seqT (sd.trans (off_sub D Hd)) ql) ?_ ?_
      · rintro j z Hd0 Hd hj ⟨hDd, sd⟩ ⟨rfl, hz⟩
        rw [List.getElem?_map] at hz
        obtain ⟨x, hx, rfl⟩ := Option.map_eq_some_iff.mp hz
        have xn : x ∉ (((C.s.fins.take i).flatMap fun f => f.2.2.map fun y => (y, f.1)) ++ (fi.2.2.take j).map fun y => (y, fi.1)).map (·.1) := by
          rw [List.map_append, keyT, List.map_map]
          have e : (fi.2.2.take j).map ((fun p : Str × Int => p.1) ∘ fun y => (y, fi.1)) = fi.2.2.take j := List.map_id _
          rw [e]
          intro hm
          have z : fi.2.2 = fi.2.2.take j ++ x :: fi.2.2.drop (j + 1) := by
            obtain ⟨h1, h2⟩ := List.getElem?_eq_some_iff.mp hx
            rw [← h2, List.getElem_cons_drop h1, List.take_append_drop]
          rw [z, ← List.append_assoc, ← List.append_assoc] at nd
          have nd2 := (List.nodup_append.mp (List.nodup_append.mp nd).1).2.2
          exact nd2 x hm x (List.mem_cons_self ..) rfl
        refine ⟨rfl, _, rfl, _, rfl, _, .inr x, rfl, hDd, ?_, ?_, ?_⟩
        · unfold kvS
          rw [List.length_map, List.length_append, part, List.length_map, List.length_take]
          rw [List.length_append, List.length_append] at all
          exact Nat.lt_of_le_of_lt (show _ ≤ 1000 by omega) (by decide)
        · rw [upd_same, putK_new_S xn, List.take_add_one, hx]
          simp
        · rw [off_upd]
          exact sd
      · rintro Hd ⟨hDd, sd⟩
        rw [List.length_map, List.take_length] at hDd
        exact ⟨by rw [tk]; exact hDd, sd⟩
    rintro H2 ⟨hD, sc⟩
    rw [xl, List.take_length] at hD
    have s12 := S.trans ((offL_sub (ftC a N) H1).trans (sc.trans (off_sub D H2)))
    obtain ⟨pj, ys, rfl, qj, rj⟩ := dp_tuple R.dj
    have yl := dps_len rj
    rw [List.length_map] at yl
    have j900 := R.ok.len
    refine ⟨_, rfl, pj, rfl, ⟨_, same_seqT s12 qj⟩, fun D3 nD3 => ?_⟩
    refine lc_it (walk_tup (K := K) (a := pj) (xs := ys)) (fun i Hc => Hc = upd H2 D3 (.lst ((J.take i).map fun j => V.int (getS (finS C.s) j.n)))) rfl (fun i Hc _ e => by rw [e]; exact same_seqT (s12.trans (same_new nD3)) qj) ?_ ?_
    · rintro i y Hc0 Hc hi rfl ⟨rfl, hy⟩
      obtain ⟨d, hd, dd⟩ := dps_getV rj hy
      rw [List.getElem?_map] at hd
      obtain ⟨j, hj, rfl⟩ := Option.map_eq_some_iff.mp hd
      obtain ⟨p, x1, x2, x3, rfl, q, e1, e2, e3⟩ := dp_threeB dd
      have e1 := dp_str e1
      subst e1
      have s3 := same_new (o := .lst ((J.take i).map fun j => V.int (getS (finS C.s) j.n))) nD3
      refine ⟨rfl, _, rfl, _, rfl, p, _, _, _, rfl, rfl, same_seqT (s12.trans s3) q, rfl, D, .int (getS (finS C.s) j.n), rfl, ?_, ?_⟩
      · have z := DGet.k (k := (.inr j.n : Key)) (s3.at hD)
        have e : (C.s.fins.flatMap fun f => f.2.2.map fun y => (y, f.1)) = finS C.s := rfl
        rw [e, valS, lookS (afin j (List.mem_of_getElem? hj))] at z
        exact z
      · refine ⟨_, upd_same, ?_, ?_⟩
        · rw [List.length_map, List.length_take]
          exact Nat.lt_of_le_of_lt (show _ ≤ 1000 by omega) (by decide)
        · rw [upd_upd, List.take_add_one, hj, List.map_append]
          rfl
    rintro Hc rfl
    rw [yl, List.take_length]
    have s3 := same_new (o := .lst (J.map fun j => V.int (getS (finS C.s) j.n))) nD3
    refine ⟨D3, _, rfl, .inl ⟨SqL.of upd_same, fun t nt => ?_⟩⟩
    have st := same_new (o := .tup (J.map fun j => V.int (getS (finS C.s) j.n))) nt
    refine kU t _ endU (s12.trans (s3.trans st)) (.tup (SqT.of upd_same) ?_)
    have gen : ∀ {X : Hp} (l : List Jd), DpAll K X (l.map fun j => V.int (getS (finS C.s) j.n)) (l.map fun j => PyData.int (getS (finS C.s) j.n)) := fun {X} l => by
      induction l with
      | nil => exact .nil
      | cons j l ih => exact .cons (.int _) ih
    exact gen J
theorem ok_finF {T : Addr} (D : DfM K mg "finish_units" sFinish PRW 2 ["rule", "processors"] (fun vs zs => vs ++ zs)) (mt : mg "tuple" = none) (TC : CoC K CC) (TB : BdC K CB) (CH : Cl P w K mg base CX0 6 "checked_course" PRW (spChecked K T CC CB)) : ClM P w K mg base CX0 7 "finish_units" PRW 2 ["rule", "processors"] (fun vs zs => vs ++ zs) (spFinF K T) := (okE_finF D.toE mt TC TB CH).toM
end
end Vk
set_option maxHeartbeats 16000000
/-! the law -/
namespace Vk
open PySem PySem.Spec PyProof.Rows L2 GxR RZ
theorem fdM_comm {N1 N2 : Nat → List Str} {T1 T2 : Nat} : ∀ {R1 R2 : List Pc} {s : Nat}, RowsN N1 s R1 T1 → RowsN N2 s R2 T2 → fdM R1 R2 = fdM R2 R1
  | [], [], _, _, _ => rfl
  | [], _ :: _, _, _, _ => rfl
  | _ :: _, [], _, _, _ => rfl
  | p :: r, q :: t, s, ⟨m, g1, g2, g3, g4, g5, g6⟩, ⟨n, f1, f2, f3, f4, f5, f6⟩ => by
    rw [fdM_cons, fdM_cons]
    by_cases e : p.2.2 = q.2.2
    · rw [if_pos e, if_pos e.symm]
      by_cases l : p.2.1 = q.2.1
      · rw [if_pos l, if_pos l.symm]
        have emn : m = n := by rw [g2, f2] at l; omega
        subst emn
        exact fdM_comm g6 f6
      · rw [if_neg l, if_neg (fun h => l h.symm), Int.min_comm]
    · rw [if_neg e, if_neg (fun h => e h.symm), g1, f1]
theorem RowsN.ends {N : Nat → List Str} : ∀ {R : List Pc} {s e : Nat}, RowsN N s R e → ∀ p ∈ R, 0 ≤ p.2.1
  | [], _, _, _, _, h => nomatch h
  | a :: r, s, e, ⟨m, g1, g2, g3, g4, g5, g6⟩, p, h => by
    rcases List.mem_cons.mp h with w | h
    · rw [w, g2]
      omega
    · exact RowsN.ends g6 p h
theorem seg_strs {r : Rl} {c : Int} {nd : Str → Int} {J : List Jd} (ro : RunOk nd J r c) (T : Nat) : ∀ p ∈ segN r c nd J T, ∀ x ∈ p.2.2, PyData.strOk x = true := by
  intro p hp x hx
  obtain ⟨k, hk⟩ := RowsN.mem (rows_segU ((Cs.zero r J).names r c nd) T) p hp
  rw [← hk] at hx
  have ok := ro.at_ok k
  obtain ⟨j, hj, rfl⟩ := List.mem_map.mp (ok.keys x (ok.bd.sub x (Bd.run_sub x hx)))
  exact ro.jn.ok hj
/-- the due unit, and that it lies behind a finish that differs -/
theorem due_ok {r : Rl} {c : Int} {nd nd' : Str → Int} {J : List Jd} {T T' : Nat} (ro : RunOk nd J r c) (ro' : RunOk nd' J r c) (e : EndAt r c nd J T) (e' : EndAt r c nd' J T') {l : List Int} (hp : l.Pairwise (· ≤ ·)) (mem : ∀ y, y ∈ l ↔ y = 1 ∨ ∃ p, (p ∈ segN r c nd J T ∨ p ∈ segN r c nd' J T') ∧ y = p.2.1 + 1) (pos : ∀ y ∈ l, 1 ≤ y) :
    l.find? (fun u => decide (namesIn (segN r c nd J T) u ≠ namesIn (segN r c nd' J T') u)) = fdM (segN r c nd J T) (segN r c nd' J T') :=
  first_ok (two_runs ro ro' e e') (rows_segU _ T) (rows_segU _ T') hp mem pos
theorem due_behind {r : Rl} {c : Int} {nd nd' : Str → Int} {J : List Jd} {T T' : Nat} (ro : RunOk nd J r c) (ro' : RunOk nd' J r c) (e : EndAt r c nd J T) (e' : EndAt r c nd' J T') {u : Int} (h : fdM (segN r c nd J T) (segN r c nd' J T') = some u) :
    ∃ j ∈ J, finU r c nd J T j.n ≠ finU r c nd' J T' j.n ∧ min (finU r c nd J T j.n) (finU r c nd' J T' j.n) < u := by
  have f := fdM_ok (two_runs ro ro' e e') (rows_segU _ T) (rows_segU _ T') (fun k hk => absurd hk (Nat.not_lt_zero _))
  have h2 : fdM (segU (fun a b => decide (a = b)) ((Cs.zero r J).names r c nd) T) (segU (fun a b => decide (a = b)) ((Cs.zero r J).names r c nd') T') = some u := h
  rw [h2] at f
  obtain ⟨d, rfl, _, ne, _⟩ := f
  exact split_behind ro ro' e e' ne
theorem fd_comm {r : Rl} {c : Int} {nd nd' : Str → Int} {J : List Jd} {T T' : Nat} : fdM (segN r c nd J T) (segN r c nd' J T') = fdM (segN r c nd' J T') (segN r c nd J T) := fdM_comm (rows_segU _ T) (rows_segU _ T')
abbrev NL19 : List Str := ["script", "store", "jobs", "lengths", "policy", "cores", "rows", "ends", "others", "due", "other_ends", "apart", "one", "two"]
section
variable {P : Program} {w : World} {K : PySem.W.Frag} {mg : Str → Option Value} {base : Heap}
def spLaw (K : PySem.W.Frag) (T : Addr) : Sp := fun vs H Q _ => ∃ (a : Addr) (ns : List Int), vs = [.ref a] ∧ SqL K H a (ns.map V.int) ∧ ns.length ≤ 63 ∧ TabG H T ∧ ∀ H', Q (.bl true) H'
theorem scLaw : FnScope NL19 ["script"] (defScope sLaw) := ⟨rfl, rfl, rfl, by decide +kernel, rfl, by decide +kernel, by decide +kernel⟩
theorem passA0 {X : Cx} (σ : L2.St) : PassesAt CX0 X σ E0 := fun pins H s e s' I h => pass0 pins σ H s e s' I h
theorem passAc {X : Cx} (σ : L2.St) : PassesAt (L2.CX X.prog X.w) X σ E0 := fun pins H s e s' I h => passE0c pins σ H s e s' I h
abbrev gAll : List V → List V → List V := fun vs zs => vs ++ zs
theorem ok_law {f T Cn : Addr} {fd : FuncData} (F : Fun K "law" "law" sLaw f fd) (B : Blt mg) (mZ : mg "zip" = none) (mn : mg "min" = none) (ST : Cl P w K mg base CX0 1 "_law_store" ["script"] (spStore K)) (PK : Cl P w K mg base CX0 2 "_law_pick" ["store", "count"] spPick)
    (JB : Cl P w K mg base CX0 4 "_law_jobs" ["store", "most", "late"] (spJobs K)) (LQ : Cl P w K mg base CX0 3 "_law_lengths" ["store", "count", "most"] (spLqs K)) (RU : Cl P w K mg base CX0 3 "_law_rule" ["store"] (spRule K))
    (OT : Cl P w K mg base CX0 4 "_law_others" ["store", "lengths"] (spOthers K)) (FL : Cl P w K mg base CX0 2 "_law_first" ["one", "two"] (spFirstL K)) (SH : Cl P w K mg base CX0 8 "_law_short_right" ["jobs", "lengths", "policy"] (spShort K T))
    (RO : ClE P w K mg base CX0 7 "run" PRW (spRunS K T) (RAll K PRW 2 ["rule", "processors"] gAll)) (FO : ClE P w K mg base CX0 7 "finish_units" PRW (spFinF K T) (RAll K PRW 2 ["rule", "processors"] gAll))
    (SO : ClE P w K mg base (L2.CX P w) 7 "first_split" PSP (spSplit K T Cn) (RAll K PSP 3 ["rule", "processors"] gAll)) :
    FnOk P w K mg base CX0 9 f fd ["script"] (spLaw K T) := by
  refine F.ok scLaw (fun vs H Q E h => ?_) (fun cdv A outer s0 H vs Q E hr h => ?_)
  · obtain ⟨a, ns, rfl, _⟩ := h
    rfl
  · obtain ⟨a, ns, rfl, ha, nl, tg, k⟩ := h
    obtain ⟨fR, fdR, mR, kpR, ⟨gR, kbR⟩, FR⟩ := RO.ex
    obtain ⟨fF, fdF, mF, kpF, ⟨gF, kbF⟩, FF⟩ := FO.ex
    obtain ⟨fU, fdU, mU, kpU, ⟨gU, kbU⟩, FU⟩ := SO.ex
    have main : ∃ t, PSs (cxOf CX0 P w K mg base NL19 "law" (defScope sLaw) f cdv A outer s0 H E).nox (defBody sLaw) t ∧ t { nx := fun _ H' => Q .non H', rt := Q } (start NL19 [.ref a]) H := by
      refine ⟨_, pss_cons (ps_set (i := 1) scLaw.nd rfl (Or.inl rfl) (pc ST hr (by decide) (pa_cons (pv 0) pa_nil)))
        (pss_cons (ps_set (i := 2) scLaw.nd rfl (Or.inl rfl) (pc JB hr (by decide) (pa_cons (pv 1) (pa_cons pe_int (pa_cons pe_int pa_nil)))))
        (pss_cons (ps_set (i := 3) scLaw.nd rfl (Or.inl rfl) (pc LQ hr (by decide) (pa_cons (pv 1) (pa_cons (pe_callB call_len_seq (by rfl) B.len PySem.boot_len (pa_cons (pv 2) pa_nil)) (pa_cons pe_int pa_nil)))))
        (pss_cons (ps_set (i := 4) scLaw.nd rfl (Or.inl rfl) (pc RU hr (by decide) (pa_cons (pv 1) pa_nil)))
        (pss_cons (ps_set (i := 5) scLaw.nd rfl (Or.inl rfl) (pe_ix ix_list (pe_lst (pa_cons pe_int (pa_cons (pe_op op_add pe_int (pc PK hr (by decide) (pa_cons (pv 1) (pa_cons pe_int pa_nil)))) (pa_cons (pe_op op_add pe_int (pc PK hr (by decide) (pa_cons (pv 1) (pa_cons pe_int pa_nil)))) pa_nil)))) (pc PK hr (by decide) (pa_cons (pv 1) (pa_cons pe_int pa_nil))) (fun _ _ => rfl)))
        (pss_cons (ps_set (i := 6) scLaw.nd rfl (Or.inl rfl) (pe_callM (ex := fun _ => E0) FR (hr.mono (by decide)) rfl mR kpR kbR passA0 (pa_cons (pv 2) (pa_cons (pv 3) pa_nil)) (pk_cons (pv 4) (pk_cons (pv 5) pk_nil))))
        (pss_cons (ps_set (i := 7) scLaw.nd rfl (Or.inl rfl) (pe_callM (ex := fun _ => E0) FF (hr.mono (by decide)) rfl mF kpF kbF passA0 (pa_cons (pv 2) (pa_cons (pv 3) pa_nil)) (pk_cons (pv 4) (pk_cons (pv 5) pk_nil))))
        (pss_cons (ps_for PassesOwn.never rfl (pi_list (pc OT hr (by decide) (pa_cons (pv 1) (pa_cons (pv 3) pa_nil)))) (pg_name (i := 8) scLaw.nd rfl (Or.inl rfl))
          (pss_cons (ps_set (i := 9) scLaw.nd rfl (Or.inl rfl) (pc FL hr (by decide) (pa_cons (pv 6) (pa_cons (pe_callM (ex := fun _ => E0) FR (hr.mono (by decide)) rfl mR kpR kbR passA0 (pa_cons (pv 2) (pa_cons (pv 8) pa_nil)) (pk_cons (pv 4) (pk_cons (pv 5) pk_nil))) pa_nil))))
          (pss_cons (ps_if (pt_cmpR op_ne (pe_callM (ex := fun _ => E0) FU (hr.mono (by decide)) rfl mU kpU kbU passAc (pa_cons (pv 2) (pa_cons (pv 3) (pa_cons (pv 8) pa_nil))) (pk_cons (pv 4) (pk_cons (pv 5) pk_nil))) (pv 9) (nomark _)) (pss_one (ps_ret pe_bl)) pss_nil)
          (pss_cons (ps_if (pt_cmpR op_ne (pe_callM (ex := fun _ => E0) FU (hr.mono (by decide)) rfl mU kpU kbU passAc (pa_cons (pv 2) (pa_cons (pv 8) (pa_cons (pv 3) pa_nil))) (pk_cons (pv 4) (pk_cons (pv 5) pk_nil))) (pv 9) (nomark _)) (pss_one (ps_ret pe_bl)) pss_nil)
          (pss_cons (ps_set (i := 10) scLaw.nd rfl (Or.inl rfl) (pe_callM (ex := fun _ => E0) FF (hr.mono (by decide)) rfl mF kpF kbF passA0 (pa_cons (pv 2) (pa_cons (pv 8) pa_nil)) (pk_cons (pv 4) (pk_cons (pv 5) pk_nil))))
          (pss_cons (ps_setLc (i := 11) (own := [("one", 12), ("two", 13)]) (g := gTup K 2 (gCons (gName 12) (gCons (gName 13) gNil))) (tt := tTest (tOp rNe (tVar 12) (tVar 13))) (te := tCB (fun xs H Q => ∃ i j, xs = [V.int i, V.int j] ∧ Q (V.int (if j < i then j else i)) H) (tCons (tVar 12) (tCons (tVar 13) tNil))) rfl scLaw.nd rfl rfl (sw_true rfl rfl rfl (by decide +kernel)) (pi_zipA (by rfl) mZ (pa_cons (pv 7) (pa_cons (pv 10) pa_nil))) (blkOk_by (own := [("one", 12), ("two", 13)]) (N := NL19) (sc := defScope sLaw) (by decide +kernel))
              (fun _ _ _ _ _ => pg_tup rfl (pgs_cons (pg_name (i := 12) scLaw.nd rfl (.inl rfl)) (pgs_cons (pg_name (i := 13) scLaw.nd rfl (.inl rfl)) pgs_nil))) (fun _ _ _ _ _ => pts_one (pt_cmpR op_ne (pv 12) (pv 13) (nomark _))) (fun _ _ _ _ _ => pe_callB (call_min2 rfl) (by rfl) mn (by decide +kernel) (pa_cons (pv 12) (pa_cons (pv 13) pa_nil))))
          (pss_one (ps_if (PW.pt (pw_and (pt_cmpR op_notN (pv 9) pe_non (nomark _)) (pw_and1 (PW.pt (pw_or (pt_cmpR (op_eqNilL hr.units0) (pv 11) (pe_lst pa_nil) (nomark _)) (pw_or1 (pt_cmpR op_le (pv 9) (pe_callB (cr_min rfl) (by rfl) mn (by decide +kernel) (pa_cons (pv 11) pa_nil)) (nomark _)))))))) (pss_one (ps_ret pe_bl)) pss_nil))))))))
        (pss_one (ps_ret (pe_or (pe_cmpR (op_eqD hr.units) (pv 2) (pe_tup pa_nil) (nomark _)) (pe_one (pc SH hr (by decide) (pa_cons (pv 2) (pa_cons (pv 3) (pa_cons (pv 4) pa_nil))))))))))))))), ?_⟩
      refine ⟨_, rfl, a, ns, rfl, ha, nl, fun st sc H1 s1 nst S1 => ?_⟩
      have tg1 := s1.tab T tg
      have tabK : ∀ {X Y : Hp} {n : Int}, Sto sc st n X → Kept st X Y → TabG X T → TabG Y T := fun {X Y n} SX kk t => (off_sub st Y).tab T ((show Same (Off st X) (Off st Y) from kk).tab T (SX.tab t))
      -- jobs
      refine ⟨_, rfl, st, sc, 0, 12, 20, rfl, S1.more (by omega), by decide, by decide, by decide, by decide, by decide, fun v js G1 SG1 KG1 dv okj l12 fine bn => ?_⟩
      have tG1 := tabK S1 KG1 tg1
      obtain ⟨J, rfl⟩ := jds_of okj
      rw [List.length_map] at l12
      -- lengths
      obtain ⟨pj, xs, rfl, qj, rj⟩ := dp_tuple dv
      have xl := dps_len rj
      rw [List.length_map] at xl
      refine ⟨_, rfl, _, rfl, pj, xs, rfl, .inr (same_seqT (off_sub st G1) qj), st, sc, _, _, 15, rfl, SG1, by omega, by omega, by omega, by decide, by decide, fun tl L G2 SG2 KG2 dl lenL bL => ?_⟩
      have tG2 := tabK SG1 KG2 tG1
      -- the rule
      refine ⟨_, rfl, st, sc, _, rfl, SG2, by omega, fun rv ls1 b1 G3 SG3 KG3 dr l1 l6 lok bok => ?_⟩
      have tG3 := tabK SG2 KG3 tG2
      obtain ⟨r, er1, rok⟩ := rule_of l1 l6 lok bok
      rw [er1] at dr
      -- the cores
      refine ⟨_, rfl, st, sc, 3, _, rfl, by decide, by decide, SG3, by omega, fun y1 G6 y10 y14 SG6 KG6 => ?_⟩
      refine ⟨_, _, rfl, rfl, _, rfl, st, sc, 8, _, rfl, by decide, by decide, SG6, by omega, fun y2 G7 y20 y28 SG7 KG7 => ?_⟩
      refine ⟨_, _, rfl, rfl, (by show 3 ≤ sizeLine; decide), fun q4 nq4 => ?_⟩
      have sq4 := same_new (o := .lst [V.int 1, .int (1 + y1), .int (1 + y2)]) nq4
      have q4a := SG7.ne nq4
      refine ⟨_, rfl, st, sc, 3, _, rfl, by decide, by decide, SG7.same sq4, by omega, fun y3 G8 y30 y33 SG8 KG8 => ?_⟩
      obtain ⟨cv, hcv, mcv⟩ := atI_mem (xs := [V.int 1, .int (1 + y1), .int (1 + y2)]) y30 y33
      obtain ⟨cc, rfl, cc1⟩ : ∃ cc : Nat, cv = .int (cc : Nat) ∧ 1 ≤ cc := by
        simp only [List.mem_cons, List.not_mem_nil, or_false] at mcv
        rcases mcv with rfl | rfl | rfl
        · exact ⟨1, rfl, by decide⟩
        · exact ⟨(1 + y1).toNat, by rw [Int.toNat_of_nonneg (by omega)], by omega⟩
        · exact ⟨(1 + y2).toNat, by rw [Int.toNat_of_nonneg (by omega)], by omega⟩
      refine ⟨q4, _, _, .int (cc : Nat), rfl, rfl, SqL.of (KG8.at upd_same q4a), hcv, ?_⟩
      have K38 : Kept st G3 G8 := KG6.trans (KG7.trans ((kept_same sq4).trans KG8))
      have tG8 := tabK (SG7.same sq4) KG8 (sq4.tab T (tabK SG6 KG7 (tabK SG3 KG6 tG3)))
      have K28 : Kept st G2 G8 := KG3.trans K38
      have dj8 : Dp K (Off st G8) (.ref pj) (.tuple (J.map jdD)) := dp_same (show Same (Off st G1) (Off st G8) from KG2.trans K28) (.tup qj rj)
      have dl8 := dp_same (show Same (Off st G2) (Off st G8) from K28) dl
      have dr8 := dp_same (show Same (Off st G3) (Off st G8) from K38) dr
      obtain ⟨nd, hnd⟩ := nd_of (J := J) (L := L) (by
        have f1 := fine.1
        rw [List.map_map] at f1
        exact f1) (by omega)
      have nd_ex : ∀ L' : List Int, L'.length = J.length → (∀ x ∈ L', 1 ≤ x ∧ x ≤ 700) → ∃ nd' : Str → Int, (J.map fun j => nd' j.n) = L' ∧ ∀ {r' : Rl} {c' : Int}, r'.Ok → 1 ≤ c' → RunOk nd' J r' c' := fun L' hl hb => by
        obtain ⟨nd', h⟩ := nd_of (J := J) (L := L') (by
          have f1 := fine.1
          rw [List.map_map] at f1
          exact f1) hl.symm
        refine ⟨nd', h, fun {r' c'} rk ck => ⟨fine, okj, by omega, fun j hj => (hb _ (by rw [← h]; exact List.mem_map.mpr ⟨j, hj, rfl⟩)).1, ?_, rk, ck⟩⟩
        have z := sum_leb (l := J.map fun j => nd' j.n) (b := 700) fun x hx => (hb x (by rw [← h]; exact hx)).2
        rw [List.length_map] at z
        omega
      clear hnd nd
      obtain ⟨nd, hnd, roA⟩ := nd_ex L (by omega) (fun x hx => by have := bL x hx; omega)
      have ro : RunOk nd J r (cc : Int) := roA rok (by omega)
      have ro1 : RunOk nd J r 1 := roA rok (by omega)
      have sub8 := off_sub st G8
      have dj := dp_same sub8 dj8
      rw [← hnd] at dl8
      have dl' := dp_same sub8 dl8
      have dr' := dp_same sub8 dr8
      -- the run, the finishes
      refine ⟨_, rfl, _, rfl, _, rfl, _, rfl, rfl, rfl, .ref pj, .ref tl, rv, cc, r, nd, J, rfl, ⟨dj, dl', dr', ro, tG8⟩, fun U t1 Ga endU Sa len1 d1 => ?_⟩
      refine ⟨_, rfl, _, rfl, _, rfl, _, rfl, rfl, rfl, .ref pj, .ref tl, rv, cc, r, nd, J, rfl, ⟨dp_same Sa dj, dp_same Sa dl', dp_same Sa dr', ro, Sa.tab T tG8⟩, fun U' t2 Gb endU' Sb d2 => ?_⟩
      have eU : U' = U := endU'.uniq endU
      subst eU
      have s8b := Sa.trans Sb
      have SGb := SG8.same s8b
      have K8b : Kept st G8 Gb := kept_same s8b
      -- the others
      have dlo : Dp K (Off st Gb) (.ref tl) (intsD L) := by
        rw [← hnd]
        exact dp_same (show Same (Off st G8) (Off st Gb) from K8b) dl8
      refine ⟨_, rfl, _, rfl, st, sc, _, .ref tl, L, rfl, SGb, by omega, dlo, bL, by omega, fun po ys os Gc SGc KGc hpo dos oks => ?_⟩
      obtain ⟨_, _, _, _, _, hst, _⟩ := SGb.ex
      have keepC : ∀ z xs, SqT K Gb z xs → SqT K Gc z xs := fun z xs q => same_seqT (off_sub st Gc) (same_seqT (show Same (Off st Gb) (Off st Gc) from KGc) (sqt_offL9 hst q))
      have K8c : Same (Off st G8) (Off st Gc) := Same.trans (show Same (Off st G8) (Off st Gb) from K8b) KGc
      have subc := off_sub st Gc
      have djc := dp_same subc (dp_same K8c dj8)
      have dlc := dp_same subc (dp_same K8c dl8)
      have drc := dp_same subc (dp_same K8c dr8)
      have tGc : TabG Gc T := tabK SG8 (show Kept st G8 Gc from K8c) tG8
      have d1c := dp_keep keepC (dp_same Sb d1) (.tup tupO_pies)
      have d2c := dp_keep keepC d2 (.tup fun d hd => by
        obtain ⟨j, _, rfl⟩ := List.mem_map.mp hd
        exact .int _)
      have dosc := dps_same subc dos
      have yl := dps_len dosc
      rw [List.length_map] at yl
      clear d1 d2 dj dl' dr' dl dr
      refine ⟨po, rfl, ⟨_, SqL.of hpo⟩, ?_⟩
      refine for_it (D := { nx := _, rt := _ }) (walk_list (K := K) (a := po) (xs := ys)) (fun i σ G => ∃ (u8 u9 u10 u11 : Option V), σ = [some (.ref a), some (.ref st), some (.ref pj), some (.ref tl), some rv, some (.int (cc : Nat)), some (.ref t1), some (.ref t2), u8, u9, u10, u11, none, none] ∧ Same Gc G)
        ⟨none, none, none, none, rfl, Same.refl _⟩ (fun i σ G _ ⟨_, _, _, _, _, sc'⟩ => SqL.of (sc'.at hpo)) ?_ ?_
      · rintro i y σ G0 G hi ⟨u8, u9, u10, u11, rfl, sG⟩ ⟨rfl, hy⟩
        obtain ⟨d, hd, dy⟩ := dps_getV dosc hy
        rw [List.getElem?_map] at hd
        obtain ⟨L', hL', rfl⟩ := Option.map_eq_some_iff.mp hd
        obtain ⟨ol, ob⟩ := oks L' (List.mem_of_getElem? hL')
        obtain ⟨nd', hnd', roB⟩ := nd_ex L' (by omega) ob
        have ro' : RunOk nd' J r (cc : Int) := roB rok (by omega)
        replace dy : Dp K Gc y (.tuple ((J.map fun j => nd' j.n).map PyData.int)) := by rw [hnd']; exact dy
        -- the run of the others, what is due
        refine ⟨_, rfl, _, rfl, _, rfl, _, rfl, _, rfl, rfl, rfl, .ref pj, y, rv, cc, r, nd', J, rfl, ⟨dp_same sG djc, dp_same sG dy, dp_same sG drc, ro', sG.tab T tGc⟩, fun V' t3 Gd endV Sd len3 d3 => ?_⟩
        have sd := sG.trans Sd
        refine ⟨.ref t1, .ref t3, segN r (cc : Int) nd J U', segN r (cc : Int) nd' J V', fdM (segN r (cc : Int) nd J U') (segN r (cc : Int) nd' J V'), rfl, dp_same sd d1c, d3, len1, len3, seg_strs ro U', seg_strs ro' V', ?_, fun l hp mem pos => due_ok ro ro' endU' endV hp mem pos, fun Ge Se => ?_⟩
        · rintro p (hp | hp)
          · exact RowsN.ends (rows_segU _ U') p hp
          · exact RowsN.ends (rows_segU _ V') p hp
        have se := sd.trans Se
        have bh : ∀ u, fdM (segN r (cc : Int) nd J U') (segN r (cc : Int) nd' J V') = some u → _ := fun u h => due_behind ro ro' endU' endV h
        have cm : fdM (segN r (cc : Int) nd' J V') (segN r (cc : Int) nd J U') = fdM (segN r (cc : Int) nd J U') (segN r (cc : Int) nd' J V') := fd_comm
        have scl : ∀ o : Option Int, scal (optI o) (optI o) = true := fun o => by cases o <;> rfl
        have nes : ∀ o : Option Int, (!decide (optI o = optI o)) = false := fun o => by rw [decide_eq_true rfl]; rfl
        refine ⟨_, rfl, _, rfl, _, rfl, _, rfl, _, rfl, rfl, rfl, .ref pj, .ref tl, y, rv, cc, r, nd, J, rfl, ⟨dp_same se djc, dp_same se dlc, dp_same se drc, ro, se.tab T tGc⟩, .inl ⟨nd', ro', dp_same se dy, fun A1 A2 Gf e1 e2 Sf => ?_⟩⟩
        rw [e1.uniq endU', e2.uniq endV]
        have sf := se.trans Sf
        refine ⟨_, rfl, scl _, _, rfl, ?_⟩
        rw [nes]
        refine iteF ?_
        refine ⟨_, rfl, _, rfl, _, rfl, _, rfl, _, rfl, rfl, rfl, .ref pj, y, .ref tl, rv, cc, r, nd', J, rfl, ⟨dp_same sf djc, dp_same sf dy, dp_same sf drc, ro', sf.tab T tGc⟩, .inl ⟨nd, ro, dp_same sf dlc, fun A1 A2 Gg e1 e2 Sg => ?_⟩⟩
        rw [e1.uniq endV, e2.uniq endU', cm]
        have sg := sf.trans Sg
        refine ⟨_, rfl, scl _, _, rfl, ?_⟩
        rw [nes]
        refine iteF ?_
        -- the finishes of the others
        refine ⟨_, rfl, _, rfl, _, rfl, _, rfl, rfl, rfl, .ref pj, y, rv, cc, r, nd', J, rfl, ⟨dp_same sg djc, dp_same sg dy, dp_same sg drc, ro', sg.tab T tGc⟩, fun V2 t4 Gh endV2 Sh d4 => ?_⟩
        rw [endV2.uniq endV] at d4
        have sh := sg.trans Sh
        generalize fdM (segN r (cc : Int) nd J U') (segN r (cc : Int) nd' J V') = o at bh
        obtain ⟨p4, x4, e4, q4', r4⟩ := dp_tuple d4
        cases e4
        have r4' : DpAll K Gh x4 ((J.map fun j => finU r (cc : Int) nd' J V' j.n).map PyData.int) := by rw [List.map_map]; exact r4
        have x4e := dps_intsV r4'
        subst x4e
        obtain ⟨p2, x2, e2, q2, r2⟩ := dp_tuple (dp_same sh d2c)
        cases e2
        have r2' : DpAll K Gh x2 ((J.map fun j => finU r (cc : Int) nd J U' j.n).map PyData.int) := by rw [List.map_map]; exact r2
        have x2e := dps_intsV r2'
        subst x2e
        refine ⟨_, rfl, _, rfl, t2, t4, _, _, rfl, .inr ⟨q2, q4', fun D nD => ?_⟩⟩
        let ap : List Jd → List Int := fun l => l.filterMap fun j => if finU r (cc : Int) nd J U' j.n ≠ finU r (cc : Int) nd' J V' j.n then some (min (finU r (cc : Int) nd J U' j.n) (finU r (cc : Int) nd' J V' j.n)) else none
        refine lc_it (walk_zipTT (K := K) (a := t2) (b := t4) (xs := (J.map fun j => finU r (cc : Int) nd J U' j.n).map V.int) (ys := (J.map fun j => finU r (cc : Int) nd' J V' j.n).map V.int) (n := J.length) (by rw [List.length_map, List.length_map, List.length_map, List.length_map, Nat.min_self])) (fun m Hc => Hc D = some (.lst ((ap (J.take m)).map V.int)) ∧ Same Gh (Off D Hc))
          ⟨upd_same, off_newB nD⟩ (fun m Hc _ ⟨_, sc'⟩ => ⟨same_seqT (sc'.trans (off_sub D Hc)) q2, same_seqT (sc'.trans (off_sub D Hc)) q4'⟩) ?_ ?_
        · rintro m y Hc0 Hc hm ⟨hD, sc'⟩ ⟨TT, x1, y1, rfl, nT, rfl, ex, ey⟩
          replace ex : ((J.map fun j => finU r (cc : Int) nd J U' j.n).map V.int)[m]? = some x1 := ex
          replace ey : ((J.map fun j => finU r (cc : Int) nd' J V' j.n).map V.int)[m]? = some y1 := ey
          have hj : J[m]? = some J[m] := List.getElem?_eq_getElem hm
          generalize J[m] = j at hj
          rw [List.getElem?_map, List.getElem?_map, hj] at ex ey
          cases ex
          cases ey
          have sT := same_new (o := .tup [V.int (finU r (cc : Int) nd J U' j.n), V.int (finU r (cc : Int) nd' J V' j.n)]) nT
          have hDT := sT.at hD
          have scT := sc'.trans (off_mono (a := D) sT)
          have tk : ap (J.take (m + 1)) = ap (J.take m) ++ ap [j] := by
            show List.filterMap _ _ = _
            rw [List.take_add_one, hj, List.filterMap_append]
            rfl
          rw [tk]
          refine ⟨TT, _, rfl, SqT.of upd_same, rfl, _, _, rfl, _, _, rfl, rfl, rfl, ?_⟩
          refine ⟨_, rfl, _, rfl, rfl, _, rfl, ?_⟩
          have a1 : (ap (J.take m)).length ≤ 12 := Nat.le_trans (List.length_filterMap_le ..) (by rw [List.length_take]; omega)
          refine ite2 (fun h => ?_) (fun h => ?_)
          · have hne : finU r (cc : Int) nd J U' j.n ≠ finU r (cc : Int) nd' J V' j.n := fun e => by
              replace h : (!decide (V.int (finU r (cc : Int) nd J U' j.n) = V.int (finU r (cc : Int) nd' J V' j.n))) = true := h
              rw [e, decide_eq_true rfl] at h
              cases h
            have e1 : ap [j] = [min (finU r (cc : Int) nd J U' j.n) (finU r (cc : Int) nd' J V' j.n)] := by
              show List.filterMap _ _ = _
              rw [List.filterMap_cons, if_pos hne]
              rfl
            refine ⟨_, rfl, _, rfl, _, _, rfl, _, hDT, ?_, ?_, ?_⟩
            · rw [List.length_map]
              exact Nat.lt_of_le_of_lt (show _ ≤ 1000 by omega) (by decide)
            · rw [upd_same, e1, List.map_append, show (if finU r (cc : Int) nd' J V' j.n < finU r (cc : Int) nd J U' j.n then finU r (cc : Int) nd' J V' j.n else finU r (cc : Int) nd J U' j.n) = min (finU r (cc : Int) nd J U' j.n) (finU r (cc : Int) nd' J V' j.n) by omega]
              rfl
            · rw [off_upd]
              exact scT
          · have he : finU r (cc : Int) nd J U' j.n = finU r (cc : Int) nd' J V' j.n := Classical.byContradiction fun ne => h (by
              rw [decide_eq_false (fun z => ne (V.int.inj z))]
              rfl)
            have e1 : ap [j] = [] := by
              show List.filterMap _ _ = _
              rw [List.filterMap_cons, if_neg (fun w => w he)]
              rfl
            rw [e1, List.append_nil]
            exact ⟨hDT, scT⟩
        rintro Hc ⟨hD, sc'⟩
        rw [List.take_length] at hD
        have sAll := sh.trans (sc'.trans (off_sub D Hc))
        refine ⟨_, rfl, rfl, _, rfl, ?_⟩
        cases o with
        | none => exact iteF (iteF ⟨_, _, _, _, rfl, sAll⟩)
        | some u =>
          obtain ⟨j, hj, hne, hlt⟩ := bh u rfl
          have jm : min (finU r (cc : Int) nd J U' j.n) (finU r (cc : Int) nd' J V' j.n) ∈ ap J := List.mem_filterMap.mpr ⟨j, hj, by rw [if_pos hne]⟩
          generalize ap J = al at hD jm
          refine iteT ?_
          refine ⟨_, rfl, Nat.zero_le _, fun z1 nz => ?_⟩
          have sz := same_new (o := .lst ([] : List V)) nz
          have hDz := sz.at hD
          refine ⟨D, z1, _, rfl, rfl, SqL.of hDz, SqL.of upd_same, _, rfl, ?_⟩
          have ne0 : (al.map V.int).isEmpty = false := by
            cases al with
            | nil => cases jm
            | cons _ _ => rfl
          rw [ne0]
          refine iteF ?_
          refine ⟨_, rfl, _, rfl, D, al, rfl, SqL.of hDz, List.length_pos_of_mem jm, fun mm hm hle => ?_⟩
          have lt := hle _ jm
          refine ⟨_, _, rfl, rfl, _, rfl, ?_⟩
          rw [decide_eq_false (by omega)]
          exact iteF ⟨_, _, _, _, rfl, sAll.trans sz⟩
      · rintro σ G ⟨u8, u9, u10, u11, rfl, sG⟩
        refine ⟨_, rfl, Nat.zero_le _, fun e0 n0 => ?_⟩
        have s0 := same_new (o := .tup ([] : List V)) n0
        have sG0 := sG.trans s0
        have shJ : SeqAt.shaped (.tuple (J.map jdD)) = true := shaped_mk (shaped_tuple fun j hj => sh_jd (ro.jn.ok hj)) (by decide)
        have sh0 : SeqAt.shaped (.tuple []) = true := by decide +kernel
        refine ⟨_, _, dp_same sG0 djc, .tup (SqT.of upd_same) .nil, shJ, sh0, ?_⟩
        by_cases hJ : J = []
        · subst hJ
          rw [show PyData.eqv (.tuple (([] : List Jd).map jdD)) (.tuple []) = true from eqv_same sh0]
          refine ⟨_, rfl, ?_⟩
          --GOAL3
          exact k _
        · have e : PyData.eqv (.tuple (J.map jdD)) (.tuple []) = false := by
            cases J with
            | nil => exact absurd rfl hJ
            | cons x l => simp [PyData.eqv, PyData.eqvAll]
          rw [e]
          refine ⟨_, rfl, ?_⟩
          --GOAL4
          exact ⟨_, rfl, _, rfl, _, rfl, .ref pj, .ref tl, rv, 1, r, nd, J, rfl, rfl, ⟨dp_same sG0 djc, dp_same sG0 dlc, dp_same sG0 drc, ro1, sG0.tab T tGc⟩, hJ, fun H' => k H'⟩
    exact main
end
end Vk
set_option maxHeartbeats 4000000
namespace Vk
open PySem PySem.Spec PyProof.Rows L2

section
variable {K : PySem.W.Frag} {mg : Str → Option Value}
/-- the keywords ks written, processors by default -/
theorem dfm_mk {x : Str} {st : Stmt} {f D : Addr} {oc doc pm cdv ct : Value} {od an : Option Addr} {osl : Array (Option Value)} {t : Tok} {ps ks : List Str} {n : Nat} (m : mg x = some (.ref f))
    (l : K.lookup f = some ⟨oc, od, .func (PySem.W.fnOf x x (defArgs st) (defBody st) (defScope st) .none (.ref D) doc pm an cdv ct), osl⟩) (c : PySem.W.codeIn K cdv x = true) (kp : PySem.W.keepIn K (.ref f) = true) (nd : PySem.W.nsIn K D "processors" = some (some (.int 1 t)))
    (hd : ∀ (doc pm : Value) (an : Option Addr) (cdv ct : Value) (us ws : List Value) (z : Value), us.length = n → ws.length = ks.length → KwChain D [("processors", z)] (bindArgs (PySem.W.fnOf x x (defArgs st) (defBody st) (defScope st) .none (.ref D) doc pm an cdv ct) ⟨us, ks.zip ws⟩) (ps.zip (us ++ ws ++ [z]))) :
    DfM K mg x st ps n ks (fun vs zs => vs ++ zs ++ [.int 1]) := by
  have F : FunD K x x (defArgs st) (defBody st) (defScope st) [] [] f (PySem.W.fnOf x x (defArgs st) (defBody st) (defScope st) .none (.ref D) doc pm an cdv ct) :=
    ⟨⟨oc, od, .none, .ref D, doc, pm, an, cdv, ct, osl, rfl, l, c, .inl ⟨rfl, rfl⟩, .inr ⟨D, rfl, fun q hq => absurd hq (by simp)⟩⟩, kp⟩
  refine ⟨f, _, [], fun us ws => us ++ ws ++ [.int 1 t], m, F, ⟨fun s us ws X l1 l2 => ?_, fun r1 r2 => (r1.append r2).append (.cons ⟨t, rfl⟩ .nil)⟩⟩
  refine BindsTo.of_looks fun M => KwChain.looks X (fun q hq => ?_) (hd doc pm an cdv ct us ws (.int 1 t) l1 l2)
  rw [List.mem_singleton.mp hq]
  exact nd
/-- all keywords written -/
theorem dfm_all {x : Str} {st : Stmt} {f D : Addr} {oc doc pm cdv ct : Value} {od an : Option Addr} {osl : Array (Option Value)} {ps ks : List Str} {n : Nat} (m : mg x = some (.ref f))
    (l : K.lookup f = some ⟨oc, od, .func (PySem.W.fnOf x x (defArgs st) (defBody st) (defScope st) .none (.ref D) doc pm an cdv ct), osl⟩) (c : PySem.W.codeIn K cdv x = true) (kp : PySem.W.keepIn K (.ref f) = true)
    (hb : ∀ (doc pm : Value) (an : Option Addr) (cdv ct : Value) (us ws : List Value), us.length = n → ws.length = ks.length → bindArgs (PySem.W.fnOf x x (defArgs st) (defBody st) (defScope st) .none (.ref D) doc pm an cdv ct) ⟨us, ks.zip ws⟩ = pure (ps.zip (us ++ ws))) :
    DfM K mg x st ps n ks (fun vs zs => vs ++ zs) := by
  have F : FunD K x x (defArgs st) (defBody st) (defScope st) [] [] f (PySem.W.fnOf x x (defArgs st) (defBody st) (defScope st) .none (.ref D) doc pm an cdv ct) :=
    ⟨⟨oc, od, .none, .ref D, doc, pm, an, cdv, ct, osl, rfl, l, c, .inl ⟨rfl, rfl⟩, .inr ⟨D, rfl, fun q hq => absurd hq (by simp)⟩⟩, kp⟩
  exact ⟨f, _, [], fun us ws => us ++ ws, m, F, ⟨fun s us ws X l1 l2 => .of_eq (hb doc pm an cdv ct us ws l1 l2), fun r1 r2 => r1.append r2⟩⟩
end
end Vk
set_option maxHeartbeats 4000000
/-! two keyword-only defaults, the first of them a tuple of the top: ((("queue", None),), None) -/
namespace Vk
open PySem PySem.Spec PyProof.Rows L2
/-- first come, first served -/
def fcome : Rl := ⟨[(false, none)], none⟩
theorem fcome_ok : fcome.Ok := ⟨by decide, by decide, (fun l h q e => by
  rw [List.mem_singleton.mp (show l ∈ [(false, none)] from h)] at e
  cases e), fun q e => by cases e⟩
/-- the items of a tuple of the top -/
def tupI (K : PySem.W.Frag) (a : Addr) : Option (List Value) := match K.lookup a with
  | some ⟨.type c, _, .seq its _, _⟩ => if c = "tuple" ∧ its.size ≤ 1000 then some its.toList else none
  | _ => none
theorem tupI_sq {K : PySem.W.Frag} {a : Addr} {us : List Value} {xs : List V} (h : tupI K a = some us) (r : Vals xs us) (H : Hp) : SqT K H a xs := by
  unfold tupI at h
  cases q : K.lookup a with
  | none =>
    rw [q] at h
    cases h
  | some o =>
    obtain ⟨oc, od, dt, osl⟩ := o
    rw [q] at h
    cases oc with
    | type c =>
      cases dt with
      | seq its n =>
        have h : (if c = "tuple" ∧ its.size ≤ 1000 then some its.toList else none) = some us := h
        by_cases e : c = "tuple" ∧ its.size ≤ 1000
        · rw [if_pos e] at h
          cases h
          exact .inr ⟨_, its, n, q, congrArg Value.type e.1, rfl, Nat.le_trans e.2 (by decide), r⟩
        · rw [if_neg e] at h
          cases h
      | _ => cases h
    | _ => cases od <;> cases dt <;> cases h
def fcE (K : PySem.W.Frag) (a : Addr) : Bool := match tupI K a with
  | some [.ref b, .none] => (match tupI K b with
    | some [.ref d] => (match tupI K d with
      | some [.str x _, .none] => decide (x = "queue")
      | _ => false)
    | _ => false)
  | _ => false
theorem fcE_ok {K : PySem.W.Frag} {a : Addr} (h : fcE K a = true) (H : Hp) : Dp K H (.ref a) (bRulD fcome) := by
  unfold fcE at h
  split at h
  · rename_i b h1
    split at h
    · rename_i d h2
      split at h
      · rename_i x t h3
        have ex := of_decide_eq_true h
        have q3 := tupI_sq h3 (xs := [.str x, .non]) (.cons ⟨t, rfl⟩ (.cons rfl .nil)) H
        have q2 := tupI_sq h2 (xs := [.ref d]) (.cons rfl .nil) H
        have q1 := tupI_sq h1 (xs := [.ref b, .non]) (.cons rfl (.cons rfl .nil)) H
        rw [ex] at q3
        exact .tup q1 (.cons (.tup q2 (.cons (.tup q3 (.cons (.str _) (.cons .non .nil))) .nil)) (.cons .non .nil))
      · cases h
    · cases h
  · cases h
/-- a def of the top, with keyword-only defaults -/
def fW (x : Str) (st : Stmt) (kwd : List (Str × He.Dv)) : He.DefD := ⟨(x, none), x, x, defArgs st, defBody st, defScope st, [], kwd⟩
section
variable {P : Program} {w : World} {K : PySem.W.Frag} {mg : Str → Option Value} {base : Heap}
theorem kw2_dfl {x k1 k2 : Str} {ps : List Str} {st : Stmt} {f : Addr} {fd : FuncData} {d1 d2 : V} (F : FunD K x x (defArgs st) (defBody st) (defScope st) [] [(k1, d1), (k2, d2)] f fd)
    (hd : ∀ (D : Addr) (doc pm : Value) (an : Option Addr) (cdv ct : Value) (us : List Value) (z1 z2 : Value), us.length = ps.length → KwChain D [(k1, z1), (k2, z2)] (bindArgs (PySem.W.fnOf x x (defArgs st) (defBody st) (defScope st) .none (.ref D) doc pm an cdv ct) ⟨us, []⟩) ((ps ++ [k1, k2]).zip (us ++ [z1, z2]))) :
    ∃ ds, Vals [d1, d2] ds ∧ Binds K fd (ps ++ [k1, k2]) ds := by
  obtain ⟨oc, od, dV, kV, doc, pm, an, cdv, ct, osl, rfl, lk, hcd, hD, hK⟩ := F.ex
  rcases hD with ⟨_, rfl⟩ | ⟨h, _⟩
  · rcases hK with e | ⟨D, rfl, hq⟩
    · cases e
    · obtain ⟨u1, n1, r1⟩ := hq (k1, d1) (List.mem_cons_self ..)
      obtain ⟨u2, n2, r2⟩ := hq (k2, d2) (List.mem_cons_of_mem _ (List.mem_cons_self ..))
      refine ⟨[u1, u2], .cons r1 (.cons r2 .nil), fun s us X hl => ?_⟩
      have two : us.length = ps.length := by
        rw [List.length_append, List.length_append] at hl
        simp only [List.length_cons, List.length_nil] at hl
        omega
      refine BindsTo.of_looks fun M => KwChain.looks X (fun q hq => ?_) (hd D doc pm an cdv ct us u1 u2 two)
      simp only [List.mem_cons, List.not_mem_nil, or_false] at hq
      rcases hq with rfl | rfl
      · exact n1
      · exact n2
  · exact absurd rfl h
end
end Vk
set_option maxHeartbeats 4000000
namespace Vk
open PySem PySem.Spec PyProof.Rows L2
theorem kit_same {K : PySem.W.Frag} {t : Value} : PySem.W.kitOne K t t = some true := by
  unfold PySem.W.kitOne
  rw [if_pos (beq_self_eq_true t)]
theorem kit_sub {K : PySem.W.Frag} {C D : Addr} (h1 : PySem.W.isClsIn K D = true) (h2 : PySem.W.typeIn K (.ref D) = some (.type "type")) (h3 : PySem.W.subIn K (.ref C) (.ref D) = some true) : PySem.W.kitOne K (.ref C) (.ref D) = some true := by
  unfold PySem.W.kitOne
  have e : ((PySem.W.clsIn K D).isSome && PySem.W.typeIn K (.ref D) == some (.type "type")) = true := by
    have h1' : (PySem.W.clsIn K D).isSome = true := h1
    rw [h1', h2]
    rfl
  by_cases z : (Value.ref C == Value.ref D) = true
  · rw [if_pos z]
  · rw [if_neg z]
    show (if ((PySem.W.clsIn K D).isSome && PySem.W.typeIn K (.ref D) == some (.type "type")) = true then PySem.W.subIn K (.ref C) (.ref D) else none) = _
    rw [if_pos e, h3]
theorem kit_ref {K : PySem.W.Frag} {C D : Addr} {b : Bool} (z : (Value.ref C == Value.ref D) = false) (h1 : PySem.W.isClsIn K D = true) (h2 : PySem.W.typeIn K (.ref D) = some (.type "type")) (h3 : PySem.W.subIn K (.ref C) (.ref D) = some b) : PySem.W.kitOne K (.ref C) (.ref D) = some b := by
  unfold PySem.W.kitOne
  have e : ((PySem.W.clsIn K D).isSome && PySem.W.typeIn K (.ref D) == some (.type "type")) = true := by
    have h1' : (PySem.W.clsIn K D).isSome = true := h1
    rw [h1', h2]
    rfl
  rw [if_neg (by rw [z]; exact Bool.false_ne_true)]
  show (if ((PySem.W.clsIn K D).isSome && PySem.W.typeIn K (.ref D) == some (.type "type")) = true then PySem.W.subIn K (.ref C) (.ref D) else none) = _
  rw [if_pos e, h3]
theorem kit_ve {K : PySem.W.Frag} {C : Addr} (h3 : PySem.W.subIn K (.ref C) (.type "ValueError") = some true) : PySem.W.kitOne K (.ref C) (.type "ValueError") = some true := by
  unfold PySem.W.kitOne
  have e : PySem.W.kitMeta "ValueError" = true := by decide +kernel
  rw [if_neg (by intro z; cases z)]
  show (if PySem.W.kitMeta "ValueError" = true then PySem.W.subIn K (.ref C) (.type "ValueError") else none) = _
  rw [if_pos e, h3]
end Vk
set_option maxHeartbeats 0
namespace Vk
open PySem PySem.Spec PyProof.Rows L2
def nmV0 : List PySem.Str := ["_wall", "Board", "SlotError", "NoJobs", "NoRule", "NoLengths", "NoLog", "NoMarks", "NoNamed", "NoOrder", "NoText", "NoNumber", "NoName", "NoUndo", "NoLine", "is_integer", "is_tuple_of", "check_jobs", "has_arrived", "check_each_job", "is_job", "is_arrival", "waits_forever", "check_lengths", "FIRST_COME", "MOST_LEVELS", "check_rule", "is_level", "is_count", "joined"]
def nmV1 : List PySem.Str := ["first_difference", "Course", "checked_course", "course_by_lengths", "run", "finish_units", "first_split", "_law_mix", "_law_store", "_law_pick", "_law_names", "_law_before", "_law_jobs", "_law_rule", "_law_lengths", "_law_kind", "_law_names_in", "_law_first", "_law_others", "_law_short_right"]
def nmV : List PySem.Str := nmV0 ++ nmV1
def fsV0 : List (PySem.W.Frag → Bool) := [bD "is_integer",
  bD "is_tuple_of",
  bD "check_jobs",
  bD "has_arrived",
  bD "check_each_job",
  bD "is_job",
  bD "is_arrival",
  bD "waits_forever",
  bD "check_lengths",
  bD "check_rule",
  bD "is_level",
  bD "is_count",
  bD "joined",
  bD "checked_course",
  bD "course_by_lengths",
  bD "_law_mix",
  bD "_law_store",
  bD "_law_pick",
  bD "_law_names",
  bD "_law_before",
  bD "_law_jobs",
  bD "_law_rule",
  bD "_law_lengths",
  bD "law",
  bD "_law_kind",
  bD "first_difference",
  bD "_law_names_in",
  bD "_law_first",
  bD "_law_others",
  bD "_law_short_right"]
def fsV1 : List (PySem.W.Frag → Bool) := [fun K => decide ((PySem.W.nsIn K mainGlobals "len" = some none) ∧ (PySem.W.nsIn K mainGlobals "isinstance" = some none) ∧ (PySem.W.nsIn K mainGlobals "int" = some none) ∧ (PySem.W.nsIn K mainGlobals "bool" = some none) ∧ (PySem.W.nsIn K mainGlobals "tuple" = some none) ∧ (PySem.W.nsIn K mainGlobals "str" = some none) ∧ (PySem.W.nsIn K mainGlobals "range" = some none) ∧ (PySem.W.nsIn K mainGlobals "enumerate" = some none) ∧ (PySem.W.nsIn K mainGlobals "list" = some none) ∧ (PySem.W.nsIn K mainGlobals "all" = some none) ∧ (PySem.W.nsIn K mainGlobals "min" = some none) ∧ (PySem.W.nsIn K mainGlobals "dict" = some none) ∧ (PySem.W.nsIn K mainGlobals "zip" = some none) ∧ (PySem.W.nsIn K mainGlobals "sorted" = some none) ∧ (PySem.W.nsIn K mainGlobals "max" = some none) ∧ (PySem.W.nsIn K mainGlobals "SlotError" = some (some (.ref (He.ga K "SlotError")))) ∧ (PySem.W.isClsIn K (He.ga K "SlotError") = true) ∧ (PySem.W.hasDictIn K (He.ga K "SlotError") = true) ∧ (PySem.W.typeIn K (.ref (He.ga K "SlotError")) = some (.type "type")) ∧ (PySem.W.subIn K (.ref (He.ga K "SlotError")) (.type "BaseException") = some true)),
  fun K => decide ((PySem.W.specialIn K (.builtin "object.__class__") "__get__" = some (some (.builtin "getset_descriptor.__get__"))) ∧ (PySem.W.takesIn K (.builtin "object.__class__") = some true) ∧ (PySem.W.nsIn K mainGlobals "ValueError" = some none) ∧ (PySem.W.nsIn K mainGlobals "NoJobs" = some (some (.ref (He.ga K "NoJobs")))) ∧ (PySem.W.isClsIn K (He.ga K "NoJobs") = true) ∧ (PySem.W.typeIn K (.ref (He.ga K "NoJobs")) = some (.type "type")) ∧ (PySem.W.nsIn K mainGlobals "NoRule" = some (some (.ref (He.ga K "NoRule")))) ∧ (PySem.W.isClsIn K (He.ga K "NoRule") = true) ∧ (PySem.W.typeIn K (.ref (He.ga K "NoRule")) = some (.type "type")) ∧ (PySem.W.nsIn K mainGlobals "NoLengths" = some (some (.ref (He.ga K "NoLengths")))) ∧ (PySem.W.isClsIn K (He.ga K "NoLengths") = true) ∧ (PySem.W.typeIn K (.ref (He.ga K "NoLengths")) = some (.type "type")) ∧ (PySem.W.nsIn K mainGlobals "NoLog" = some (some (.ref (He.ga K "NoLog")))) ∧ (PySem.W.isClsIn K (He.ga K "NoLog") = true) ∧ (PySem.W.typeIn K (.ref (He.ga K "NoLog")) = some (.type "type")) ∧ (PySem.W.nsIn K mainGlobals "NoMarks" = some (some (.ref (He.ga K "NoMarks")))) ∧ (PySem.W.isClsIn K (He.ga K "NoMarks") = true) ∧ (PySem.W.typeIn K (.ref (He.ga K "NoMarks")) = some (.type "type")) ∧ (PySem.W.nsIn K mainGlobals "NoNamed" = some (some (.ref (He.ga K "NoNamed")))) ∧ (PySem.W.isClsIn K (He.ga K "NoNamed") = true)),
  fun K => bX (He.ga K "SlotError") (He.ga K "NoJobs") K,
  fun K => decide ((PySem.W.typeIn K (.ref (He.ga K "NoNamed")) = some (.type "type")) ∧ (PySem.W.nsIn K mainGlobals "NoOrder" = some (some (.ref (He.ga K "NoOrder")))) ∧ (PySem.W.isClsIn K (He.ga K "NoOrder") = true) ∧ (PySem.W.typeIn K (.ref (He.ga K "NoOrder")) = some (.type "type")) ∧ (PySem.W.nsIn K mainGlobals "NoText" = some (some (.ref (He.ga K "NoText")))) ∧ (PySem.W.isClsIn K (He.ga K "NoText") = true) ∧ (PySem.W.typeIn K (.ref (He.ga K "NoText")) = some (.type "type")) ∧ (PySem.W.nsIn K mainGlobals "NoNumber" = some (some (.ref (He.ga K "NoNumber")))) ∧ (PySem.W.isClsIn K (He.ga K "NoNumber") = true) ∧ (PySem.W.typeIn K (.ref (He.ga K "NoNumber")) = some (.type "type")) ∧ (PySem.W.nsIn K mainGlobals "NoName" = some (some (.ref (He.ga K "NoName")))) ∧ (PySem.W.isClsIn K (He.ga K "NoName") = true) ∧ (PySem.W.typeIn K (.ref (He.ga K "NoName")) = some (.type "type")) ∧ (PySem.W.nsIn K mainGlobals "NoUndo" = some (some (.ref (He.ga K "NoUndo")))) ∧ (PySem.W.isClsIn K (He.ga K "NoUndo") = true) ∧ (PySem.W.typeIn K (.ref (He.ga K "NoUndo")) = some (.type "type")) ∧ (PySem.W.nsIn K mainGlobals "NoLine" = some (some (.ref (He.ga K "NoLine")))) ∧ (PySem.W.isClsIn K (He.ga K "NoLine") = true) ∧ (PySem.W.typeIn K (.ref (He.ga K "NoLine")) = some (.type "type")) ∧ (PySem.W.findIn K (.ref (He.ga K "NoJobs")) "__setattr__" = some (some (.builtin "object.__setattr__")))),
  fun K => (He.Fa.code ("NoJobs", some "__init__") "NoJobs.__init__").ok K,
  fun K => decide ((PySem.W.findIn K (.ref (He.ga K "NoJobs")) "__getattribute__" = some (some (.builtin "BaseException.__getattribute__"))) ∧ (PySem.W.findIn K (.ref (He.ga K "NoJobs")) "__getattr__" = some none) ∧ (PySem.W.findIn K (.ref (He.ga K "NoJobs")) "place" = some none) ∧ (PySem.W.findIn K (.ref (He.ga K "NoJobs")) "__init__" = some (some (.ref (He.ma K (He.ga K "NoJobs") "__init__")))) ∧ (PySem.W.typeIn K (.ref (He.ma K (He.ga K "NoJobs") "__init__")) = some (.type "function")) ∧ (PySem.W.keepIn K (.ref (He.ma K (He.ga K "NoJobs") "__init__")) = true) ∧ (PySem.W.keepIn K (.ref (He.ga K "NoJobs")) = true) ∧ (PySem.W.subIn K (.ref (He.ga K "NoJobs")) (.type "BaseException") = some true) ∧ (PySem.W.hasDictIn K (He.ga K "NoJobs") = true) ∧ (PySem.W.findIn K (.ref (He.ga K "NoJobs")) "__class__" = some (some (.builtin "object.__class__"))) ∧ (PySem.W.mroIn K (He.ga K "NoJobs") (.type "object") = some true) ∧ (PySem.W.subIn K (.ref (He.ga K "NoJobs")) (.type "ValueError") = some true) ∧ (PySem.W.subIn K (.ref (He.ga K "NoJobs")) (.ref (He.ga K "SlotError")) = some true) ∧ (PySem.W.subIn K (.ref (He.ga K "NoJobs")) (.ref (He.ga K "NoRule")) = some false) ∧ ((Value.ref (He.ga K "NoJobs") == Value.ref (He.ga K "NoRule")) = false) ∧ (PySem.W.subIn K (.ref (He.ga K "NoJobs")) (.ref (He.ga K "NoLengths")) = some false) ∧ ((Value.ref (He.ga K "NoJobs") == Value.ref (He.ga K "NoLengths")) = false) ∧ (PySem.W.subIn K (.ref (He.ga K "NoJobs")) (.ref (He.ga K "NoLog")) = some false) ∧ ((Value.ref (He.ga K "NoJobs") == Value.ref (He.ga K "NoLog")) = false) ∧ (PySem.W.subIn K (.ref (He.ga K "NoJobs")) (.ref (He.ga K "NoMarks")) = some false)),
  fun K => bX (He.ga K "SlotError") (He.ga K "NoRule") K,
  fun K => decide (((Value.ref (He.ga K "NoJobs") == Value.ref (He.ga K "NoMarks")) = false) ∧ (PySem.W.subIn K (.ref (He.ga K "NoJobs")) (.ref (He.ga K "NoNamed")) = some false) ∧ ((Value.ref (He.ga K "NoJobs") == Value.ref (He.ga K "NoNamed")) = false) ∧ (PySem.W.subIn K (.ref (He.ga K "NoJobs")) (.ref (He.ga K "NoOrder")) = some false) ∧ ((Value.ref (He.ga K "NoJobs") == Value.ref (He.ga K "NoOrder")) = false) ∧ (PySem.W.subIn K (.ref (He.ga K "NoJobs")) (.ref (He.ga K "NoText")) = some false) ∧ ((Value.ref (He.ga K "NoJobs") == Value.ref (He.ga K "NoText")) = false) ∧ (PySem.W.subIn K (.ref (He.ga K "NoJobs")) (.ref (He.ga K "NoNumber")) = some false) ∧ ((Value.ref (He.ga K "NoJobs") == Value.ref (He.ga K "NoNumber")) = false) ∧ (PySem.W.subIn K (.ref (He.ga K "NoJobs")) (.ref (He.ga K "NoName")) = some false) ∧ ((Value.ref (He.ga K "NoJobs") == Value.ref (He.ga K "NoName")) = false) ∧ (PySem.W.subIn K (.ref (He.ga K "NoJobs")) (.ref (He.ga K "NoUndo")) = some false) ∧ ((Value.ref (He.ga K "NoJobs") == Value.ref (He.ga K "NoUndo")) = false) ∧ (PySem.W.subIn K (.ref (He.ga K "NoJobs")) (.ref (He.ga K "NoLine")) = some false) ∧ ((Value.ref (He.ga K "NoJobs") == Value.ref (He.ga K "NoLine")) = false) ∧ (PySem.W.findIn K (.ref (He.ga K "NoRule")) "__setattr__" = some (some (.builtin "object.__setattr__"))) ∧ (PySem.W.findIn K (.ref (He.ga K "NoRule")) "__getattribute__" = some (some (.builtin "BaseException.__getattribute__"))) ∧ (PySem.W.findIn K (.ref (He.ga K "NoRule")) "__getattr__" = some none) ∧ (PySem.W.findIn K (.ref (He.ga K "NoRule")) "place" = some none) ∧ (PySem.W.findIn K (.ref (He.ga K "NoRule")) "__init__" = some (some (.ref (He.ma K (He.ga K "NoRule") "__init__"))))),
  fun K => (He.Fa.code ("NoRule", some "__init__") "NoRule.__init__").ok K,
  fun K => decide ((PySem.W.typeIn K (.ref (He.ma K (He.ga K "NoRule") "__init__")) = some (.type "function")) ∧ (PySem.W.keepIn K (.ref (He.ma K (He.ga K "NoRule") "__init__")) = true) ∧ (PySem.W.keepIn K (.ref (He.ga K "NoRule")) = true) ∧ (PySem.W.subIn K (.ref (He.ga K "NoRule")) (.type "BaseException") = some true) ∧ (PySem.W.hasDictIn K (He.ga K "NoRule") = true) ∧ (PySem.W.findIn K (.ref (He.ga K "NoRule")) "__class__" = some (some (.builtin "object.__class__"))) ∧ (PySem.W.mroIn K (He.ga K "NoRule") (.type "object") = some true) ∧ (PySem.W.subIn K (.ref (He.ga K "NoRule")) (.type "ValueError") = some true) ∧ (PySem.W.subIn K (.ref (He.ga K "NoRule")) (.ref (He.ga K "SlotError")) = some true) ∧ (PySem.W.subIn K (.ref (He.ga K "NoRule")) (.ref (He.ga K "NoJobs")) = some false) ∧ ((Value.ref (He.ga K "NoRule") == Value.ref (He.ga K "NoJobs")) = false) ∧ (PySem.W.subIn K (.ref (He.ga K "NoRule")) (.ref (He.ga K "NoLengths")) = some false) ∧ ((Value.ref (He.ga K "NoRule") == Value.ref (He.ga K "NoLengths")) = false) ∧ (PySem.W.subIn K (.ref (He.ga K "NoRule")) (.ref (He.ga K "NoLog")) = some false) ∧ ((Value.ref (He.ga K "NoRule") == Value.ref (He.ga K "NoLog")) = false) ∧ (PySem.W.subIn K (.ref (He.ga K "NoRule")) (.ref (He.ga K "NoMarks")) = some false) ∧ ((Value.ref (He.ga K "NoRule") == Value.ref (He.ga K "NoMarks")) = false) ∧ (PySem.W.subIn K (.ref (He.ga K "NoRule")) (.ref (He.ga K "NoNamed")) = some false) ∧ ((Value.ref (He.ga K "NoRule") == Value.ref (He.ga K "NoNamed")) = false) ∧ (PySem.W.subIn K (.ref (He.ga K "NoRule")) (.ref (He.ga K "NoOrder")) = some false)),
  fun K => bX (He.ga K "SlotError") (He.ga K "NoLengths") K,
  fun K => (He.Fa.code ("NoLengths", some "__init__") "NoLengths.__init__").ok K,
  fun K => decide (((Value.ref (He.ga K "NoRule") == Value.ref (He.ga K "NoOrder")) = false) ∧ (PySem.W.subIn K (.ref (He.ga K "NoRule")) (.ref (He.ga K "NoText")) = some false) ∧ ((Value.ref (He.ga K "NoRule") == Value.ref (He.ga K "NoText")) = false) ∧ (PySem.W.subIn K (.ref (He.ga K "NoRule")) (.ref (He.ga K "NoNumber")) = some false) ∧ ((Value.ref (He.ga K "NoRule") == Value.ref (He.ga K "NoNumber")) = false) ∧ (PySem.W.subIn K (.ref (He.ga K "NoRule")) (.ref (He.ga K "NoName")) = some false) ∧ ((Value.ref (He.ga K "NoRule") == Value.ref (He.ga K "NoName")) = false) ∧ (PySem.W.subIn K (.ref (He.ga K "NoRule")) (.ref (He.ga K "NoUndo")) = some false) ∧ ((Value.ref (He.ga K "NoRule") == Value.ref (He.ga K "NoUndo")) = false) ∧ (PySem.W.subIn K (.ref (He.ga K "NoRule")) (.ref (He.ga K "NoLine")) = some false) ∧ ((Value.ref (He.ga K "NoRule") == Value.ref (He.ga K "NoLine")) = false) ∧ (PySem.W.findIn K (.ref (He.ga K "NoLengths")) "__setattr__" = some (some (.builtin "object.__setattr__"))) ∧ (PySem.W.findIn K (.ref (He.ga K "NoLengths")) "__getattribute__" = some (some (.builtin "BaseException.__getattribute__"))) ∧ (PySem.W.findIn K (.ref (He.ga K "NoLengths")) "__getattr__" = some none) ∧ (PySem.W.findIn K (.ref (He.ga K "NoLengths")) "place" = some none) ∧ (PySem.W.findIn K (.ref (He.ga K "NoLengths")) "__init__" = some (some (.ref (He.ma K (He.ga K "NoLengths") "__init__")))) ∧ (PySem.W.typeIn K (.ref (He.ma K (He.ga K "NoLengths") "__init__")) = some (.type "function")) ∧ (PySem.W.keepIn K (.ref (He.ma K (He.ga K "NoLengths") "__init__")) = true) ∧ (PySem.W.keepIn K (.ref (He.ga K "NoLengths")) = true) ∧ (PySem.W.subIn K (.ref (He.ga K "NoLengths")) (.type "BaseException") = some true)),
  fun K => decide ((PySem.W.hasDictIn K (He.ga K "NoLengths") = true) ∧ (PySem.W.findIn K (.ref (He.ga K "NoLengths")) "__class__" = some (some (.builtin "object.__class__"))) ∧ (PySem.W.mroIn K (He.ga K "NoLengths") (.type "object") = some true) ∧ (PySem.W.subIn K (.ref (He.ga K "NoLengths")) (.type "ValueError") = some true) ∧ (PySem.W.subIn K (.ref (He.ga K "NoLengths")) (.ref (He.ga K "SlotError")) = some true) ∧ (PySem.W.subIn K (.ref (He.ga K "NoLengths")) (.ref (He.ga K "NoJobs")) = some false) ∧ ((Value.ref (He.ga K "NoLengths") == Value.ref (He.ga K "NoJobs")) = false) ∧ (PySem.W.subIn K (.ref (He.ga K "NoLengths")) (.ref (He.ga K "NoRule")) = some false) ∧ ((Value.ref (He.ga K "NoLengths") == Value.ref (He.ga K "NoRule")) = false) ∧ (PySem.W.subIn K (.ref (He.ga K "NoLengths")) (.ref (He.ga K "NoLog")) = some false) ∧ ((Value.ref (He.ga K "NoLengths") == Value.ref (He.ga K "NoLog")) = false) ∧ (PySem.W.subIn K (.ref (He.ga K "NoLengths")) (.ref (He.ga K "NoMarks")) = some false) ∧ ((Value.ref (He.ga K "NoLengths") == Value.ref (He.ga K "NoMarks")) = false) ∧ (PySem.W.subIn K (.ref (He.ga K "NoLengths")) (.ref (He.ga K "NoNamed")) = some false) ∧ ((Value.ref (He.ga K "NoLengths") == Value.ref (He.ga K "NoNamed")) = false) ∧ (PySem.W.subIn K (.ref (He.ga K "NoLengths")) (.ref (He.ga K "NoOrder")) = some false) ∧ ((Value.ref (He.ga K "NoLengths") == Value.ref (He.ga K "NoOrder")) = false) ∧ (PySem.W.subIn K (.ref (He.ga K "NoLengths")) (.ref (He.ga K "NoText")) = some false) ∧ ((Value.ref (He.ga K "NoLengths") == Value.ref (He.ga K "NoText")) = false) ∧ (PySem.W.subIn K (.ref (He.ga K "NoLengths")) (.ref (He.ga K "NoNumber")) = some false)),
  bK "run" "processors",
  bK "finish_units" "processors",
  bK "first_split" "processors",
  bN "is_name",
  bI "MOST_LEVELS" 6,
  fun K => decide (((Value.ref (He.ga K "NoLengths") == Value.ref (He.ga K "NoNumber")) = false) ∧ (PySem.W.subIn K (.ref (He.ga K "NoLengths")) (.ref (He.ga K "NoName")) = some false) ∧ ((Value.ref (He.ga K "NoLengths") == Value.ref (He.ga K "NoName")) = false) ∧ (PySem.W.subIn K (.ref (He.ga K "NoLengths")) (.ref (He.ga K "NoUndo")) = some false) ∧ ((Value.ref (He.ga K "NoLengths") == Value.ref (He.ga K "NoUndo")) = false) ∧ (PySem.W.subIn K (.ref (He.ga K "NoLengths")) (.ref (He.ga K "NoLine")) = some false) ∧ ((Value.ref (He.ga K "NoLengths") == Value.ref (He.ga K "NoLine")) = false) ∧ (PySem.W.nsIn K mainGlobals "Board" = some (some (.ref (He.ga K "Board")))) ∧ ((He.Fa.cls "Board").ok K = true) ∧ ((He.Fa.mkr "Board").ok K = true) ∧ ((He.Fa.noat "Board" "rule").ok K = true) ∧ ((He.Fa.noat "Board" "processors").ok K = true) ∧ ((He.Fa.noat "Board" "now").ok K = true) ∧ ((He.Fa.noat "Board" "lines").ok K = true) ∧ ((He.Fa.noat "Board" "used").ok K = true) ∧ ((He.Fa.noat "Board" "ran").ok K = true) ∧ ((He.Fa.noat "Board" "finishes").ok K = true) ∧ ((He.Fa.meth "Board" "enter").ok K = true) ∧ ((He.Fa.meth "Board" "order").ok K = true) ∧ ((He.Fa.meth "Board" "running").ok K = true)),
  fun K => decide (((He.Fa.meth "Board" "level_of").ok K = true) ∧ ((He.Fa.meth "Board" "many_finished").ok K = true) ∧ ((He.Fa.meth "Board" "ends").ok K = true) ∧ ((He.Fa.meth "Board" "end_units").ok K = true) ∧ ((He.Fa.meth "Board" "end_quanta").ok K = true) ∧ ((He.Fa.meth "Board" "lift").ok K = true) ∧ ((He.Fa.meth "Board" "log").ok K = true) ∧ ((He.Fa.meth "Board" "lengths").ok K = true) ∧ (PySem.W.nsIn K mainGlobals "Course" = some (some (.ref (He.ga K "Course")))) ∧ ((He.Fa.cls "Course").ok K = true) ∧ ((He.Fa.mkr "Course").ok K = true) ∧ ((He.Fa.noat "Course" "board").ok K = true) ∧ ((He.Fa.noat "Course" "coming").ok K = true) ∧ ((He.Fa.noat "Course" "pieces").ok K = true) ∧ ((He.Fa.meth "Course" "let_in").ok K = true) ∧ ((He.Fa.meth "Course" "ends").ok K = true) ∧ ((He.Fa.meth "Course" "go_on").ok K = true) ∧ ((He.Fa.meth "Course" "stretches").ok K = true))]
def fsW0 : List (PySem.W.Frag → Bool) := [fun K => (mW "Board" "__init__" "Board.__init__" sBdInit [] []).ok K,
  fun K => (mW "Board" "enter" "Board.enter" sBdEnter [] []).ok K,
  fun K => (mW "Board" "order" "Board.order" sBdOrder [] []).ok K,
  fun K => (mW "Board" "running" "Board.running" sBdRunning [] []).ok K,
  fun K => (mW "Board" "level_of" "Board.level_of" sBdLevelOf [] []).ok K,
  fun K => (mW "Board" "many_finished" "Board.many_finished" sBdMany [] []).ok K,
  fun K => (mW "Board" "ends" "Board.ends" sBdEnds [] []).ok K,
  fun K => (mW "Board" "end_units" "Board.end_units" sBdEndUnits [] []).ok K,
  fun K => (mW "Board" "end_quanta" "Board.end_quanta" sBdEndQuanta [] []).ok K,
  fun K => (mW "Board" "lift" "Board.lift" sBdLift [] []).ok K,
  fun K => (mW "Board" "log" "Board.log" sBdLog [] []).ok K,
  fun K => (mW "Board" "lengths" "Board.lengths" sBdLengths [] []).ok K,
  fun K => (mW "Course" "__init__" "Course.__init__" sCoInit [] []).ok K,
  fun K => (mW "Course" "let_in" "Course.let_in" sCoLetIn [] []).ok K,
  fun K => (mW "Course" "ends" "Course.ends" sCoEnds [] []).ok K,
  fun K => (mW "Course" "go_on" "Course.go_on" sCoGoOn [] []).ok K,
  fun K => (mW "Course" "stretches" "Course.stretches" sCoStretches [] []).ok K]
def fwV : List He.DefD := [mW "Board" "__init__" "Board.__init__" sBdInit [] [],
  mW "Board" "enter" "Board.enter" sBdEnter [] [],
  mW "Board" "order" "Board.order" sBdOrder [] [],
  mW "Board" "running" "Board.running" sBdRunning [] [],
  mW "Board" "level_of" "Board.level_of" sBdLevelOf [] [],
  mW "Board" "many_finished" "Board.many_finished" sBdMany [] [],
  mW "Board" "ends" "Board.ends" sBdEnds [] [],
  mW "Board" "end_units" "Board.end_units" sBdEndUnits [] [],
  mW "Board" "end_quanta" "Board.end_quanta" sBdEndQuanta [] [],
  mW "Board" "lift" "Board.lift" sBdLift [] [],
  mW "Board" "log" "Board.log" sBdLog [] [],
  mW "Board" "lengths" "Board.lengths" sBdLengths [] [],
  mW "Course" "__init__" "Course.__init__" sCoInit [] [],
  mW "Course" "let_in" "Course.let_in" sCoLetIn [] [],
  mW "Course" "ends" "Course.ends" sCoEnds [] [],
  mW "Course" "go_on" "Course.go_on" sCoGoOn [] [],
  mW "Course" "stretches" "Course.stretches" sCoStretches [] []]
def fsV : List (PySem.W.Frag → Bool) := fsV0 ++ fsV1 ++ fsW0
def fnV0 : List He.FnD := [dD "is_integer" sInteger,
  dD "is_tuple_of" sTupleOf,
  dD "check_jobs" sCheck,
  dD "has_arrived" sHas,
  dD "check_each_job" sEach,
  dD "is_job" sIsJob,
  dD "is_arrival" sArrival,
  dD "waits_forever" sWaits,
  dD "check_lengths" sCheckLens,
  dD "check_rule" sCheckR,
  dD "is_level" sLevel,
  dD "is_count" sIsCnt,
  dD "joined" sJoined,
  dD "checked_course" sChecked,
  dD "course_by_lengths" sByLens,
  dD "_law_mix" sMix,
  dD "_law_store" sStore,
  dD "_law_pick" sPick,
  dD "_law_names" sNames,
  dD "_law_before" sBefore,
  dD "_law_jobs" sJobs,
  dD "_law_rule" sRule,
  dD "_law_lengths" sLengths,
  dD "law" sLaw,
  dD "_law_kind" sKind,
  dD "first_difference" sFirstD,
  dD "_law_names_in" sNamesIn,
  dD "_law_first" sFirstL,
  dD "_law_others" sOthers,
  dD "_law_short_right" sShort]
def fnV1 : List He.FnD := [dM "NoJobs" "__init__" "NoJobs.__init__" sJobsInit,
  dM "NoRule" "__init__" "NoRule.__init__" sRuleInit,
  dM "NoLengths" "__init__" "NoLengths.__init__" sLensInit,
  dD "run" sRun,
  dD "finish_units" sFinish,
  dD "first_split" sSplit,
  dD "is_name" sName]
def fnV : List He.FnD := fnV0 ++ fnV1
abbrev RV : PySem.W.OpenRow := PySem.W.OpenLaw.row PySem.Challenge.rw_blindslots_k19_whole_runs_split_behind_a
abbrev qV : Program := PySem.W.view RV.prog [20, 61]
abbrev hV : PySem.W.Hook := hookC 4 fsV fnV fwV
def obV (s : PySem.W.SharedT) : SeeC := seeC fsV fnV fwV (partC 4 (HandSHeadRun.getT s))
theorem obV_eq (s : PySem.W.SharedT) : obV s = hV.obs s.abs := seeC_eq (HandSHeadRun.getT_eq s)
theorem runVa (w : World) (os : OsState) : (HandSHeadRun.endF (HandSHeadRun.stepQ (HandSHeadRun.denQ HandSHeadRun.tabQ) RV.prog w) 30000 RV.prog w os).map (fun s => HandSHeadRun.looksF RV.prog (PySem.W.boot_heap w.params) s.abs) = some true := by
  kernel_rfl
theorem runVb (w : World) (os : OsState) : (HandSHeadRun.endF (HandSHeadRun.stepQ (HandSHeadRun.denQ HandSHeadRun.tabQ) RV.prog w) 30000 RV.prog w os).map (fun s => HandSHeadRun.seenQ qV nmV (importedModules RV.prog.main.body) (fun s => PySem.W.xlAt qV [] s && PySem.W.recOk RV.toRowW.records s) s.abs) = some (PySem.W.openGood qV nmV) := by
  kernel_rfl
theorem runVc (w : World) (os : OsState) : (HandSHeadRun.endF (HandSHeadRun.stepQ (HandSHeadRun.denQ HandSHeadRun.tabQ) RV.prog w) 30000 RV.prog w os).map (fun s => obV s) = some (dueC fnV fwV) := by
  kernel_rfl
theorem runV (w : World) : HandSHeadRun.RunEq RV qV hV obV 30000 nmV w := fun os => join3 (runVa w os) (runVb w os) (runVc w os)
end Vk
set_option maxHeartbeats 8000000
namespace Vk
open PySem PySem.Spec PyProof.Rows L2 GxR
/-- what the law needs of a head: the promise of its def, over the empty table of one code object -/
def LawTab (l : PySem.W.OpenLaw) (w : World) (K : PySem.W.Frag) (mg : Str → Option Value) (fa : Addr) : Prop := ∃ (fd : FuncData) (c P : Addr), PySem.W.tabIn K "is_name" = some (c, P) ∧ K.lookup P = none ∧
  (∀ (s : Shared) (u : Value), BindsTo s fd ⟨[u], []⟩ [("script", u)]) ∧ ∀ base : Heap, K.In base → base.Ns mainGlobals mg → TabB base mg c P → FnOk l.prog w K mg base CX0 9 fa fd ["script"] (spLaw K P)

theorem all_mk {l : PySem.W.OpenLaw} {w : World} {K : PySem.W.Frag} {h : Heap} {mg : Str → Option Value} {fa : Addr} (X : K.In h) (G : h.Ns mainGlobals mg) (hfa : mg "law" = some (.ref fa))
    {f0 : Addr} {oc0 kV0 dc0 pm0 cd0 ct0 : Value} {od0 an0 : Option Addr} {sl0 : Array (Option Value)}
    {f1 : Addr} {oc1 kV1 dc1 pm1 cd1 ct1 : Value} {od1 an1 : Option Addr} {sl1 : Array (Option Value)}
    {f2 : Addr} {oc2 kV2 dc2 pm2 cd2 ct2 : Value} {od2 an2 : Option Addr} {sl2 : Array (Option Value)}
    {f3 : Addr} {oc3 kV3 dc3 pm3 cd3 ct3 : Value} {od3 an3 : Option Addr} {sl3 : Array (Option Value)}
    {f4 : Addr} {oc4 kV4 dc4 pm4 cd4 ct4 : Value} {od4 an4 : Option Addr} {sl4 : Array (Option Value)}
    {f5 : Addr} {oc5 kV5 dc5 pm5 cd5 ct5 : Value} {od5 an5 : Option Addr} {sl5 : Array (Option Value)}
    {f6 : Addr} {oc6 kV6 dc6 pm6 cd6 ct6 : Value} {od6 an6 : Option Addr} {sl6 : Array (Option Value)}
    {f7 : Addr} {oc7 kV7 dc7 pm7 cd7 ct7 : Value} {od7 an7 : Option Addr} {sl7 : Array (Option Value)}
    {f8 : Addr} {oc8 kV8 dc8 pm8 cd8 ct8 : Value} {od8 an8 : Option Addr} {sl8 : Array (Option Value)}
    {f9 : Addr} {oc9 kV9 dc9 pm9 cd9 ct9 : Value} {od9 an9 : Option Addr} {sl9 : Array (Option Value)}
    {f10 : Addr} {oc10 kV10 dc10 pm10 cd10 ct10 : Value} {od10 an10 : Option Addr} {sl10 : Array (Option Value)}
    {f11 : Addr} {oc11 kV11 dc11 pm11 cd11 ct11 : Value} {od11 an11 : Option Addr} {sl11 : Array (Option Value)}
    {f12 : Addr} {oc12 kV12 dc12 pm12 cd12 ct12 : Value} {od12 an12 : Option Addr} {sl12 : Array (Option Value)}
    {f13 : Addr} {oc13 kV13 dc13 pm13 cd13 ct13 : Value} {od13 an13 : Option Addr} {sl13 : Array (Option Value)}
    {f14 : Addr} {oc14 kV14 dc14 pm14 cd14 ct14 : Value} {od14 an14 : Option Addr} {sl14 : Array (Option Value)}
    {f15 : Addr} {oc15 kV15 dc15 pm15 cd15 ct15 : Value} {od15 an15 : Option Addr} {sl15 : Array (Option Value)}
    {f16 : Addr} {oc16 kV16 dc16 pm16 cd16 ct16 : Value} {od16 an16 : Option Addr} {sl16 : Array (Option Value)}
    {f17 : Addr} {oc17 kV17 dc17 pm17 cd17 ct17 : Value} {od17 an17 : Option Addr} {sl17 : Array (Option Value)}
    {f18 : Addr} {oc18 kV18 dc18 pm18 cd18 ct18 : Value} {od18 an18 : Option Addr} {sl18 : Array (Option Value)}
    {f19 : Addr} {oc19 kV19 dc19 pm19 cd19 ct19 : Value} {od19 an19 : Option Addr} {sl19 : Array (Option Value)}
    {f20 : Addr} {oc20 kV20 dc20 pm20 cd20 ct20 : Value} {od20 an20 : Option Addr} {sl20 : Array (Option Value)}
    {f21 : Addr} {oc21 kV21 dc21 pm21 cd21 ct21 : Value} {od21 an21 : Option Addr} {sl21 : Array (Option Value)}
    {f22 : Addr} {oc22 kV22 dc22 pm22 cd22 ct22 : Value} {od22 an22 : Option Addr} {sl22 : Array (Option Value)}
    {f23 : Addr} {oc23 kV23 dc23 pm23 cd23 ct23 : Value} {od23 an23 : Option Addr} {sl23 : Array (Option Value)}
    {f24 : Addr} {oc24 kV24 dc24 pm24 cd24 ct24 : Value} {od24 an24 : Option Addr} {sl24 : Array (Option Value)}
    {f25 : Addr} {oc25 kV25 dc25 pm25 cd25 ct25 : Value} {od25 an25 : Option Addr} {sl25 : Array (Option Value)}
    {f26 : Addr} {oc26 kV26 dc26 pm26 cd26 ct26 : Value} {od26 an26 : Option Addr} {sl26 : Array (Option Value)}
    {f27 : Addr} {oc27 kV27 dc27 pm27 cd27 ct27 : Value} {od27 an27 : Option Addr} {sl27 : Array (Option Value)}
    {f28 : Addr} {oc28 kV28 dc28 pm28 cd28 ct28 : Value} {od28 an28 : Option Addr} {sl28 : Array (Option Value)}
    {f29 : Addr} {oc29 kV29 dc29 pm29 cd29 ct29 : Value} {od29 an29 : Option Addr} {sl29 : Array (Option Value)}
    {S : Addr}
    {E0 : Addr}
    {E1 : Addr}
    {E2 : Addr}
    {E3 : Addr}
    {E4 : Addr}
    {E5 : Addr}
    {E6 : Addr}
    {E7 : Addr}
    {E8 : Addr}
    {E9 : Addr}
    {E10 : Addr}
    {E11 : Addr}
    {fI0 : Addr} {nm0 q0 : Str} {N0 : Addr} {bs0 sb0 : List Value} {sn0 : List Str} {ab0 : Bool} {col0 : Option Bool} {dd0 : Option Addr} {m00 m10 m20 m30 m50 : Option Value} {ocI0 kVI0 dcI0 pmI0 cdI0 ctI0 : Value} {odI0 anI0 : Option Addr} {slI0 : Array (Option Value)}
    {fI1 : Addr} {nm1 q1 : Str} {N1 : Addr} {bs1 sb1 : List Value} {sn1 : List Str} {ab1 : Bool} {col1 : Option Bool} {dd1 : Option Addr} {m01 m11 m21 m31 m51 : Option Value} {ocI1 kVI1 dcI1 pmI1 cdI1 ctI1 : Value} {odI1 anI1 : Option Addr} {slI1 : Array (Option Value)}
    {fI2 : Addr} {nm2 q2 : Str} {N2 : Addr} {bs2 sb2 : List Value} {sn2 : List Str} {ab2 : Bool} {col2 : Option Bool} {dd2 : Option Addr} {m02 m12 m22 m32 m52 : Option Value} {ocI2 kVI2 dcI2 pmI2 cdI2 ctI2 : Value} {odI2 anI2 : Option Addr} {slI2 : Array (Option Value)}
    {fR DR : Addr} {ocR dcR pmR cdR ctR : Value} {odR anR : Option Addr} {slR : Array (Option Value)} {tR : Tok}
    {fF DF : Addr} {ocF dcF pmF cdF ctF : Value} {odF anF : Option Addr} {slF : Array (Option Value)} {tF : Tok}
    {fU DU : Addr} {ocU dcU pmU cdU ctU : Value} {odU anU : Option Addr} {slU : Array (Option Value)} {tU : Tok}
    {fN cN PN : Addr} {ocN kVN dcN pmN ctN eN : Value} {odN anN ddN : Option Addr} {slN scN : Array (Option Value)} {vsN : Array Value}
    {tML : Tok}
    (a0 : PySem.W.nsIn K mainGlobals "is_integer" = some (some (.ref f0)))
    (l0 : K.lookup f0 = some ⟨oc0, od0, .func (PySem.W.fnOf "is_integer" "is_integer" (defArgs sInteger) (defBody sInteger) (defScope sInteger) .none kV0 dc0 pm0 an0 cd0 ct0), sl0⟩)
    (c0 : PySem.W.codeIn K cd0 "is_integer" = true)
    (k0 : PySem.W.keepIn K (.ref f0) = true)
    (a1 : PySem.W.nsIn K mainGlobals "is_tuple_of" = some (some (.ref f1)))
    (l1 : K.lookup f1 = some ⟨oc1, od1, .func (PySem.W.fnOf "is_tuple_of" "is_tuple_of" (defArgs sTupleOf) (defBody sTupleOf) (defScope sTupleOf) .none kV1 dc1 pm1 an1 cd1 ct1), sl1⟩)
    (c1 : PySem.W.codeIn K cd1 "is_tuple_of" = true)
    (k1 : PySem.W.keepIn K (.ref f1) = true)
    (a2 : PySem.W.nsIn K mainGlobals "check_jobs" = some (some (.ref f2)))
    (l2 : K.lookup f2 = some ⟨oc2, od2, .func (PySem.W.fnOf "check_jobs" "check_jobs" (defArgs sCheck) (defBody sCheck) (defScope sCheck) .none kV2 dc2 pm2 an2 cd2 ct2), sl2⟩)
    (c2 : PySem.W.codeIn K cd2 "check_jobs" = true)
    (k2 : PySem.W.keepIn K (.ref f2) = true)
    (a3 : PySem.W.nsIn K mainGlobals "has_arrived" = some (some (.ref f3)))
    (l3 : K.lookup f3 = some ⟨oc3, od3, .func (PySem.W.fnOf "has_arrived" "has_arrived" (defArgs sHas) (defBody sHas) (defScope sHas) .none kV3 dc3 pm3 an3 cd3 ct3), sl3⟩)
    (c3 : PySem.W.codeIn K cd3 "has_arrived" = true)
    (k3 : PySem.W.keepIn K (.ref f3) = true)
    (a4 : PySem.W.nsIn K mainGlobals "check_each_job" = some (some (.ref f4)))
    (l4 : K.lookup f4 = some ⟨oc4, od4, .func (PySem.W.fnOf "check_each_job" "check_each_job" (defArgs sEach) (defBody sEach) (defScope sEach) .none kV4 dc4 pm4 an4 cd4 ct4), sl4⟩)
    (c4 : PySem.W.codeIn K cd4 "check_each_job" = true)
    (k4 : PySem.W.keepIn K (.ref f4) = true)
    (a5 : PySem.W.nsIn K mainGlobals "is_job" = some (some (.ref f5)))
    (l5 : K.lookup f5 = some ⟨oc5, od5, .func (PySem.W.fnOf "is_job" "is_job" (defArgs sIsJob) (defBody sIsJob) (defScope sIsJob) .none kV5 dc5 pm5 an5 cd5 ct5), sl5⟩)
    (c5 : PySem.W.codeIn K cd5 "is_job" = true)
    (k5 : PySem.W.keepIn K (.ref f5) = true)
    (a6 : PySem.W.nsIn K mainGlobals "is_arrival" = some (some (.ref f6)))
    (l6 : K.lookup f6 = some ⟨oc6, od6, .func (PySem.W.fnOf "is_arrival" "is_arrival" (defArgs sArrival) (defBody sArrival) (defScope sArrival) .none kV6 dc6 pm6 an6 cd6 ct6), sl6⟩)
    (c6 : PySem.W.codeIn K cd6 "is_arrival" = true)
    (k6 : PySem.W.keepIn K (.ref f6) = true)
    (a7 : PySem.W.nsIn K mainGlobals "waits_forever" = some (some (.ref f7)))
    (l7 : K.lookup f7 = some ⟨oc7, od7, .func (PySem.W.fnOf "waits_forever" "waits_forever" (defArgs sWaits) (defBody sWaits) (defScope sWaits) .none kV7 dc7 pm7 an7 cd7 ct7), sl7⟩)
    (c7 : PySem.W.codeIn K cd7 "waits_forever" = true)
    (k7 : PySem.W.keepIn K (.ref f7) = true)
    (a8 : PySem.W.nsIn K mainGlobals "check_lengths" = some (some (.ref f8)))
    (l8 : K.lookup f8 = some ⟨oc8, od8, .func (PySem.W.fnOf "check_lengths" "check_lengths" (defArgs sCheckLens) (defBody sCheckLens) (defScope sCheckLens) .none kV8 dc8 pm8 an8 cd8 ct8), sl8⟩)
    (c8 : PySem.W.codeIn K cd8 "check_lengths" = true)
    (k8 : PySem.W.keepIn K (.ref f8) = true)
    (a9 : PySem.W.nsIn K mainGlobals "check_rule" = some (some (.ref f9)))
    (l9 : K.lookup f9 = some ⟨oc9, od9, .func (PySem.W.fnOf "check_rule" "check_rule" (defArgs sCheckR) (defBody sCheckR) (defScope sCheckR) .none kV9 dc9 pm9 an9 cd9 ct9), sl9⟩)
    (c9 : PySem.W.codeIn K cd9 "check_rule" = true)
    (k9 : PySem.W.keepIn K (.ref f9) = true)
    (a10 : PySem.W.nsIn K mainGlobals "is_level" = some (some (.ref f10)))
    (l10 : K.lookup f10 = some ⟨oc10, od10, .func (PySem.W.fnOf "is_level" "is_level" (defArgs sLevel) (defBody sLevel) (defScope sLevel) .none kV10 dc10 pm10 an10 cd10 ct10), sl10⟩)
    (c10 : PySem.W.codeIn K cd10 "is_level" = true)
    (k10 : PySem.W.keepIn K (.ref f10) = true)
    (a11 : PySem.W.nsIn K mainGlobals "is_count" = some (some (.ref f11)))
    (l11 : K.lookup f11 = some ⟨oc11, od11, .func (PySem.W.fnOf "is_count" "is_count" (defArgs sIsCnt) (defBody sIsCnt) (defScope sIsCnt) .none kV11 dc11 pm11 an11 cd11 ct11), sl11⟩)
    (c11 : PySem.W.codeIn K cd11 "is_count" = true)
    (k11 : PySem.W.keepIn K (.ref f11) = true)
    (a12 : PySem.W.nsIn K mainGlobals "joined" = some (some (.ref f12)))
    (l12 : K.lookup f12 = some ⟨oc12, od12, .func (PySem.W.fnOf "joined" "joined" (defArgs sJoined) (defBody sJoined) (defScope sJoined) .none kV12 dc12 pm12 an12 cd12 ct12), sl12⟩)
    (c12 : PySem.W.codeIn K cd12 "joined" = true)
    (k12 : PySem.W.keepIn K (.ref f12) = true)
    (a13 : PySem.W.nsIn K mainGlobals "checked_course" = some (some (.ref f13)))
    (l13 : K.lookup f13 = some ⟨oc13, od13, .func (PySem.W.fnOf "checked_course" "checked_course" (defArgs sChecked) (defBody sChecked) (defScope sChecked) .none kV13 dc13 pm13 an13 cd13 ct13), sl13⟩)
    (c13 : PySem.W.codeIn K cd13 "checked_course" = true)
    (k13 : PySem.W.keepIn K (.ref f13) = true)
    (a14 : PySem.W.nsIn K mainGlobals "course_by_lengths" = some (some (.ref f14)))
    (l14 : K.lookup f14 = some ⟨oc14, od14, .func (PySem.W.fnOf "course_by_lengths" "course_by_lengths" (defArgs sByLens) (defBody sByLens) (defScope sByLens) .none kV14 dc14 pm14 an14 cd14 ct14), sl14⟩)
    (c14 : PySem.W.codeIn K cd14 "course_by_lengths" = true)
    (k14 : PySem.W.keepIn K (.ref f14) = true)
    (a15 : PySem.W.nsIn K mainGlobals "_law_mix" = some (some (.ref f15)))
    (l15 : K.lookup f15 = some ⟨oc15, od15, .func (PySem.W.fnOf "_law_mix" "_law_mix" (defArgs sMix) (defBody sMix) (defScope sMix) .none kV15 dc15 pm15 an15 cd15 ct15), sl15⟩)
    (c15 : PySem.W.codeIn K cd15 "_law_mix" = true)
    (k15 : PySem.W.keepIn K (.ref f15) = true)
    (a16 : PySem.W.nsIn K mainGlobals "_law_store" = some (some (.ref f16)))
    (l16 : K.lookup f16 = some ⟨oc16, od16, .func (PySem.W.fnOf "_law_store" "_law_store" (defArgs sStore) (defBody sStore) (defScope sStore) .none kV16 dc16 pm16 an16 cd16 ct16), sl16⟩)
    (c16 : PySem.W.codeIn K cd16 "_law_store" = true)
    (k16 : PySem.W.keepIn K (.ref f16) = true)
    (a17 : PySem.W.nsIn K mainGlobals "_law_pick" = some (some (.ref f17)))
    (l17 : K.lookup f17 = some ⟨oc17, od17, .func (PySem.W.fnOf "_law_pick" "_law_pick" (defArgs sPick) (defBody sPick) (defScope sPick) .none kV17 dc17 pm17 an17 cd17 ct17), sl17⟩)
    (c17 : PySem.W.codeIn K cd17 "_law_pick" = true)
    (k17 : PySem.W.keepIn K (.ref f17) = true)
    (a18 : PySem.W.nsIn K mainGlobals "_law_names" = some (some (.ref f18)))
    (l18 : K.lookup f18 = some ⟨oc18, od18, .func (PySem.W.fnOf "_law_names" "_law_names" (defArgs sNames) (defBody sNames) (defScope sNames) .none kV18 dc18 pm18 an18 cd18 ct18), sl18⟩)
    (c18 : PySem.W.codeIn K cd18 "_law_names" = true)
    (k18 : PySem.W.keepIn K (.ref f18) = true)
    (a19 : PySem.W.nsIn K mainGlobals "_law_before" = some (some (.ref f19)))
    (l19 : K.lookup f19 = some ⟨oc19, od19, .func (PySem.W.fnOf "_law_before" "_law_before" (defArgs sBefore) (defBody sBefore) (defScope sBefore) .none kV19 dc19 pm19 an19 cd19 ct19), sl19⟩)
    (c19 : PySem.W.codeIn K cd19 "_law_before" = true)
    (k19 : PySem.W.keepIn K (.ref f19) = true)
    (a20 : PySem.W.nsIn K mainGlobals "_law_jobs" = some (some (.ref f20)))
    (l20 : K.lookup f20 = some ⟨oc20, od20, .func (PySem.W.fnOf "_law_jobs" "_law_jobs" (defArgs sJobs) (defBody sJobs) (defScope sJobs) .none kV20 dc20 pm20 an20 cd20 ct20), sl20⟩)
    (c20 : PySem.W.codeIn K cd20 "_law_jobs" = true)
    (k20 : PySem.W.keepIn K (.ref f20) = true)
    (a21 : PySem.W.nsIn K mainGlobals "_law_rule" = some (some (.ref f21)))
    (l21 : K.lookup f21 = some ⟨oc21, od21, .func (PySem.W.fnOf "_law_rule" "_law_rule" (defArgs sRule) (defBody sRule) (defScope sRule) .none kV21 dc21 pm21 an21 cd21 ct21), sl21⟩)
    (c21 : PySem.W.codeIn K cd21 "_law_rule" = true)
    (k21 : PySem.W.keepIn K (.ref f21) = true)
    (a22 : PySem.W.nsIn K mainGlobals "_law_lengths" = some (some (.ref f22)))
    (l22 : K.lookup f22 = some ⟨oc22, od22, .func (PySem.W.fnOf "_law_lengths" "_law_lengths" (defArgs sLengths) (defBody sLengths) (defScope sLengths) .none kV22 dc22 pm22 an22 cd22 ct22), sl22⟩)
    (c22 : PySem.W.codeIn K cd22 "_law_lengths" = true)
    (k22 : PySem.W.keepIn K (.ref f22) = true)
    (a23 : PySem.W.nsIn K mainGlobals "law" = some (some (.ref f23)))
    (l23 : K.lookup f23 = some ⟨oc23, od23, .func (PySem.W.fnOf "law" "law" (defArgs sLaw) (defBody sLaw) (defScope sLaw) .none kV23 dc23 pm23 an23 cd23 ct23), sl23⟩)
    (c23 : PySem.W.codeIn K cd23 "law" = true)
    (k23 : PySem.W.keepIn K (.ref f23) = true)
    (a24 : PySem.W.nsIn K mainGlobals "_law_kind" = some (some (.ref f24)))
    (l24 : K.lookup f24 = some ⟨oc24, od24, .func (PySem.W.fnOf "_law_kind" "_law_kind" (defArgs sKind) (defBody sKind) (defScope sKind) .none kV24 dc24 pm24 an24 cd24 ct24), sl24⟩)
    (c24 : PySem.W.codeIn K cd24 "_law_kind" = true)
    (k24 : PySem.W.keepIn K (.ref f24) = true)
    (a25 : PySem.W.nsIn K mainGlobals "first_difference" = some (some (.ref f25)))
    (l25 : K.lookup f25 = some ⟨oc25, od25, .func (PySem.W.fnOf "first_difference" "first_difference" (defArgs sFirstD) (defBody sFirstD) (defScope sFirstD) .none kV25 dc25 pm25 an25 cd25 ct25), sl25⟩)
    (c25 : PySem.W.codeIn K cd25 "first_difference" = true)
    (k25 : PySem.W.keepIn K (.ref f25) = true)
    (a26 : PySem.W.nsIn K mainGlobals "_law_names_in" = some (some (.ref f26)))
    (l26 : K.lookup f26 = some ⟨oc26, od26, .func (PySem.W.fnOf "_law_names_in" "_law_names_in" (defArgs sNamesIn) (defBody sNamesIn) (defScope sNamesIn) .none kV26 dc26 pm26 an26 cd26 ct26), sl26⟩)
    (c26 : PySem.W.codeIn K cd26 "_law_names_in" = true)
    (k26 : PySem.W.keepIn K (.ref f26) = true)
    (a27 : PySem.W.nsIn K mainGlobals "_law_first" = some (some (.ref f27)))
    (l27 : K.lookup f27 = some ⟨oc27, od27, .func (PySem.W.fnOf "_law_first" "_law_first" (defArgs sFirstL) (defBody sFirstL) (defScope sFirstL) .none kV27 dc27 pm27 an27 cd27 ct27), sl27⟩)
    (c27 : PySem.W.codeIn K cd27 "_law_first" = true)
    (k27 : PySem.W.keepIn K (.ref f27) = true)
    (a28 : PySem.W.nsIn K mainGlobals "_law_others" = some (some (.ref f28)))
    (l28 : K.lookup f28 = some ⟨oc28, od28, .func (PySem.W.fnOf "_law_others" "_law_others" (defArgs sOthers) (defBody sOthers) (defScope sOthers) .none kV28 dc28 pm28 an28 cd28 ct28), sl28⟩)
    (c28 : PySem.W.codeIn K cd28 "_law_others" = true)
    (k28 : PySem.W.keepIn K (.ref f28) = true)
    (a29 : PySem.W.nsIn K mainGlobals "_law_short_right" = some (some (.ref f29)))
    (l29 : K.lookup f29 = some ⟨oc29, od29, .func (PySem.W.fnOf "_law_short_right" "_law_short_right" (defArgs sShort) (defBody sShort) (defScope sShort) .none kV29 dc29 pm29 an29 cd29 ct29), sl29⟩)
    (c29 : PySem.W.codeIn K cd29 "_law_short_right" = true)
    (k29 : PySem.W.keepIn K (.ref f29) = true)
    (z_len : PySem.W.nsIn K mainGlobals "len" = some none)
    (z_isinstance : PySem.W.nsIn K mainGlobals "isinstance" = some none)
    (z_int : PySem.W.nsIn K mainGlobals "int" = some none)
    (z_bool : PySem.W.nsIn K mainGlobals "bool" = some none)
    (z_tuple : PySem.W.nsIn K mainGlobals "tuple" = some none)
    (z_str : PySem.W.nsIn K mainGlobals "str" = some none)
    (z_range : PySem.W.nsIn K mainGlobals "range" = some none)
    (z_enumerate : PySem.W.nsIn K mainGlobals "enumerate" = some none)
    (z_list : PySem.W.nsIn K mainGlobals "list" = some none)
    (z_all : PySem.W.nsIn K mainGlobals "all" = some none)
    (z_min : PySem.W.nsIn K mainGlobals "min" = some none)
    (z_dict : PySem.W.nsIn K mainGlobals "dict" = some none)
    (z_zip : PySem.W.nsIn K mainGlobals "zip" = some none)
    (z_sorted : PySem.W.nsIn K mainGlobals "sorted" = some none)
    (z_max : PySem.W.nsIn K mainGlobals "max" = some none)
    (aS : PySem.W.nsIn K mainGlobals "SlotError" = some (some (.ref S)))
    (iS : PySem.W.isClsIn K S = true)
    (hS : PySem.W.hasDictIn K S = true)
    (tS : PySem.W.typeIn K (.ref S) = some (.type "type"))
    (eS : PySem.W.subIn K (.ref S) (.type "BaseException") = some true)
    (spG : PySem.W.specialIn K (.builtin "object.__class__") "__get__" = some (some (.builtin "getset_descriptor.__get__")))
    (tkG : PySem.W.takesIn K (.builtin "object.__class__") = some true)
    (zVE : PySem.W.nsIn K mainGlobals "ValueError" = some none)
    (aE0 : PySem.W.nsIn K mainGlobals "NoJobs" = some (some (.ref E0)))
    (iE0 : PySem.W.isClsIn K E0 = true)
    (tE0 : PySem.W.typeIn K (.ref E0) = some (.type "type"))
    (aE1 : PySem.W.nsIn K mainGlobals "NoRule" = some (some (.ref E1)))
    (iE1 : PySem.W.isClsIn K E1 = true)
    (tE1 : PySem.W.typeIn K (.ref E1) = some (.type "type"))
    (aE2 : PySem.W.nsIn K mainGlobals "NoLengths" = some (some (.ref E2)))
    (iE2 : PySem.W.isClsIn K E2 = true)
    (tE2 : PySem.W.typeIn K (.ref E2) = some (.type "type"))
    (aE3 : PySem.W.nsIn K mainGlobals "NoLog" = some (some (.ref E3)))
    (iE3 : PySem.W.isClsIn K E3 = true)
    (tE3 : PySem.W.typeIn K (.ref E3) = some (.type "type"))
    (aE4 : PySem.W.nsIn K mainGlobals "NoMarks" = some (some (.ref E4)))
    (iE4 : PySem.W.isClsIn K E4 = true)
    (tE4 : PySem.W.typeIn K (.ref E4) = some (.type "type"))
    (aE5 : PySem.W.nsIn K mainGlobals "NoNamed" = some (some (.ref E5)))
    (iE5 : PySem.W.isClsIn K E5 = true)
    (tE5 : PySem.W.typeIn K (.ref E5) = some (.type "type"))
    (aE6 : PySem.W.nsIn K mainGlobals "NoOrder" = some (some (.ref E6)))
    (iE6 : PySem.W.isClsIn K E6 = true)
    (tE6 : PySem.W.typeIn K (.ref E6) = some (.type "type"))
    (aE7 : PySem.W.nsIn K mainGlobals "NoText" = some (some (.ref E7)))
    (iE7 : PySem.W.isClsIn K E7 = true)
    (tE7 : PySem.W.typeIn K (.ref E7) = some (.type "type"))
    (aE8 : PySem.W.nsIn K mainGlobals "NoNumber" = some (some (.ref E8)))
    (iE8 : PySem.W.isClsIn K E8 = true)
    (tE8 : PySem.W.typeIn K (.ref E8) = some (.type "type"))
    (aE9 : PySem.W.nsIn K mainGlobals "NoName" = some (some (.ref E9)))
    (iE9 : PySem.W.isClsIn K E9 = true)
    (tE9 : PySem.W.typeIn K (.ref E9) = some (.type "type"))
    (aE10 : PySem.W.nsIn K mainGlobals "NoUndo" = some (some (.ref E10)))
    (iE10 : PySem.W.isClsIn K E10 = true)
    (tE10 : PySem.W.typeIn K (.ref E10) = some (.type "type"))
    (aE11 : PySem.W.nsIn K mainGlobals "NoLine" = some (some (.ref E11)))
    (iE11 : PySem.W.isClsIn K E11 = true)
    (tE11 : PySem.W.typeIn K (.ref E11) = some (.type "type"))
    (x0_ : K.lookup E0 = some (excClassObj nm0 q0 E0 N0 bs0 [.ref S, .type "ValueError", .type "Exception", .type "BaseException", .type "object"] true sn0 sb0 ab0 col0 dd0 m00 m10 m20 m30 m50 "ValueError.__new__"))
    (sa0 : PySem.W.findIn K (.ref E0) "__setattr__" = some (some (.builtin "object.__setattr__")))
    (ga0 : PySem.W.findIn K (.ref E0) "__getattribute__" = some (some (.builtin "BaseException.__getattribute__")))
    (gg0 : PySem.W.findIn K (.ref E0) "__getattr__" = some none)
    (np0 : PySem.W.findIn K (.ref E0) "place" = some none)
    (in0 : PySem.W.findIn K (.ref E0) "__init__" = some (some (.ref fI0)))
    (ti0 : PySem.W.typeIn K (.ref fI0) = some (.type "function"))
    (li0 : K.lookup fI0 = some ⟨ocI0, odI0, .func (PySem.W.fnOf "__init__" "NoJobs.__init__" (defArgs sJobsInit) (defBody sJobsInit) (defScope sJobsInit) .none kVI0 dcI0 pmI0 anI0 cdI0 ctI0), slI0⟩)
    (ci0 : PySem.W.codeIn K cdI0 "NoJobs.__init__" = true)
    (ki0 : PySem.W.keepIn K (.ref fI0) = true)
    (kc0 : PySem.W.keepIn K (.ref E0) = true)
    (ec0 : PySem.W.subIn K (.ref E0) (.type "BaseException") = some true)
    (hc0 : PySem.W.hasDictIn K E0 = true)
    (cc0 : PySem.W.findIn K (.ref E0) "__class__" = some (some (.builtin "object.__class__")))
    (mc0 : PySem.W.mroIn K E0 (.type "object") = some true)
    (vc0 : PySem.W.subIn K (.ref E0) (.type "ValueError") = some true)
    (sc0 : PySem.W.subIn K (.ref E0) (.ref S) = some true)
    (s0_1 : PySem.W.subIn K (.ref E0) (.ref E1) = some false)
    (n0_1 : (Value.ref E0 == Value.ref E1) = false)
    (s0_2 : PySem.W.subIn K (.ref E0) (.ref E2) = some false)
    (n0_2 : (Value.ref E0 == Value.ref E2) = false)
    (s0_3 : PySem.W.subIn K (.ref E0) (.ref E3) = some false)
    (n0_3 : (Value.ref E0 == Value.ref E3) = false)
    (s0_4 : PySem.W.subIn K (.ref E0) (.ref E4) = some false)
    (n0_4 : (Value.ref E0 == Value.ref E4) = false)
    (s0_5 : PySem.W.subIn K (.ref E0) (.ref E5) = some false)
    (n0_5 : (Value.ref E0 == Value.ref E5) = false)
    (s0_6 : PySem.W.subIn K (.ref E0) (.ref E6) = some false)
    (n0_6 : (Value.ref E0 == Value.ref E6) = false)
    (s0_7 : PySem.W.subIn K (.ref E0) (.ref E7) = some false)
    (n0_7 : (Value.ref E0 == Value.ref E7) = false)
    (s0_8 : PySem.W.subIn K (.ref E0) (.ref E8) = some false)
    (n0_8 : (Value.ref E0 == Value.ref E8) = false)
    (s0_9 : PySem.W.subIn K (.ref E0) (.ref E9) = some false)
    (n0_9 : (Value.ref E0 == Value.ref E9) = false)
    (s0_10 : PySem.W.subIn K (.ref E0) (.ref E10) = some false)
    (n0_10 : (Value.ref E0 == Value.ref E10) = false)
    (s0_11 : PySem.W.subIn K (.ref E0) (.ref E11) = some false)
    (n0_11 : (Value.ref E0 == Value.ref E11) = false)
    (x1_ : K.lookup E1 = some (excClassObj nm1 q1 E1 N1 bs1 [.ref S, .type "ValueError", .type "Exception", .type "BaseException", .type "object"] true sn1 sb1 ab1 col1 dd1 m01 m11 m21 m31 m51 "ValueError.__new__"))
    (sa1 : PySem.W.findIn K (.ref E1) "__setattr__" = some (some (.builtin "object.__setattr__")))
    (ga1 : PySem.W.findIn K (.ref E1) "__getattribute__" = some (some (.builtin "BaseException.__getattribute__")))
    (gg1 : PySem.W.findIn K (.ref E1) "__getattr__" = some none)
    (np1 : PySem.W.findIn K (.ref E1) "place" = some none)
    (in1 : PySem.W.findIn K (.ref E1) "__init__" = some (some (.ref fI1)))
    (ti1 : PySem.W.typeIn K (.ref fI1) = some (.type "function"))
    (li1 : K.lookup fI1 = some ⟨ocI1, odI1, .func (PySem.W.fnOf "__init__" "NoRule.__init__" (defArgs sRuleInit) (defBody sRuleInit) (defScope sRuleInit) .none kVI1 dcI1 pmI1 anI1 cdI1 ctI1), slI1⟩)
    (ci1 : PySem.W.codeIn K cdI1 "NoRule.__init__" = true)
    (ki1 : PySem.W.keepIn K (.ref fI1) = true)
    (kc1 : PySem.W.keepIn K (.ref E1) = true)
    (ec1 : PySem.W.subIn K (.ref E1) (.type "BaseException") = some true)
    (hc1 : PySem.W.hasDictIn K E1 = true)
    (cc1 : PySem.W.findIn K (.ref E1) "__class__" = some (some (.builtin "object.__class__")))
    (mc1 : PySem.W.mroIn K E1 (.type "object") = some true)
    (vc1 : PySem.W.subIn K (.ref E1) (.type "ValueError") = some true)
    (sc1 : PySem.W.subIn K (.ref E1) (.ref S) = some true)
    (s1_0 : PySem.W.subIn K (.ref E1) (.ref E0) = some false)
    (n1_0 : (Value.ref E1 == Value.ref E0) = false)
    (s1_2 : PySem.W.subIn K (.ref E1) (.ref E2) = some false)
    (n1_2 : (Value.ref E1 == Value.ref E2) = false)
    (s1_3 : PySem.W.subIn K (.ref E1) (.ref E3) = some false)
    (n1_3 : (Value.ref E1 == Value.ref E3) = false)
    (s1_4 : PySem.W.subIn K (.ref E1) (.ref E4) = some false)
    (n1_4 : (Value.ref E1 == Value.ref E4) = false)
    (s1_5 : PySem.W.subIn K (.ref E1) (.ref E5) = some false)
    (n1_5 : (Value.ref E1 == Value.ref E5) = false)
    (s1_6 : PySem.W.subIn K (.ref E1) (.ref E6) = some false)
    (n1_6 : (Value.ref E1 == Value.ref E6) = false)
    (s1_7 : PySem.W.subIn K (.ref E1) (.ref E7) = some false)
    (n1_7 : (Value.ref E1 == Value.ref E7) = false)
    (s1_8 : PySem.W.subIn K (.ref E1) (.ref E8) = some false)
    (n1_8 : (Value.ref E1 == Value.ref E8) = false)
    (s1_9 : PySem.W.subIn K (.ref E1) (.ref E9) = some false)
    (n1_9 : (Value.ref E1 == Value.ref E9) = false)
    (s1_10 : PySem.W.subIn K (.ref E1) (.ref E10) = some false)
    (n1_10 : (Value.ref E1 == Value.ref E10) = false)
    (s1_11 : PySem.W.subIn K (.ref E1) (.ref E11) = some false)
    (n1_11 : (Value.ref E1 == Value.ref E11) = false)
    (x2_ : K.lookup E2 = some (excClassObj nm2 q2 E2 N2 bs2 [.ref S, .type "ValueError", .type "Exception", .type "BaseException", .type "object"] true sn2 sb2 ab2 col2 dd2 m02 m12 m22 m32 m52 "ValueError.__new__"))
    (sa2 : PySem.W.findIn K (.ref E2) "__setattr__" = some (some (.builtin "object.__setattr__")))
    (ga2 : PySem.W.findIn K (.ref E2) "__getattribute__" = some (some (.builtin "BaseException.__getattribute__")))
    (gg2 : PySem.W.findIn K (.ref E2) "__getattr__" = some none)
    (np2 : PySem.W.findIn K (.ref E2) "place" = some none)
    (in2 : PySem.W.findIn K (.ref E2) "__init__" = some (some (.ref fI2)))
    (ti2 : PySem.W.typeIn K (.ref fI2) = some (.type "function"))
    (li2 : K.lookup fI2 = some ⟨ocI2, odI2, .func (PySem.W.fnOf "__init__" "NoLengths.__init__" (defArgs sLensInit) (defBody sLensInit) (defScope sLensInit) .none kVI2 dcI2 pmI2 anI2 cdI2 ctI2), slI2⟩)
    (ci2 : PySem.W.codeIn K cdI2 "NoLengths.__init__" = true)
    (ki2 : PySem.W.keepIn K (.ref fI2) = true)
    (kc2 : PySem.W.keepIn K (.ref E2) = true)
    (ec2 : PySem.W.subIn K (.ref E2) (.type "BaseException") = some true)
    (hc2 : PySem.W.hasDictIn K E2 = true)
    (cc2 : PySem.W.findIn K (.ref E2) "__class__" = some (some (.builtin "object.__class__")))
    (mc2 : PySem.W.mroIn K E2 (.type "object") = some true)
    (vc2 : PySem.W.subIn K (.ref E2) (.type "ValueError") = some true)
    (sc2 : PySem.W.subIn K (.ref E2) (.ref S) = some true)
    (s2_0 : PySem.W.subIn K (.ref E2) (.ref E0) = some false)
    (n2_0 : (Value.ref E2 == Value.ref E0) = false)
    (s2_1 : PySem.W.subIn K (.ref E2) (.ref E1) = some false)
    (n2_1 : (Value.ref E2 == Value.ref E1) = false)
    (s2_3 : PySem.W.subIn K (.ref E2) (.ref E3) = some false)
    (n2_3 : (Value.ref E2 == Value.ref E3) = false)
    (s2_4 : PySem.W.subIn K (.ref E2) (.ref E4) = some false)
    (n2_4 : (Value.ref E2 == Value.ref E4) = false)
    (s2_5 : PySem.W.subIn K (.ref E2) (.ref E5) = some false)
    (n2_5 : (Value.ref E2 == Value.ref E5) = false)
    (s2_6 : PySem.W.subIn K (.ref E2) (.ref E6) = some false)
    (n2_6 : (Value.ref E2 == Value.ref E6) = false)
    (s2_7 : PySem.W.subIn K (.ref E2) (.ref E7) = some false)
    (n2_7 : (Value.ref E2 == Value.ref E7) = false)
    (s2_8 : PySem.W.subIn K (.ref E2) (.ref E8) = some false)
    (n2_8 : (Value.ref E2 == Value.ref E8) = false)
    (s2_9 : PySem.W.subIn K (.ref E2) (.ref E9) = some false)
    (n2_9 : (Value.ref E2 == Value.ref E9) = false)
    (s2_10 : PySem.W.subIn K (.ref E2) (.ref E10) = some false)
    (n2_10 : (Value.ref E2 == Value.ref E10) = false)
    (s2_11 : PySem.W.subIn K (.ref E2) (.ref E11) = some false)
    (n2_11 : (Value.ref E2 == Value.ref E11) = false)
    (aR : PySem.W.nsIn K mainGlobals "run" = some (some (.ref fR)))
    (lR : K.lookup fR = some ⟨ocR, odR, .func (PySem.W.fnOf "run" "run" (defArgs sRun) (defBody sRun) (defScope sRun) .none (.ref DR) dcR pmR anR cdR ctR), slR⟩)
    (cR : PySem.W.codeIn K cdR "run" = true)
    (kR : PySem.W.keepIn K (.ref fR) = true)
    (nR : PySem.W.nsIn K DR "processors" = some (some (.int 1 tR)))
    (aF : PySem.W.nsIn K mainGlobals "finish_units" = some (some (.ref fF)))
    (lF : K.lookup fF = some ⟨ocF, odF, .func (PySem.W.fnOf "finish_units" "finish_units" (defArgs sFinish) (defBody sFinish) (defScope sFinish) .none (.ref DF) dcF pmF anF cdF ctF), slF⟩)
    (cF : PySem.W.codeIn K cdF "finish_units" = true)
    (kF : PySem.W.keepIn K (.ref fF) = true)
    (nF : PySem.W.nsIn K DF "processors" = some (some (.int 1 tF)))
    (aU : PySem.W.nsIn K mainGlobals "first_split" = some (some (.ref fU)))
    (lU : K.lookup fU = some ⟨ocU, odU, .func (PySem.W.fnOf "first_split" "first_split" (defArgs sSplit) (defBody sSplit) (defScope sSplit) .none (.ref DU) dcU pmU anU cdU ctU), slU⟩)
    (cU : PySem.W.codeIn K cdU "first_split" = true)
    (kU : PySem.W.keepIn K (.ref fU) = true)
    (nU : PySem.W.nsIn K DU "processors" = some (some (.int 1 tU)))
    (aN : PySem.W.nsIn K mainGlobals "is_name" = some (some (.ref fN)))
    (lN : K.lookup fN = some ⟨ocN, odN, .func (PySem.W.fnOf "is_name" "is_name" (defArgs sName) (defBody sName) (defScope sName) .none kVN dcN pmN anN (.ref cN) ctN), slN⟩)
    (cNf : PySem.W.codeIn K (.ref cN) "is_name" = true)
    (kNf : PySem.W.keepIn K (.ref fN) = true)
    (hcN : K.lookup cN = some ⟨eN, ddN, .fields vsN, scN⟩)
    (hvN : (vsN[11]? : Option Value) = some (.ref PN))
    (nPN : K.lookup PN = none)
    (aML : PySem.W.nsIn K mainGlobals "MOST_LEVELS" = some (some (.int 6 tML)))
    (g_Board : PySem.W.nsIn K mainGlobals "Board" = some (some (.ref (He.ga K "Board"))))
    (cl_Board : (He.Fa.cls "Board").ok K = true)
    (mk_Board : (He.Fa.mkr "Board").ok K = true)
    (no_Board_rule : (He.Fa.noat "Board" "rule").ok K = true)
    (no_Board_processors : (He.Fa.noat "Board" "processors").ok K = true)
    (no_Board_now : (He.Fa.noat "Board" "now").ok K = true)
    (no_Board_lines : (He.Fa.noat "Board" "lines").ok K = true)
    (no_Board_used : (He.Fa.noat "Board" "used").ok K = true)
    (no_Board_ran : (He.Fa.noat "Board" "ran").ok K = true)
    (no_Board_finishes : (He.Fa.noat "Board" "finishes").ok K = true)
    (fw_Board___init__ : ∃ fd, FunD K "__init__" "Board.__init__" (defArgs sBdInit) (defBody sBdInit) (defScope sBdInit) [] [] (mA K "Board" "__init__") fd)
    (me_Board_enter : (He.Fa.meth "Board" "enter").ok K = true)
    (fw_Board_enter : ∃ fd, FunD K "enter" "Board.enter" (defArgs sBdEnter) (defBody sBdEnter) (defScope sBdEnter) [] [] (mA K "Board" "enter") fd)
    (me_Board_order : (He.Fa.meth "Board" "order").ok K = true)
    (fw_Board_order : ∃ fd, FunD K "order" "Board.order" (defArgs sBdOrder) (defBody sBdOrder) (defScope sBdOrder) [] [] (mA K "Board" "order") fd)
    (me_Board_running : (He.Fa.meth "Board" "running").ok K = true)
    (fw_Board_running : ∃ fd, FunD K "running" "Board.running" (defArgs sBdRunning) (defBody sBdRunning) (defScope sBdRunning) [] [] (mA K "Board" "running") fd)
    (me_Board_level_of : (He.Fa.meth "Board" "level_of").ok K = true)
    (fw_Board_level_of : ∃ fd, FunD K "level_of" "Board.level_of" (defArgs sBdLevelOf) (defBody sBdLevelOf) (defScope sBdLevelOf) [] [] (mA K "Board" "level_of") fd)
    (me_Board_many_finished : (He.Fa.meth "Board" "many_finished").ok K = true)
    (fw_Board_many_finished : ∃ fd, FunD K "many_finished" "Board.many_finished" (defArgs sBdMany) (defBody sBdMany) (defScope sBdMany) [] [] (mA K "Board" "many_finished") fd)
    (me_Board_ends : (He.Fa.meth "Board" "ends").ok K = true)
    (fw_Board_ends : ∃ fd, FunD K "ends" "Board.ends" (defArgs sBdEnds) (defBody sBdEnds) (defScope sBdEnds) [] [] (mA K "Board" "ends") fd)
    (me_Board_end_units : (He.Fa.meth "Board" "end_units").ok K = true)
    (fw_Board_end_units : ∃ fd, FunD K "end_units" "Board.end_units" (defArgs sBdEndUnits) (defBody sBdEndUnits) (defScope sBdEndUnits) [] [] (mA K "Board" "end_units") fd)
    (me_Board_end_quanta : (He.Fa.meth "Board" "end_quanta").ok K = true)
    (fw_Board_end_quanta : ∃ fd, FunD K "end_quanta" "Board.end_quanta" (defArgs sBdEndQuanta) (defBody sBdEndQuanta) (defScope sBdEndQuanta) [] [] (mA K "Board" "end_quanta") fd)
    (me_Board_lift : (He.Fa.meth "Board" "lift").ok K = true)
    (fw_Board_lift : ∃ fd, FunD K "lift" "Board.lift" (defArgs sBdLift) (defBody sBdLift) (defScope sBdLift) [] [] (mA K "Board" "lift") fd)
    (me_Board_log : (He.Fa.meth "Board" "log").ok K = true)
    (fw_Board_log : ∃ fd, FunD K "log" "Board.log" (defArgs sBdLog) (defBody sBdLog) (defScope sBdLog) [] [] (mA K "Board" "log") fd)
    (me_Board_lengths : (He.Fa.meth "Board" "lengths").ok K = true)
    (fw_Board_lengths : ∃ fd, FunD K "lengths" "Board.lengths" (defArgs sBdLengths) (defBody sBdLengths) (defScope sBdLengths) [] [] (mA K "Board" "lengths") fd)
    (g_Course : PySem.W.nsIn K mainGlobals "Course" = some (some (.ref (He.ga K "Course"))))
    (cl_Course : (He.Fa.cls "Course").ok K = true)
    (mk_Course : (He.Fa.mkr "Course").ok K = true)
    (no_Course_board : (He.Fa.noat "Course" "board").ok K = true)
    (no_Course_coming : (He.Fa.noat "Course" "coming").ok K = true)
    (no_Course_pieces : (He.Fa.noat "Course" "pieces").ok K = true)
    (fw_Course___init__ : ∃ fd, FunD K "__init__" "Course.__init__" (defArgs sCoInit) (defBody sCoInit) (defScope sCoInit) [] [] (mA K "Course" "__init__") fd)
    (me_Course_let_in : (He.Fa.meth "Course" "let_in").ok K = true)
    (fw_Course_let_in : ∃ fd, FunD K "let_in" "Course.let_in" (defArgs sCoLetIn) (defBody sCoLetIn) (defScope sCoLetIn) [] [] (mA K "Course" "let_in") fd)
    (me_Course_ends : (He.Fa.meth "Course" "ends").ok K = true)
    (fw_Course_ends : ∃ fd, FunD K "ends" "Course.ends" (defArgs sCoEnds) (defBody sCoEnds) (defScope sCoEnds) [] [] (mA K "Course" "ends") fd)
    (me_Course_go_on : (He.Fa.meth "Course" "go_on").ok K = true)
    (fw_Course_go_on : ∃ fd, FunD K "go_on" "Course.go_on" (defArgs sCoGoOn) (defBody sCoGoOn) (defScope sCoGoOn) [] [] (mA K "Course" "go_on") fd)
    (me_Course_stretches : (He.Fa.meth "Course" "stretches").ok K = true)
    (fw_Course_stretches : ∃ fd, FunD K "stretches" "Course.stretches" (defArgs sCoStretches) (defBody sCoStretches) (defScope sCoStretches) [] [] (mA K "Course" "stretches") fd)
    : LawTab l w K mg fa := by
  have D0 : Df K mg "is_integer" sInteger ["value", "least"] := by
    have F := fun_mk (st := sInteger) l0 c0 k0
    exact ⟨_, _, PySem.W.mg_of X G a0, F, F.binds (ps := ["value", "least"]) fun _ _ _ _ _ _ us hl => match us, hl with | [_, _], _ => rfl⟩
  have D1 : Df K mg "is_tuple_of" sTupleOf ["value", "many"] := by
    have F := fun_mk (st := sTupleOf) l1 c1 k1
    exact ⟨_, _, PySem.W.mg_of X G a1, F, F.binds (ps := ["value", "many"]) fun _ _ _ _ _ _ us hl => match us, hl with | [_, _], _ => rfl⟩
  have D2 : Df K mg "check_jobs" sCheck ["jobs"] := by
    have F := fun_mk (st := sCheck) l2 c2 k2
    exact ⟨_, _, PySem.W.mg_of X G a2, F, F.binds (ps := ["jobs"]) fun _ _ _ _ _ _ us hl => match us, hl with | [_], _ => rfl⟩
  have D3 : Df K mg "has_arrived" sHas ["job", "moment", "finished"] := by
    have F := fun_mk (st := sHas) l3 c3 k3
    exact ⟨_, _, PySem.W.mg_of X G a3, F, F.binds (ps := ["job", "moment", "finished"]) fun _ _ _ _ _ _ us hl => match us, hl with | [_, _, _], _ => rfl⟩
  have D4 : Df K mg "check_each_job" sEach ["jobs"] := by
    have F := fun_mk (st := sEach) l4 c4 k4
    exact ⟨_, _, PySem.W.mg_of X G a4, F, F.binds (ps := ["jobs"]) fun _ _ _ _ _ _ us hl => match us, hl with | [_], _ => rfl⟩
  have D5 : Df K mg "is_job" sIsJob ["job"] := by
    have F := fun_mk (st := sIsJob) l5 c5 k5
    exact ⟨_, _, PySem.W.mg_of X G a5, F, F.binds (ps := ["job"]) fun _ _ _ _ _ _ us hl => match us, hl with | [_], _ => rfl⟩
  have D6 : Df K mg "is_arrival" sArrival ["arrival"] := by
    have F := fun_mk (st := sArrival) l6 c6 k6
    exact ⟨_, _, PySem.W.mg_of X G a6, F, F.binds (ps := ["arrival"]) fun _ _ _ _ _ _ us hl => match us, hl with | [_], _ => rfl⟩
  have D7 : Df K mg "waits_forever" sWaits ["job", "jobs"] := by
    have F := fun_mk (st := sWaits) l7 c7 k7
    exact ⟨_, _, PySem.W.mg_of X G a7, F, F.binds (ps := ["job", "jobs"]) fun _ _ _ _ _ _ us hl => match us, hl with | [_, _], _ => rfl⟩
  have D8 : Df K mg "check_lengths" sCheckLens ["lengths", "many"] := by
    have F := fun_mk (st := sCheckLens) l8 c8 k8
    exact ⟨_, _, PySem.W.mg_of X G a8, F, F.binds (ps := ["lengths", "many"]) fun _ _ _ _ _ _ us hl => match us, hl with | [_, _], _ => rfl⟩
  have D9 : Df K mg "check_rule" sCheckR ["rule"] := by
    have F := fun_mk (st := sCheckR) l9 c9 k9
    exact ⟨_, _, PySem.W.mg_of X G a9, F, F.binds (ps := ["rule"]) fun _ _ _ _ _ _ us hl => match us, hl with | [_], _ => rfl⟩
  have D10 : Df K mg "is_level" sLevel ["level"] := by
    have F := fun_mk (st := sLevel) l10 c10 k10
    exact ⟨_, _, PySem.W.mg_of X G a10, F, F.binds (ps := ["level"]) fun _ _ _ _ _ _ us hl => match us, hl with | [_], _ => rfl⟩
  have D11 : Df K mg "is_count" sIsCnt ["value"] := by
    have F := fun_mk (st := sIsCnt) l11 c11 k11
    exact ⟨_, _, PySem.W.mg_of X G a11, F, F.binds (ps := ["value"]) fun _ _ _ _ _ _ us hl => match us, hl with | [_], _ => rfl⟩
  have D12 : Df K mg "joined" sJoined ["pieces"] := by
    have F := fun_mk (st := sJoined) l12 c12 k12
    exact ⟨_, _, PySem.W.mg_of X G a12, F, F.binds (ps := ["pieces"]) fun _ _ _ _ _ _ us hl => match us, hl with | [_], _ => rfl⟩
  have D13 : Df K mg "checked_course" sChecked ["jobs", "lengths", "rule", "processors"] := by
    have F := fun_mk (st := sChecked) l13 c13 k13
    exact ⟨_, _, PySem.W.mg_of X G a13, F, F.binds (ps := ["jobs", "lengths", "rule", "processors"]) fun _ _ _ _ _ _ us hl => match us, hl with | [_, _, _, _], _ => rfl⟩
  have D14 : Df K mg "course_by_lengths" sByLens ["jobs", "lengths", "rule", "processors"] := by
    have F := fun_mk (st := sByLens) l14 c14 k14
    exact ⟨_, _, PySem.W.mg_of X G a14, F, F.binds (ps := ["jobs", "lengths", "rule", "processors"]) fun _ _ _ _ _ _ us hl => match us, hl with | [_, _, _, _], _ => rfl⟩
  have D15 : Df K mg "_law_mix" sMix ["number", "turn"] := by
    have F := fun_mk (st := sMix) l15 c15 k15
    exact ⟨_, _, PySem.W.mg_of X G a15, F, F.binds (ps := ["number", "turn"]) fun _ _ _ _ _ _ us hl => match us, hl with | [_, _], _ => rfl⟩
  have D16 : Df K mg "_law_store" sStore ["script"] := by
    have F := fun_mk (st := sStore) l16 c16 k16
    exact ⟨_, _, PySem.W.mg_of X G a16, F, F.binds (ps := ["script"]) fun _ _ _ _ _ _ us hl => match us, hl with | [_], _ => rfl⟩
  have D17 : Df K mg "_law_pick" sPick ["store", "count"] := by
    have F := fun_mk (st := sPick) l17 c17 k17
    exact ⟨_, _, PySem.W.mg_of X G a17, F, F.binds (ps := ["store", "count"]) fun _ _ _ _ _ _ us hl => match us, hl with | [_, _], _ => rfl⟩
  have D18 : Df K mg "_law_names" sNames ["store", "count"] := by
    have F := fun_mk (st := sNames) l18 c18 k18
    exact ⟨_, _, PySem.W.mg_of X G a18, F, F.binds (ps := ["store", "count"]) fun _ _ _ _ _ _ us hl => match us, hl with | [_, _], _ => rfl⟩
  have D19 : Df K mg "_law_before" sBefore ["arrival", "finishes"] := by
    have F := fun_mk (st := sBefore) l19 c19 k19
    exact ⟨_, _, PySem.W.mg_of X G a19, F, F.binds (ps := ["arrival", "finishes"]) fun _ _ _ _ _ _ us hl => match us, hl with | [_, _], _ => rfl⟩
  have D20 : Df K mg "_law_jobs" sJobs ["store", "most", "late"] := by
    have F := fun_mk (st := sJobs) l20 c20 k20
    exact ⟨_, _, PySem.W.mg_of X G a20, F, F.binds (ps := ["store", "most", "late"]) fun _ _ _ _ _ _ us hl => match us, hl with | [_, _, _], _ => rfl⟩
  have D21 : Df K mg "_law_rule" sRule ["store"] := by
    have F := fun_mk (st := sRule) l21 c21 k21
    exact ⟨_, _, PySem.W.mg_of X G a21, F, F.binds (ps := ["store"]) fun _ _ _ _ _ _ us hl => match us, hl with | [_], _ => rfl⟩
  have D22 : Df K mg "_law_lengths" sLengths ["store", "count", "most"] := by
    have F := fun_mk (st := sLengths) l22 c22 k22
    exact ⟨_, _, PySem.W.mg_of X G a22, F, F.binds (ps := ["store", "count", "most"]) fun _ _ _ _ _ _ us hl => match us, hl with | [_, _, _], _ => rfl⟩
  have D23 : Df K mg "law" sLaw ["script"] := by
    have F := fun_mk (st := sLaw) l23 c23 k23
    exact ⟨_, _, PySem.W.mg_of X G a23, F, F.binds (ps := ["script"]) fun _ _ _ _ _ _ us hl => match us, hl with | [_], _ => rfl⟩
  have D24 : Df K mg "_law_kind" sKind ["caught"] := by
    have F := fun_mk (st := sKind) l24 c24 k24
    exact ⟨_, _, PySem.W.mg_of X G a24, F, F.binds (ps := ["caught"]) fun _ _ _ _ _ _ us hl => match us, hl with | [_], _ => rfl⟩
  have D25 : Df K mg "first_difference" sFirstD ["ours", "theirs"] := by
    have F := fun_mk (st := sFirstD) l25 c25 k25
    exact ⟨_, _, PySem.W.mg_of X G a25, F, F.binds (ps := ["ours", "theirs"]) fun _ _ _ _ _ _ us hl => match us, hl with | [_, _], _ => rfl⟩
  have D26 : Df K mg "_law_names_in" sNamesIn ["rows", "unit"] := by
    have F := fun_mk (st := sNamesIn) l26 c26 k26
    exact ⟨_, _, PySem.W.mg_of X G a26, F, F.binds (ps := ["rows", "unit"]) fun _ _ _ _ _ _ us hl => match us, hl with | [_, _], _ => rfl⟩
  have D27 : Df K mg "_law_first" sFirstL ["one", "two"] := by
    have F := fun_mk (st := sFirstL) l27 c27 k27
    exact ⟨_, _, PySem.W.mg_of X G a27, F, F.binds (ps := ["one", "two"]) fun _ _ _ _ _ _ us hl => match us, hl with | [_, _], _ => rfl⟩
  have D28 : Df K mg "_law_others" sOthers ["store", "lengths"] := by
    have F := fun_mk (st := sOthers) l28 c28 k28
    exact ⟨_, _, PySem.W.mg_of X G a28, F, F.binds (ps := ["store", "lengths"]) fun _ _ _ _ _ _ us hl => match us, hl with | [_, _], _ => rfl⟩
  have D29 : Df K mg "_law_short_right" sShort ["jobs", "lengths", "policy"] := by
    have F := fun_mk (st := sShort) l29 c29 k29
    exact ⟨_, _, PySem.W.mg_of X G a29, F, F.binds (ps := ["jobs", "lengths", "policy"]) fun _ _ _ _ _ _ us hl => match us, hl with | [_, _, _], _ => rfl⟩
  have oex0 : OexC K E0 := ⟨⟨_, _, _, _, _, _, _, _, _, _, _, _, _, _, _, x0_, rfl⟩, sa0, ec0, tE0, kc0⟩
  have exc0 : ExcC K E0 := ⟨ga0, gg0, ec0, hc0, cc0, spG, tkG, mc0⟩
  have xfc0 : XfC K E0 := ⟨ga0, gg0, ec0, hc0⟩
  have nit0 : Nit K "NoJobs" "NoJobs.__init__" "place" sJobsInit E0 := by
    have F : Fun K "__init__" "NoJobs.__init__" sJobsInit fI0 _ := fun_mk (st := sJobsInit) li0 ci0 ki0
    exact ⟨_, _, in0, ti0, F, F.binds (ps := ["self", "place"]) fun _ _ _ _ _ _ us hl => match us, hl with | [_, _], _ => rfl⟩
  have kn0 : Kn K mg E0 0 := ⟨exc0, xfc0, np0, PySem.W.mg_none_of X G zVE, kit_ve vc0, ⟨S, PySem.W.mg_of X G aS, kit_sub iS tS sc0, PySem.W.exm_ref eS hS tS sc0⟩,
    ⟨_, PySem.W.mg_of X G aE0, by rw [kit_same]; rfl⟩,
    ⟨_, PySem.W.mg_of X G aE1, by rw [kit_ref n0_1 iE1 tE1 s0_1]; rfl⟩,
    ⟨_, PySem.W.mg_of X G aE2, by rw [kit_ref n0_2 iE2 tE2 s0_2]; rfl⟩,
    ⟨_, PySem.W.mg_of X G aE3, by rw [kit_ref n0_3 iE3 tE3 s0_3]; rfl⟩,
    ⟨_, PySem.W.mg_of X G aE4, by rw [kit_ref n0_4 iE4 tE4 s0_4]; rfl⟩,
    ⟨_, PySem.W.mg_of X G aE5, by rw [kit_ref n0_5 iE5 tE5 s0_5]; rfl⟩,
    ⟨_, PySem.W.mg_of X G aE6, by rw [kit_ref n0_6 iE6 tE6 s0_6]; rfl⟩,
    ⟨_, PySem.W.mg_of X G aE7, by rw [kit_ref n0_7 iE7 tE7 s0_7]; rfl⟩,
    ⟨_, PySem.W.mg_of X G aE8, by rw [kit_ref n0_8 iE8 tE8 s0_8]; rfl⟩,
    ⟨_, PySem.W.mg_of X G aE9, by rw [kit_ref n0_9 iE9 tE9 s0_9]; rfl⟩,
    ⟨_, PySem.W.mg_of X G aE10, by rw [kit_ref n0_10 iE10 tE10 s0_10]; rfl⟩,
    ⟨_, PySem.W.mg_of X G aE11, by rw [kit_ref n0_11 iE11 tE11 s0_11]; rfl⟩⟩
  have oex1 : OexC K E1 := ⟨⟨_, _, _, _, _, _, _, _, _, _, _, _, _, _, _, x1_, rfl⟩, sa1, ec1, tE1, kc1⟩
  have exc1 : ExcC K E1 := ⟨ga1, gg1, ec1, hc1, cc1, spG, tkG, mc1⟩
  have xfc1 : XfC K E1 := ⟨ga1, gg1, ec1, hc1⟩
  have nit1 : Nit K "NoRule" "NoRule.__init__" "place" sRuleInit E1 := by
    have F : Fun K "__init__" "NoRule.__init__" sRuleInit fI1 _ := fun_mk (st := sRuleInit) li1 ci1 ki1
    exact ⟨_, _, in1, ti1, F, F.binds (ps := ["self", "place"]) fun _ _ _ _ _ _ us hl => match us, hl with | [_, _], _ => rfl⟩
  have kn1 : Kn K mg E1 1 := ⟨exc1, xfc1, np1, PySem.W.mg_none_of X G zVE, kit_ve vc1, ⟨S, PySem.W.mg_of X G aS, kit_sub iS tS sc1, PySem.W.exm_ref eS hS tS sc1⟩,
    ⟨_, PySem.W.mg_of X G aE0, by rw [kit_ref n1_0 iE0 tE0 s1_0]; rfl⟩,
    ⟨_, PySem.W.mg_of X G aE1, by rw [kit_same]; rfl⟩,
    ⟨_, PySem.W.mg_of X G aE2, by rw [kit_ref n1_2 iE2 tE2 s1_2]; rfl⟩,
    ⟨_, PySem.W.mg_of X G aE3, by rw [kit_ref n1_3 iE3 tE3 s1_3]; rfl⟩,
    ⟨_, PySem.W.mg_of X G aE4, by rw [kit_ref n1_4 iE4 tE4 s1_4]; rfl⟩,
    ⟨_, PySem.W.mg_of X G aE5, by rw [kit_ref n1_5 iE5 tE5 s1_5]; rfl⟩,
    ⟨_, PySem.W.mg_of X G aE6, by rw [kit_ref n1_6 iE6 tE6 s1_6]; rfl⟩,
    ⟨_, PySem.W.mg_of X G aE7, by rw [kit_ref n1_7 iE7 tE7 s1_7]; rfl⟩,
    ⟨_, PySem.W.mg_of X G aE8, by rw [kit_ref n1_8 iE8 tE8 s1_8]; rfl⟩,
    ⟨_, PySem.W.mg_of X G aE9, by rw [kit_ref n1_9 iE9 tE9 s1_9]; rfl⟩,
    ⟨_, PySem.W.mg_of X G aE10, by rw [kit_ref n1_10 iE10 tE10 s1_10]; rfl⟩,
    ⟨_, PySem.W.mg_of X G aE11, by rw [kit_ref n1_11 iE11 tE11 s1_11]; rfl⟩⟩
  have oex2 : OexC K E2 := ⟨⟨_, _, _, _, _, _, _, _, _, _, _, _, _, _, _, x2_, rfl⟩, sa2, ec2, tE2, kc2⟩
  have exc2 : ExcC K E2 := ⟨ga2, gg2, ec2, hc2, cc2, spG, tkG, mc2⟩
  have xfc2 : XfC K E2 := ⟨ga2, gg2, ec2, hc2⟩
  have nit2 : Nit K "NoLengths" "NoLengths.__init__" "place" sLensInit E2 := by
    have F : Fun K "__init__" "NoLengths.__init__" sLensInit fI2 _ := fun_mk (st := sLensInit) li2 ci2 ki2
    exact ⟨_, _, in2, ti2, F, F.binds (ps := ["self", "place"]) fun _ _ _ _ _ _ us hl => match us, hl with | [_, _], _ => rfl⟩
  have kn2 : Kn K mg E2 2 := ⟨exc2, xfc2, np2, PySem.W.mg_none_of X G zVE, kit_ve vc2, ⟨S, PySem.W.mg_of X G aS, kit_sub iS tS sc2, PySem.W.exm_ref eS hS tS sc2⟩,
    ⟨_, PySem.W.mg_of X G aE0, by rw [kit_ref n2_0 iE0 tE0 s2_0]; rfl⟩,
    ⟨_, PySem.W.mg_of X G aE1, by rw [kit_ref n2_1 iE1 tE1 s2_1]; rfl⟩,
    ⟨_, PySem.W.mg_of X G aE2, by rw [kit_same]; rfl⟩,
    ⟨_, PySem.W.mg_of X G aE3, by rw [kit_ref n2_3 iE3 tE3 s2_3]; rfl⟩,
    ⟨_, PySem.W.mg_of X G aE4, by rw [kit_ref n2_4 iE4 tE4 s2_4]; rfl⟩,
    ⟨_, PySem.W.mg_of X G aE5, by rw [kit_ref n2_5 iE5 tE5 s2_5]; rfl⟩,
    ⟨_, PySem.W.mg_of X G aE6, by rw [kit_ref n2_6 iE6 tE6 s2_6]; rfl⟩,
    ⟨_, PySem.W.mg_of X G aE7, by rw [kit_ref n2_7 iE7 tE7 s2_7]; rfl⟩,
    ⟨_, PySem.W.mg_of X G aE8, by rw [kit_ref n2_8 iE8 tE8 s2_8]; rfl⟩,
    ⟨_, PySem.W.mg_of X G aE9, by rw [kit_ref n2_9 iE9 tE9 s2_9]; rfl⟩,
    ⟨_, PySem.W.mg_of X G aE10, by rw [kit_ref n2_10 iE10 tE10 s2_10]; rfl⟩,
    ⟨_, PySem.W.mg_of X G aE11, by rw [kit_ref n2_11 iE11 tE11 s2_11]; rfl⟩⟩
  have DMR : DfM K mg "run" sRun ["jobs", "lengths", "rule", "processors"] 2 ["rule", "processors"] (fun vs zs => vs ++ zs) := dfm_all (PySem.W.mg_of X G aR) lR cR kR fun _ _ _ _ _ us ws h1 h2 => match us, ws, h1, h2 with | [_, _], [_, _], _, _ => rfl
  have DMF : DfM K mg "finish_units" sFinish ["jobs", "lengths", "rule", "processors"] 2 ["rule", "processors"] (fun vs zs => vs ++ zs) := dfm_all (PySem.W.mg_of X G aF) lF cF kF fun _ _ _ _ _ us ws h1 h2 => match us, ws, h1, h2 with | [_, _], [_, _], _, _ => rfl
  have DMU : DfM K mg "first_split" sSplit ["jobs", "lengths", "others", "rule", "processors"] 3 ["rule", "processors"] (fun vs zs => vs ++ zs) := dfm_all (PySem.W.mg_of X G aU) lU cU kU fun _ _ _ _ _ us ws h1 h2 => match us, ws, h1, h2 with | [_, _, _], [_, _], _, _ => rfl
  have DNU : DfM K mg "first_split" sSplit ["jobs", "lengths", "others", "rule", "processors"] 3 ["rule"] (fun vs zs => vs ++ zs ++ [.int 1]) := dfm_mk (PySem.W.mg_of X G aU) lU cU kU nU fun _ _ _ _ _ us ws z h1 h2 => match us, ws, h1, h2 with | [_, _, _], [_], _, _ => ⟨_, _, _, _, _, _, rfl, rfl, rfl⟩
  have DN : DfC K mg "is_name" sName ["value"] cN := by
    have F : Fun K "is_name" "is_name" sName fN _ := fun_mk (st := sName) lN cNf kNf
    exact ⟨fN, ocN, odN, kVN, dcN, pmN, anN, ctN, slN, PySem.W.mg_of X G aN, lN, cNf, kNf, F.binds (ps := ["value"]) fun _ _ _ _ _ _ us hl => match us, hl with | [_], _ => rfl⟩
  have tN : PySem.W.tabIn K "is_name" = some (cN, PN) := by
    unfold PySem.W.tabIn
    rw [aN]
    dsimp only
    rw [lN]
    dsimp only [PySem.W.fnOf]
    rw [hcN]
    dsimp only
    rw [hvN]
  have M_Board_enter : MDf K (He.ga K "Board") "enter" "Board.enter" sBdEnter ["self", "name", "entry"] := mdf_mk (He.meth_ok me_Board_enter) fw_Board_enter fun _ _ _ _ _ _ us hl => match us, hl with | [_, _, _], _ => rfl
  have M_Board_order : MDf K (He.ga K "Board") "order" "Board.order" sBdOrder ["self"] := mdf_mk (He.meth_ok me_Board_order) fw_Board_order fun _ _ _ _ _ _ us hl => match us, hl with | [_], _ => rfl
  have M_Board_running : MDf K (He.ga K "Board") "running" "Board.running" sBdRunning ["self"] := mdf_mk (He.meth_ok me_Board_running) fw_Board_running fun _ _ _ _ _ _ us hl => match us, hl with | [_], _ => rfl
  have M_Board_level_of : MDf K (He.ga K "Board") "level_of" "Board.level_of" sBdLevelOf ["self", "name"] := mdf_mk (He.meth_ok me_Board_level_of) fw_Board_level_of fun _ _ _ _ _ _ us hl => match us, hl with | [_, _], _ => rfl
  have M_Board_many_finished : MDf K (He.ga K "Board") "many_finished" "Board.many_finished" sBdMany ["self"] := mdf_mk (He.meth_ok me_Board_many_finished) fw_Board_many_finished fun _ _ _ _ _ _ us hl => match us, hl with | [_], _ => rfl
  have M_Board_ends : MDf K (He.ga K "Board") "ends" "Board.ends" sBdEnds ["self"] := mdf_mk (He.meth_ok me_Board_ends) fw_Board_ends fun _ _ _ _ _ _ us hl => match us, hl with | [_], _ => rfl
  have M_Board_end_units : MDf K (He.ga K "Board") "end_units" "Board.end_units" sBdEndUnits ["self", "units", "finishing"] := mdf_mk (He.meth_ok me_Board_end_units) fw_Board_end_units fun _ _ _ _ _ _ us hl => match us, hl with | [_, _, _], _ => rfl
  have M_Board_end_quanta : MDf K (He.ga K "Board") "end_quanta" "Board.end_quanta" sBdEndQuanta ["self", "names"] := mdf_mk (He.meth_ok me_Board_end_quanta) fw_Board_end_quanta fun _ _ _ _ _ _ us hl => match us, hl with | [_, _], _ => rfl
  have M_Board_lift : MDf K (He.ga K "Board") "lift" "Board.lift" sBdLift ["self"] := mdf_mk (He.meth_ok me_Board_lift) fw_Board_lift fun _ _ _ _ _ _ us hl => match us, hl with | [_], _ => rfl
  have M_Board_log : MDf K (He.ga K "Board") "log" "Board.log" sBdLog ["self"] := mdf_mk (He.meth_ok me_Board_log) fw_Board_log fun _ _ _ _ _ _ us hl => match us, hl with | [_], _ => rfl
  have M_Board_lengths : MDf K (He.ga K "Board") "lengths" "Board.lengths" sBdLengths ["self"] := mdf_mk (He.meth_ok me_Board_lengths) fw_Board_lengths fun _ _ _ _ _ _ us hl => match us, hl with | [_], _ => rfl
  have M_Course_let_in : MDf K (He.ga K "Course") "let_in" "Course.let_in" sCoLetIn ["self"] := mdf_mk (He.meth_ok me_Course_let_in) fw_Course_let_in fun _ _ _ _ _ _ us hl => match us, hl with | [_], _ => rfl
  have M_Course_ends : MDf K (He.ga K "Course") "ends" "Course.ends" sCoEnds ["self"] := mdf_mk (He.meth_ok me_Course_ends) fw_Course_ends fun _ _ _ _ _ _ us hl => match us, hl with | [_], _ => rfl
  have M_Course_go_on : MDf K (He.ga K "Course") "go_on" "Course.go_on" sCoGoOn ["self", "units", "finishing"] := mdf_mk (He.meth_ok me_Course_go_on) fw_Course_go_on fun _ _ _ _ _ _ us hl => match us, hl with | [_, _, _], _ => rfl
  have M_Course_stretches : MDf K (He.ga K "Course") "stretches" "Course.stretches" sCoStretches ["self"] := mdf_mk (He.meth_ok me_Course_stretches) fw_Course_stretches fun _ _ _ _ _ _ us hl => match us, hl with | [_], _ => rfl
  have B : Blt mg := ⟨PySem.W.mg_none_of X G z_len, PySem.W.mg_none_of X G z_isinstance, PySem.W.mg_none_of X G z_int, PySem.W.mg_none_of X G z_bool, PySem.W.mg_none_of X G z_tuple, PySem.W.mg_none_of X G z_str, PySem.W.mg_none_of X G z_range, PySem.W.mg_none_of X G z_enumerate, PySem.W.mg_none_of X G z_list⟩
  have F := fun_mk (st := sLaw) l23 c23 k23
  have e := hfa.symm.trans (PySem.W.mg_of X G a23)
  cases e
  refine ⟨PySem.W.fnOf "law" "law" (defArgs sLaw) (defBody sLaw) (defScope sLaw) .none kV23 dc23 pm23 an23 cd23 ct23, cN, PN, tN, nPN, fun s v => .of_eq rfl, fun base _ _ TB => ?_⟩
  have cI := ok_integer (P := l.prog) (w := w) (mg := mg) (base := base) D0 B
  have cT := ok_tupleOf (P := l.prog) (w := w) (mg := mg) (base := base) D1 B
  have cA := ok_arrival (P := l.prog) (w := w) (mg := mg) (base := base) D6 cT cI
  have cN' := ok_name (P := l.prog) (w := w) (mg := mg) (base := base) DN TB B (PySem.W.mg_none_of X G z_all)
  have cJ := ok_isJob (P := l.prog) (w := w) (mg := mg) (base := base) D5 cT cI cN' cA
  have cW := ok_waits (P := l.prog) (w := w) (mg := mg) (base := base) D7 B
  have er := erc_jobs (P := l.prog) (w := w) (mg := mg) (base := base) (PySem.W.mg_of X G aE0) oex0 np0 nit0
  have cE := ok_each (P := l.prog) (w := w) (mg := mg) (base := base) D4 B er cJ
  have cK := ok_check (P := l.prog) (w := w) (mg := mg) (base := base) D2 B er cE cW
  have cHa := ok_has (P := l.prog) (w := w) (mg := mg) (base := base) D3
  have cCn := ok_isCnt (P := l.prog) (w := w) (mg := mg) (base := base) D11 cI
  have cLv := ok_level (P := l.prog) (w := w) (mg := mg) (base := base) D10 cT cCn
  have erR := erc_rule (P := l.prog) (w := w) (mg := mg) (base := base) (PySem.W.mg_of X G aE1) oex1 np1 nit1
  have ml : ∃ u, mg "MOST_LEVELS" = some u ∧ RelV (.int 6) u := ⟨_, PySem.W.mg_of X G aML, ⟨tML, rfl⟩⟩
  have cCR := ok_checkR (P := l.prog) (w := w) (mg := mg) (base := base) D9 B ml erR cT cLv cCn
  have cCL := ok_lens0 (P := l.prog) (w := w) (mg := mg) (base := base) D8 B cI
  have cJn := ok_joined (P := l.prog) (w := w) (mg := mg) (base := base) D12 B.tuple
  have TB' : BdC K (He.ga K "Board") := ⟨He.cls_ok cl_Board, He.noat_ok no_Board_rule, He.noat_ok no_Board_processors, He.noat_ok no_Board_now, He.noat_ok no_Board_lines, He.noat_ok no_Board_used, He.noat_ok no_Board_ran, He.noat_ok no_Board_finishes⟩
  have TC' : CoC K (He.ga K "Course") := ⟨He.cls_ok cl_Course, He.noat_ok no_Course_board, He.noat_ok no_Course_coming, He.noat_ok no_Course_pieces⟩
  obtain ⟨fdBI, FBI⟩ := fw_Board___init__
  have FB := fund_fun FBI
  have nbd : BdNew l.prog w K mg base (He.ga K "Board") := ⟨PySem.W.mg_of X G g_Board, _, _, He.mkr_ok mk_Board, FBI.bindsN (fun _ _ _ _ _ _ us hl => match us, hl with | [_, _, _], _ => rfl), ok_binit FB TB'⟩
  have bEn := ok_enter (P := l.prog) (w := w) (mg := mg) (base := base) M_Board_enter TB' B (PySem.W.mg_none_of X G z_min)
  have bOr := ok_order (P := l.prog) (w := w) (mg := mg) (base := base) M_Board_order TB'
  have bRu := ok_running (P := l.prog) (w := w) (mg := mg) (base := base) M_Board_running TB' B.tuple bOr
  have bLo := ok_levelOf (P := l.prog) (w := w) (mg := mg) (base := base) M_Board_level_of TB'
  have bMa := ok_many (P := l.prog) (w := w) (mg := mg) (base := base) M_Board_many_finished TB' B.len
  have bEs := ok_ends (P := l.prog) (w := w) (mg := mg) (base := base) M_Board_ends TB' bRu bLo
  have bQu := ok_quanta (P := l.prog) (w := w) (mg := mg) (base := base) M_Board_end_quanta TB' B (PySem.W.mg_none_of X G z_min) bLo
  have bLi := ok_lift (P := l.prog) (w := w) (mg := mg) (base := base) M_Board_lift TB' bOr
  have bUn := ok_units (P := l.prog) (w := w) (mg := mg) (base := base) M_Board_end_units TB' B.tuple bRu bLo bQu bLi
  have cLI := ok_letIn (P := l.prog) (w := w) (mg := mg) (base := base) M_Course_let_in TC' TB' cHa bMa bEn
  have cEs := ok_cends (P := l.prog) (w := w) (mg := mg) (base := base) M_Course_ends TC' TB' bEs
  have cGo := ok_goOn (P := l.prog) (w := w) (mg := mg) (base := base) M_Course_go_on TC' TB' bRu bUn cLI
  have cSt := ok_stretch (P := l.prog) (w := w) (mg := mg) (base := base) (CB := (He.ga K "Board")) M_Course_stretches TC' cJn
  obtain ⟨fdCI, FCI⟩ := fw_Course___init__
  have FC := fund_fun FCI
  have nco : CoNew l.prog w K mg base (He.ga K "Course") (He.ga K "Board") := ⟨PySem.W.mg_of X G g_Course, _, _, He.mkr_ok mk_Course, FCI.bindsN (fun _ _ _ _ _ _ us hl => match us, hl with | [_, _, _, _], _ => rfl), ok_cinit FC TC' nbd B.list cLI⟩
  have cBL := ok_byLens (P := l.prog) (w := w) (mg := mg) (base := base) D14 B (PySem.W.mg_none_of X G z_dict) (PySem.W.mg_none_of X G z_zip) (PySem.W.mg_none_of X G z_min) TC' TB' nco bMa bRu cEs cGo
  have cCC := ok_checked (P := l.prog) (w := w) (mg := mg) (base := base) D13 B cK cCR cCL cBL
  have cM := ok_mix (P := l.prog) (w := w) (mg := mg) (base := base) D15
  have cS := ok_store (P := l.prog) (w := w) (mg := mg) (base := base) D16 B.len
  have cP := ok_pick (P := l.prog) (w := w) (mg := mg) (base := base) D17 cM B.len
  have cNm := ok_names (P := l.prog) (w := w) (mg := mg) (base := base) D18 B cP
  have cBf := ok_before (P := l.prog) (w := w) (mg := mg) (base := base) D19
  have cG := ok_jobs (P := l.prog) (w := w) (mg := mg) (base := base) D20 B cP cNm cBf
  have cRu := ok_rule (P := l.prog) (w := w) (mg := mg) (base := base) D21 B cP
  have cLq := ok_lqs (P := l.prog) (w := w) (mg := mg) (base := base) D22 B cP
  have erL := erc_lens (P := l.prog) (w := w) (mg := mg) (base := base) (PySem.W.mg_of X G aE2) oex2 np2 nit2
  have cLX := ok_lensX (P := l.prog) (w := w) (mg := mg) (base := base) D8 B erL cI
  have cFD := ok_firstD (P := l.prog) (w := w) (mg := mg) (base := base) D25 B (PySem.W.mg_none_of X G z_min) (PySem.W.mg_none_of X G z_zip)
  have cNI := ok_namesIn (P := l.prog) (w := w) (mg := mg) (base := base) D26
  have cFL := ok_firstL (P := l.prog) (w := w) (mg := mg) (base := base) D27 (PySem.W.mg_none_of X G z_sorted) cNI
  have cOt := ok_others (P := l.prog) (w := w) (mg := mg) (base := base) D28 B (PySem.W.mg_none_of X G z_list) (PySem.W.mg_none_of X G z_max) cP cLq
  have oR := okE_runS (P := l.prog) (w := w) (mg := mg) (base := base) DMR.toE TC' cCC cSt
  have oF := okE_finF (P := l.prog) (w := w) (mg := mg) (base := base) DMF.toE B.tuple TC' TB' cCC
  have oU := okE_split (P := l.prog) (w := w) (mg := mg) (base := base) DMU.toE B TC' cCC cLX cBL cSt cFD
  have oN := okE_split (P := l.prog) (w := w) (mg := mg) (base := base) DNU.toE B TC' cCC cLX cBL cSt cFD
  have k2 := ok_kind (P := l.prog) (w := w) (mg := mg) (base := base) (i := 2) (by decide) D24 B kn2
  have cSh := ok_short (P := l.prog) (w := w) (mg := mg) (base := base) D29 B oN (PySem.W.mg_of X G aS) (PySem.W.exm_ref eS hS tS sc2) k2
  exact ok_law F B (PySem.W.mg_none_of X G z_zip) (PySem.W.mg_none_of X G z_min) cS cP cG cLq cRu cOt cFL cSh oR oF oU
end Vk
set_option maxHeartbeats 0
namespace Vk
open PySem PySem.Spec PyProof.Rows L2
theorem factsV {w : World} {K : PySem.W.Frag} {h : Heap} {mg : Str → Option Value} {fa : Addr} (X : K.In h) (G : h.Ns mainGlobals mg) (hfa : mg ("law" : Str) = some (.ref fa)) (c : seeC fsV fnV fwV K = dueC fnV fwV) : LawTab PySem.Challenge.rw_blindslots_k19_whole_runs_split_behind_a w K mg fa := by
  obtain ⟨oc0, od0, sl0, kV0, dc0, pm0, an0, cd0, ct0, a0, l0, c0, k0⟩ := okD (x := "is_integer") (st := sInteger) (defC c 0 rfl) (facC c 0 rfl)
  obtain ⟨oc1, od1, sl1, kV1, dc1, pm1, an1, cd1, ct1, a1, l1, c1, k1⟩ := okD (x := "is_tuple_of") (st := sTupleOf) (defC c 1 rfl) (facC c 1 rfl)
  obtain ⟨oc2, od2, sl2, kV2, dc2, pm2, an2, cd2, ct2, a2, l2, c2, k2⟩ := okD (x := "check_jobs") (st := sCheck) (defC c 2 rfl) (facC c 2 rfl)
  obtain ⟨oc3, od3, sl3, kV3, dc3, pm3, an3, cd3, ct3, a3, l3, c3, k3⟩ := okD (x := "has_arrived") (st := sHas) (defC c 3 rfl) (facC c 3 rfl)
  obtain ⟨oc4, od4, sl4, kV4, dc4, pm4, an4, cd4, ct4, a4, l4, c4, k4⟩ := okD (x := "check_each_job") (st := sEach) (defC c 4 rfl) (facC c 4 rfl)
  obtain ⟨oc5, od5, sl5, kV5, dc5, pm5, an5, cd5, ct5, a5, l5, c5, k5⟩ := okD (x := "is_job") (st := sIsJob) (defC c 5 rfl) (facC c 5 rfl)
  obtain ⟨oc6, od6, sl6, kV6, dc6, pm6, an6, cd6, ct6, a6, l6, c6, k6⟩ := okD (x := "is_arrival") (st := sArrival) (defC c 6 rfl) (facC c 6 rfl)
  obtain ⟨oc7, od7, sl7, kV7, dc7, pm7, an7, cd7, ct7, a7, l7, c7, k7⟩ := okD (x := "waits_forever") (st := sWaits) (defC c 7 rfl) (facC c 7 rfl)
  obtain ⟨oc8, od8, sl8, kV8, dc8, pm8, an8, cd8, ct8, a8, l8, c8, k8⟩ := okD (x := "check_lengths") (st := sCheckLens) (defC c 8 rfl) (facC c 8 rfl)
  obtain ⟨oc9, od9, sl9, kV9, dc9, pm9, an9, cd9, ct9, a9, l9, c9, k9⟩ := okD (x := "check_rule") (st := sCheckR) (defC c 9 rfl) (facC c 9 rfl)
  obtain ⟨oc10, od10, sl10, kV10, dc10, pm10, an10, cd10, ct10, a10, l10, c10, k10⟩ := okD (x := "is_level") (st := sLevel) (defC c 10 rfl) (facC c 10 rfl)
  obtain ⟨oc11, od11, sl11, kV11, dc11, pm11, an11, cd11, ct11, a11, l11, c11, k11⟩ := okD (x := "is_count") (st := sIsCnt) (defC c 11 rfl) (facC c 11 rfl)
  obtain ⟨oc12, od12, sl12, kV12, dc12, pm12, an12, cd12, ct12, a12, l12, c12, k12⟩ := okD (x := "joined") (st := sJoined) (defC c 12 rfl) (facC c 12 rfl)
  obtain ⟨oc13, od13, sl13, kV13, dc13, pm13, an13, cd13, ct13, a13, l13, c13, k13⟩ := okD (x := "checked_course") (st := sChecked) (defC c 13 rfl) (facC c 13 rfl)
  obtain ⟨oc14, od14, sl14, kV14, dc14, pm14, an14, cd14, ct14, a14, l14, c14, k14⟩ := okD (x := "course_by_lengths") (st := sByLens) (defC c 14 rfl) (facC c 14 rfl)
  obtain ⟨oc15, od15, sl15, kV15, dc15, pm15, an15, cd15, ct15, a15, l15, c15, k15⟩ := okD (x := "_law_mix") (st := sMix) (defC c 15 rfl) (facC c 15 rfl)
  obtain ⟨oc16, od16, sl16, kV16, dc16, pm16, an16, cd16, ct16, a16, l16, c16, k16⟩ := okD (x := "_law_store") (st := sStore) (defC c 16 rfl) (facC c 16 rfl)
  obtain ⟨oc17, od17, sl17, kV17, dc17, pm17, an17, cd17, ct17, a17, l17, c17, k17⟩ := okD (x := "_law_pick") (st := sPick) (defC c 17 rfl) (facC c 17 rfl)
  obtain ⟨oc18, od18, sl18, kV18, dc18, pm18, an18, cd18, ct18, a18, l18, c18, k18⟩ := okD (x := "_law_names") (st := sNames) (defC c 18 rfl) (facC c 18 rfl)
  obtain ⟨oc19, od19, sl19, kV19, dc19, pm19, an19, cd19, ct19, a19, l19, c19, k19⟩ := okD (x := "_law_before") (st := sBefore) (defC c 19 rfl) (facC c 19 rfl)
  obtain ⟨oc20, od20, sl20, kV20, dc20, pm20, an20, cd20, ct20, a20, l20, c20, k20⟩ := okD (x := "_law_jobs") (st := sJobs) (defC c 20 rfl) (facC c 20 rfl)
  obtain ⟨oc21, od21, sl21, kV21, dc21, pm21, an21, cd21, ct21, a21, l21, c21, k21⟩ := okD (x := "_law_rule") (st := sRule) (defC c 21 rfl) (facC c 21 rfl)
  obtain ⟨oc22, od22, sl22, kV22, dc22, pm22, an22, cd22, ct22, a22, l22, c22, k22⟩ := okD (x := "_law_lengths") (st := sLengths) (defC c 22 rfl) (facC c 22 rfl)
  obtain ⟨oc23, od23, sl23, kV23, dc23, pm23, an23, cd23, ct23, a23, l23, c23, k23⟩ := okD (x := "law") (st := sLaw) (defC c 23 rfl) (facC c 23 rfl)
  obtain ⟨oc24, od24, sl24, kV24, dc24, pm24, an24, cd24, ct24, a24, l24, c24, k24⟩ := okD (x := "_law_kind") (st := sKind) (defC c 24 rfl) (facC c 24 rfl)
  obtain ⟨oc25, od25, sl25, kV25, dc25, pm25, an25, cd25, ct25, a25, l25, c25, k25⟩ := okD (x := "first_difference") (st := sFirstD) (defC c 25 rfl) (facC c 25 rfl)
  obtain ⟨oc26, od26, sl26, kV26, dc26, pm26, an26, cd26, ct26, a26, l26, c26, k26⟩ := okD (x := "_law_names_in") (st := sNamesIn) (defC c 26 rfl) (facC c 26 rfl)
  obtain ⟨oc27, od27, sl27, kV27, dc27, pm27, an27, cd27, ct27, a27, l27, c27, k27⟩ := okD (x := "_law_first") (st := sFirstL) (defC c 27 rfl) (facC c 27 rfl)
  obtain ⟨oc28, od28, sl28, kV28, dc28, pm28, an28, cd28, ct28, a28, l28, c28, k28⟩ := okD (x := "_law_others") (st := sOthers) (defC c 28 rfl) (facC c 28 rfl)
  obtain ⟨oc29, od29, sl29, kV29, dc29, pm29, an29, cd29, ct29, a29, l29, c29, k29⟩ := okD (x := "_law_short_right") (st := sShort) (defC c 29 rfl) (facC c 29 rfl)
  obtain ⟨z_len, z_isinstance, z_int, z_bool, z_tuple, z_str, z_range, z_enumerate, z_list, z_all, z_min, z_dict, z_zip, z_sorted, z_max, aS, iS, hS, tS, eS⟩ : (PySem.W.nsIn K mainGlobals "len" = some none) ∧ (PySem.W.nsIn K mainGlobals "isinstance" = some none) ∧ (PySem.W.nsIn K mainGlobals "int" = some none) ∧ (PySem.W.nsIn K mainGlobals "bool" = some none) ∧ (PySem.W.nsIn K mainGlobals "tuple" = some none) ∧ (PySem.W.nsIn K mainGlobals "str" = some none) ∧ (PySem.W.nsIn K mainGlobals "range" = some none) ∧ (PySem.W.nsIn K mainGlobals "enumerate" = some none) ∧ (PySem.W.nsIn K mainGlobals "list" = some none) ∧ (PySem.W.nsIn K mainGlobals "all" = some none) ∧ (PySem.W.nsIn K mainGlobals "min" = some none) ∧ (PySem.W.nsIn K mainGlobals "dict" = some none) ∧ (PySem.W.nsIn K mainGlobals "zip" = some none) ∧ (PySem.W.nsIn K mainGlobals "sorted" = some none) ∧ (PySem.W.nsIn K mainGlobals "max" = some none) ∧ (PySem.W.nsIn K mainGlobals "SlotError" = some (some (.ref (He.ga K "SlotError")))) ∧ (PySem.W.isClsIn K (He.ga K "SlotError") = true) ∧ (PySem.W.hasDictIn K (He.ga K "SlotError") = true) ∧ (PySem.W.typeIn K (.ref (He.ga K "SlotError")) = some (.type "type")) ∧ (PySem.W.subIn K (.ref (He.ga K "SlotError")) (.type "BaseException") = some true) := of_decide_eq_true (facC c 30 rfl)
  obtain ⟨spG, tkG, zVE, aE0, iE0, tE0, aE1, iE1, tE1, aE2, iE2, tE2, aE3, iE3, tE3, aE4, iE4, tE4, aE5, iE5⟩ : (PySem.W.specialIn K (.builtin "object.__class__") "__get__" = some (some (.builtin "getset_descriptor.__get__"))) ∧ (PySem.W.takesIn K (.builtin "object.__class__") = some true) ∧ (PySem.W.nsIn K mainGlobals "ValueError" = some none) ∧ (PySem.W.nsIn K mainGlobals "NoJobs" = some (some (.ref (He.ga K "NoJobs")))) ∧ (PySem.W.isClsIn K (He.ga K "NoJobs") = true) ∧ (PySem.W.typeIn K (.ref (He.ga K "NoJobs")) = some (.type "type")) ∧ (PySem.W.nsIn K mainGlobals "NoRule" = some (some (.ref (He.ga K "NoRule")))) ∧ (PySem.W.isClsIn K (He.ga K "NoRule") = true) ∧ (PySem.W.typeIn K (.ref (He.ga K "NoRule")) = some (.type "type")) ∧ (PySem.W.nsIn K mainGlobals "NoLengths" = some (some (.ref (He.ga K "NoLengths")))) ∧ (PySem.W.isClsIn K (He.ga K "NoLengths") = true) ∧ (PySem.W.typeIn K (.ref (He.ga K "NoLengths")) = some (.type "type")) ∧ (PySem.W.nsIn K mainGlobals "NoLog" = some (some (.ref (He.ga K "NoLog")))) ∧ (PySem.W.isClsIn K (He.ga K "NoLog") = true) ∧ (PySem.W.typeIn K (.ref (He.ga K "NoLog")) = some (.type "type")) ∧ (PySem.W.nsIn K mainGlobals "NoMarks" = some (some (.ref (He.ga K "NoMarks")))) ∧ (PySem.W.isClsIn K (He.ga K "NoMarks") = true) ∧ (PySem.W.typeIn K (.ref (He.ga K "NoMarks")) = some (.type "type")) ∧ (PySem.W.nsIn K mainGlobals "NoNamed" = some (some (.ref (He.ga K "NoNamed")))) ∧ (PySem.W.isClsIn K (He.ga K "NoNamed") = true) := of_decide_eq_true (facC c 31 rfl)
  obtain ⟨nmx0_, qx0_, Nx0_, bsx0_, snx0_, sbx0_, abx0_, colx0_, ddx0_, m0x0_, m1x0_, m2x0_, m3x0_, m5x0_, x0_⟩ := okX (S := He.ga K "SlotError") (C := He.ga K "NoJobs") (facC c 32 (f := fun K => bX (He.ga K "SlotError") (He.ga K "NoJobs") K) rfl)
  obtain ⟨tE5, aE6, iE6, tE6, aE7, iE7, tE7, aE8, iE8, tE8, aE9, iE9, tE9, aE10, iE10, tE10, aE11, iE11, tE11, sa0⟩ : (PySem.W.typeIn K (.ref (He.ga K "NoNamed")) = some (.type "type")) ∧ (PySem.W.nsIn K mainGlobals "NoOrder" = some (some (.ref (He.ga K "NoOrder")))) ∧ (PySem.W.isClsIn K (He.ga K "NoOrder") = true) ∧ (PySem.W.typeIn K (.ref (He.ga K "NoOrder")) = some (.type "type")) ∧ (PySem.W.nsIn K mainGlobals "NoText" = some (some (.ref (He.ga K "NoText")))) ∧ (PySem.W.isClsIn K (He.ga K "NoText") = true) ∧ (PySem.W.typeIn K (.ref (He.ga K "NoText")) = some (.type "type")) ∧ (PySem.W.nsIn K mainGlobals "NoNumber" = some (some (.ref (He.ga K "NoNumber")))) ∧ (PySem.W.isClsIn K (He.ga K "NoNumber") = true) ∧ (PySem.W.typeIn K (.ref (He.ga K "NoNumber")) = some (.type "type")) ∧ (PySem.W.nsIn K mainGlobals "NoName" = some (some (.ref (He.ga K "NoName")))) ∧ (PySem.W.isClsIn K (He.ga K "NoName") = true) ∧ (PySem.W.typeIn K (.ref (He.ga K "NoName")) = some (.type "type")) ∧ (PySem.W.nsIn K mainGlobals "NoUndo" = some (some (.ref (He.ga K "NoUndo")))) ∧ (PySem.W.isClsIn K (He.ga K "NoUndo") = true) ∧ (PySem.W.typeIn K (.ref (He.ga K "NoUndo")) = some (.type "type")) ∧ (PySem.W.nsIn K mainGlobals "NoLine" = some (some (.ref (He.ga K "NoLine")))) ∧ (PySem.W.isClsIn K (He.ga K "NoLine") = true) ∧ (PySem.W.typeIn K (.ref (He.ga K "NoLine")) = some (.type "type")) ∧ (PySem.W.findIn K (.ref (He.ga K "NoJobs")) "__setattr__" = some (some (.builtin "object.__setattr__"))) := of_decide_eq_true (facC c 33 rfl)
  obtain ⟨ocI0, odI0, slI0, kVI0, dcI0, pmI0, anI0, cdI0, ctI0, li0, ci0⟩ := okM (x := "NoJobs") (m := "__init__") (qn := "NoJobs.__init__") (st := sJobsInit) (defC c 30 rfl) (facC c 34 rfl)
  obtain ⟨ga0, gg0, np0, in0, ti0, ki0, kc0, ec0, hc0, cc0, mc0, vc0, sc0, s0_1, n0_1, s0_2, n0_2, s0_3, n0_3, s0_4⟩ : (PySem.W.findIn K (.ref (He.ga K "NoJobs")) "__getattribute__" = some (some (.builtin "BaseException.__getattribute__"))) ∧ (PySem.W.findIn K (.ref (He.ga K "NoJobs")) "__getattr__" = some none) ∧ (PySem.W.findIn K (.ref (He.ga K "NoJobs")) "place" = some none) ∧ (PySem.W.findIn K (.ref (He.ga K "NoJobs")) "__init__" = some (some (.ref (He.ma K (He.ga K "NoJobs") "__init__")))) ∧ (PySem.W.typeIn K (.ref (He.ma K (He.ga K "NoJobs") "__init__")) = some (.type "function")) ∧ (PySem.W.keepIn K (.ref (He.ma K (He.ga K "NoJobs") "__init__")) = true) ∧ (PySem.W.keepIn K (.ref (He.ga K "NoJobs")) = true) ∧ (PySem.W.subIn K (.ref (He.ga K "NoJobs")) (.type "BaseException") = some true) ∧ (PySem.W.hasDictIn K (He.ga K "NoJobs") = true) ∧ (PySem.W.findIn K (.ref (He.ga K "NoJobs")) "__class__" = some (some (.builtin "object.__class__"))) ∧ (PySem.W.mroIn K (He.ga K "NoJobs") (.type "object") = some true) ∧ (PySem.W.subIn K (.ref (He.ga K "NoJobs")) (.type "ValueError") = some true) ∧ (PySem.W.subIn K (.ref (He.ga K "NoJobs")) (.ref (He.ga K "SlotError")) = some true) ∧ (PySem.W.subIn K (.ref (He.ga K "NoJobs")) (.ref (He.ga K "NoRule")) = some false) ∧ ((Value.ref (He.ga K "NoJobs") == Value.ref (He.ga K "NoRule")) = false) ∧ (PySem.W.subIn K (.ref (He.ga K "NoJobs")) (.ref (He.ga K "NoLengths")) = some false) ∧ ((Value.ref (He.ga K "NoJobs") == Value.ref (He.ga K "NoLengths")) = false) ∧ (PySem.W.subIn K (.ref (He.ga K "NoJobs")) (.ref (He.ga K "NoLog")) = some false) ∧ ((Value.ref (He.ga K "NoJobs") == Value.ref (He.ga K "NoLog")) = false) ∧ (PySem.W.subIn K (.ref (He.ga K "NoJobs")) (.ref (He.ga K "NoMarks")) = some false) := of_decide_eq_true (facC c 35 rfl)
  obtain ⟨nmx1_, qx1_, Nx1_, bsx1_, snx1_, sbx1_, abx1_, colx1_, ddx1_, m0x1_, m1x1_, m2x1_, m3x1_, m5x1_, x1_⟩ := okX (S := He.ga K "SlotError") (C := He.ga K "NoRule") (facC c 36 (f := fun K => bX (He.ga K "SlotError") (He.ga K "NoRule") K) rfl)
  obtain ⟨n0_4, s0_5, n0_5, s0_6, n0_6, s0_7, n0_7, s0_8, n0_8, s0_9, n0_9, s0_10, n0_10, s0_11, n0_11, sa1, ga1, gg1, np1, in1⟩ : ((Value.ref (He.ga K "NoJobs") == Value.ref (He.ga K "NoMarks")) = false) ∧ (PySem.W.subIn K (.ref (He.ga K "NoJobs")) (.ref (He.ga K "NoNamed")) = some false) ∧ ((Value.ref (He.ga K "NoJobs") == Value.ref (He.ga K "NoNamed")) = false) ∧ (PySem.W.subIn K (.ref (He.ga K "NoJobs")) (.ref (He.ga K "NoOrder")) = some false) ∧ ((Value.ref (He.ga K "NoJobs") == Value.ref (He.ga K "NoOrder")) = false) ∧ (PySem.W.subIn K (.ref (He.ga K "NoJobs")) (.ref (He.ga K "NoText")) = some false) ∧ ((Value.ref (He.ga K "NoJobs") == Value.ref (He.ga K "NoText")) = false) ∧ (PySem.W.subIn K (.ref (He.ga K "NoJobs")) (.ref (He.ga K "NoNumber")) = some false) ∧ ((Value.ref (He.ga K "NoJobs") == Value.ref (He.ga K "NoNumber")) = false) ∧ (PySem.W.subIn K (.ref (He.ga K "NoJobs")) (.ref (He.ga K "NoName")) = some false) ∧ ((Value.ref (He.ga K "NoJobs") == Value.ref (He.ga K "NoName")) = false) ∧ (PySem.W.subIn K (.ref (He.ga K "NoJobs")) (.ref (He.ga K "NoUndo")) = some false) ∧ ((Value.ref (He.ga K "NoJobs") == Value.ref (He.ga K "NoUndo")) = false) ∧ (PySem.W.subIn K (.ref (He.ga K "NoJobs")) (.ref (He.ga K "NoLine")) = some false) ∧ ((Value.ref (He.ga K "NoJobs") == Value.ref (He.ga K "NoLine")) = false) ∧ (PySem.W.findIn K (.ref (He.ga K "NoRule")) "__setattr__" = some (some (.builtin "object.__setattr__"))) ∧ (PySem.W.findIn K (.ref (He.ga K "NoRule")) "__getattribute__" = some (some (.builtin "BaseException.__getattribute__"))) ∧ (PySem.W.findIn K (.ref (He.ga K "NoRule")) "__getattr__" = some none) ∧ (PySem.W.findIn K (.ref (He.ga K "NoRule")) "place" = some none) ∧ (PySem.W.findIn K (.ref (He.ga K "NoRule")) "__init__" = some (some (.ref (He.ma K (He.ga K "NoRule") "__init__")))) := of_decide_eq_true (facC c 37 rfl)
  obtain ⟨ocI1, odI1, slI1, kVI1, dcI1, pmI1, anI1, cdI1, ctI1, li1, ci1⟩ := okM (x := "NoRule") (m := "__init__") (qn := "NoRule.__init__") (st := sRuleInit) (defC c 31 rfl) (facC c 38 rfl)
  obtain ⟨ti1, ki1, kc1, ec1, hc1, cc1, mc1, vc1, sc1, s1_0, n1_0, s1_2, n1_2, s1_3, n1_3, s1_4, n1_4, s1_5, n1_5, s1_6⟩ : (PySem.W.typeIn K (.ref (He.ma K (He.ga K "NoRule") "__init__")) = some (.type "function")) ∧ (PySem.W.keepIn K (.ref (He.ma K (He.ga K "NoRule") "__init__")) = true) ∧ (PySem.W.keepIn K (.ref (He.ga K "NoRule")) = true) ∧ (PySem.W.subIn K (.ref (He.ga K "NoRule")) (.type "BaseException") = some true) ∧ (PySem.W.hasDictIn K (He.ga K "NoRule") = true) ∧ (PySem.W.findIn K (.ref (He.ga K "NoRule")) "__class__" = some (some (.builtin "object.__class__"))) ∧ (PySem.W.mroIn K (He.ga K "NoRule") (.type "object") = some true) ∧ (PySem.W.subIn K (.ref (He.ga K "NoRule")) (.type "ValueError") = some true) ∧ (PySem.W.subIn K (.ref (He.ga K "NoRule")) (.ref (He.ga K "SlotError")) = some true) ∧ (PySem.W.subIn K (.ref (He.ga K "NoRule")) (.ref (He.ga K "NoJobs")) = some false) ∧ ((Value.ref (He.ga K "NoRule") == Value.ref (He.ga K "NoJobs")) = false) ∧ (PySem.W.subIn K (.ref (He.ga K "NoRule")) (.ref (He.ga K "NoLengths")) = some false) ∧ ((Value.ref (He.ga K "NoRule") == Value.ref (He.ga K "NoLengths")) = false) ∧ (PySem.W.subIn K (.ref (He.ga K "NoRule")) (.ref (He.ga K "NoLog")) = some false) ∧ ((Value.ref (He.ga K "NoRule") == Value.ref (He.ga K "NoLog")) = false) ∧ (PySem.W.subIn K (.ref (He.ga K "NoRule")) (.ref (He.ga K "NoMarks")) = some false) ∧ ((Value.ref (He.ga K "NoRule") == Value.ref (He.ga K "NoMarks")) = false) ∧ (PySem.W.subIn K (.ref (He.ga K "NoRule")) (.ref (He.ga K "NoNamed")) = some false) ∧ ((Value.ref (He.ga K "NoRule") == Value.ref (He.ga K "NoNamed")) = false) ∧ (PySem.W.subIn K (.ref (He.ga K "NoRule")) (.ref (He.ga K "NoOrder")) = some false) := of_decide_eq_true (facC c 39 rfl)
  obtain ⟨nmx2_, qx2_, Nx2_, bsx2_, snx2_, sbx2_, abx2_, colx2_, ddx2_, m0x2_, m1x2_, m2x2_, m3x2_, m5x2_, x2_⟩ := okX (S := He.ga K "SlotError") (C := He.ga K "NoLengths") (facC c 40 (f := fun K => bX (He.ga K "SlotError") (He.ga K "NoLengths") K) rfl)
  obtain ⟨ocI2, odI2, slI2, kVI2, dcI2, pmI2, anI2, cdI2, ctI2, li2, ci2⟩ := okM (x := "NoLengths") (m := "__init__") (qn := "NoLengths.__init__") (st := sLensInit) (defC c 32 rfl) (facC c 41 rfl)
  obtain ⟨n1_6, s1_7, n1_7, s1_8, n1_8, s1_9, n1_9, s1_10, n1_10, s1_11, n1_11, sa2, ga2, gg2, np2, in2, ti2, ki2, kc2, ec2⟩ : ((Value.ref (He.ga K "NoRule") == Value.ref (He.ga K "NoOrder")) = false) ∧ (PySem.W.subIn K (.ref (He.ga K "NoRule")) (.ref (He.ga K "NoText")) = some false) ∧ ((Value.ref (He.ga K "NoRule") == Value.ref (He.ga K "NoText")) = false) ∧ (PySem.W.subIn K (.ref (He.ga K "NoRule")) (.ref (He.ga K "NoNumber")) = some false) ∧ ((Value.ref (He.ga K "NoRule") == Value.ref (He.ga K "NoNumber")) = false) ∧ (PySem.W.subIn K (.ref (He.ga K "NoRule")) (.ref (He.ga K "NoName")) = some false) ∧ ((Value.ref (He.ga K "NoRule") == Value.ref (He.ga K "NoName")) = false) ∧ (PySem.W.subIn K (.ref (He.ga K "NoRule")) (.ref (He.ga K "NoUndo")) = some false) ∧ ((Value.ref (He.ga K "NoRule") == Value.ref (He.ga K "NoUndo")) = false) ∧ (PySem.W.subIn K (.ref (He.ga K "NoRule")) (.ref (He.ga K "NoLine")) = some false) ∧ ((Value.ref (He.ga K "NoRule") == Value.ref (He.ga K "NoLine")) = false) ∧ (PySem.W.findIn K (.ref (He.ga K "NoLengths")) "__setattr__" = some (some (.builtin "object.__setattr__"))) ∧ (PySem.W.findIn K (.ref (He.ga K "NoLengths")) "__getattribute__" = some (some (.builtin "BaseException.__getattribute__"))) ∧ (PySem.W.findIn K (.ref (He.ga K "NoLengths")) "__getattr__" = some none) ∧ (PySem.W.findIn K (.ref (He.ga K "NoLengths")) "place" = some none) ∧ (PySem.W.findIn K (.ref (He.ga K "NoLengths")) "__init__" = some (some (.ref (He.ma K (He.ga K "NoLengths") "__init__")))) ∧ (PySem.W.typeIn K (.ref (He.ma K (He.ga K "NoLengths") "__init__")) = some (.type "function")) ∧ (PySem.W.keepIn K (.ref (He.ma K (He.ga K "NoLengths") "__init__")) = true) ∧ (PySem.W.keepIn K (.ref (He.ga K "NoLengths")) = true) ∧ (PySem.W.subIn K (.ref (He.ga K "NoLengths")) (.type "BaseException") = some true) := of_decide_eq_true (facC c 42 rfl)
  obtain ⟨hc2, cc2, mc2, vc2, sc2, s2_0, n2_0, s2_1, n2_1, s2_3, n2_3, s2_4, n2_4, s2_5, n2_5, s2_6, n2_6, s2_7, n2_7, s2_8⟩ : (PySem.W.hasDictIn K (He.ga K "NoLengths") = true) ∧ (PySem.W.findIn K (.ref (He.ga K "NoLengths")) "__class__" = some (some (.builtin "object.__class__"))) ∧ (PySem.W.mroIn K (He.ga K "NoLengths") (.type "object") = some true) ∧ (PySem.W.subIn K (.ref (He.ga K "NoLengths")) (.type "ValueError") = some true) ∧ (PySem.W.subIn K (.ref (He.ga K "NoLengths")) (.ref (He.ga K "SlotError")) = some true) ∧ (PySem.W.subIn K (.ref (He.ga K "NoLengths")) (.ref (He.ga K "NoJobs")) = some false) ∧ ((Value.ref (He.ga K "NoLengths") == Value.ref (He.ga K "NoJobs")) = false) ∧ (PySem.W.subIn K (.ref (He.ga K "NoLengths")) (.ref (He.ga K "NoRule")) = some false) ∧ ((Value.ref (He.ga K "NoLengths") == Value.ref (He.ga K "NoRule")) = false) ∧ (PySem.W.subIn K (.ref (He.ga K "NoLengths")) (.ref (He.ga K "NoLog")) = some false) ∧ ((Value.ref (He.ga K "NoLengths") == Value.ref (He.ga K "NoLog")) = false) ∧ (PySem.W.subIn K (.ref (He.ga K "NoLengths")) (.ref (He.ga K "NoMarks")) = some false) ∧ ((Value.ref (He.ga K "NoLengths") == Value.ref (He.ga K "NoMarks")) = false) ∧ (PySem.W.subIn K (.ref (He.ga K "NoLengths")) (.ref (He.ga K "NoNamed")) = some false) ∧ ((Value.ref (He.ga K "NoLengths") == Value.ref (He.ga K "NoNamed")) = false) ∧ (PySem.W.subIn K (.ref (He.ga K "NoLengths")) (.ref (He.ga K "NoOrder")) = some false) ∧ ((Value.ref (He.ga K "NoLengths") == Value.ref (He.ga K "NoOrder")) = false) ∧ (PySem.W.subIn K (.ref (He.ga K "NoLengths")) (.ref (He.ga K "NoText")) = some false) ∧ ((Value.ref (He.ga K "NoLengths") == Value.ref (He.ga K "NoText")) = false) ∧ (PySem.W.subIn K (.ref (He.ga K "NoLengths")) (.ref (He.ga K "NoNumber")) = some false) := of_decide_eq_true (facC c 43 rfl)
  obtain ⟨ocR, odR, slR, DR, dcR, pmR, anR, cdR, ctR, tR, aR, lR, cR, kR, nR⟩ := okK (x := "run") (y := "processors") (st := sRun) (defC c 33 rfl) (facC c 44 rfl)
  obtain ⟨ocF, odF, slF, DF, dcF, pmF, anF, cdF, ctF, tF, aF, lF, cF, kF, nF⟩ := okK (x := "finish_units") (y := "processors") (st := sFinish) (defC c 34 rfl) (facC c 45 rfl)
  obtain ⟨ocU, odU, slU, DU, dcU, pmU, anU, cdU, ctU, tU, aU, lU, cU, kU, nU⟩ := okK (x := "first_split") (y := "processors") (st := sSplit) (defC c 35 rfl) (facC c 46 rfl)
  obtain ⟨ocN, odN, slN, kVN, dcN, pmN, anN, ctN, cN, PN, eN, ddN, vsN, scN, aN, lN, cNf, kNf, hcN, hvN, nPN⟩ := okN (x := "is_name") (st := sName) (defC c 36 rfl) (facC c 47 rfl)
  obtain ⟨taML, aML⟩ := okI (x := "MOST_LEVELS") (i := 6) (facC c 48 rfl)
  obtain ⟨n2_8, s2_9, n2_9, s2_10, n2_10, s2_11, n2_11, g_Board, cl_Board, mk_Board, no_Board_rule, no_Board_processors, no_Board_now, no_Board_lines, no_Board_used, no_Board_ran, no_Board_finishes, me_Board_enter, me_Board_order, me_Board_running⟩ : ((Value.ref (He.ga K "NoLengths") == Value.ref (He.ga K "NoNumber")) = false) ∧ (PySem.W.subIn K (.ref (He.ga K "NoLengths")) (.ref (He.ga K "NoName")) = some false) ∧ ((Value.ref (He.ga K "NoLengths") == Value.ref (He.ga K "NoName")) = false) ∧ (PySem.W.subIn K (.ref (He.ga K "NoLengths")) (.ref (He.ga K "NoUndo")) = some false) ∧ ((Value.ref (He.ga K "NoLengths") == Value.ref (He.ga K "NoUndo")) = false) ∧ (PySem.W.subIn K (.ref (He.ga K "NoLengths")) (.ref (He.ga K "NoLine")) = some false) ∧ ((Value.ref (He.ga K "NoLengths") == Value.ref (He.ga K "NoLine")) = false) ∧ (PySem.W.nsIn K mainGlobals "Board" = some (some (.ref (He.ga K "Board")))) ∧ ((He.Fa.cls "Board").ok K = true) ∧ ((He.Fa.mkr "Board").ok K = true) ∧ ((He.Fa.noat "Board" "rule").ok K = true) ∧ ((He.Fa.noat "Board" "processors").ok K = true) ∧ ((He.Fa.noat "Board" "now").ok K = true) ∧ ((He.Fa.noat "Board" "lines").ok K = true) ∧ ((He.Fa.noat "Board" "used").ok K = true) ∧ ((He.Fa.noat "Board" "ran").ok K = true) ∧ ((He.Fa.noat "Board" "finishes").ok K = true) ∧ ((He.Fa.meth "Board" "enter").ok K = true) ∧ ((He.Fa.meth "Board" "order").ok K = true) ∧ ((He.Fa.meth "Board" "running").ok K = true) := of_decide_eq_true (facC c 49 rfl)
  obtain ⟨me_Board_level_of, me_Board_many_finished, me_Board_ends, me_Board_end_units, me_Board_end_quanta, me_Board_lift, me_Board_log, me_Board_lengths, g_Course, cl_Course, mk_Course, no_Course_board, no_Course_coming, no_Course_pieces, me_Course_let_in, me_Course_ends, me_Course_go_on, me_Course_stretches⟩ : ((He.Fa.meth "Board" "level_of").ok K = true) ∧ ((He.Fa.meth "Board" "many_finished").ok K = true) ∧ ((He.Fa.meth "Board" "ends").ok K = true) ∧ ((He.Fa.meth "Board" "end_units").ok K = true) ∧ ((He.Fa.meth "Board" "end_quanta").ok K = true) ∧ ((He.Fa.meth "Board" "lift").ok K = true) ∧ ((He.Fa.meth "Board" "log").ok K = true) ∧ ((He.Fa.meth "Board" "lengths").ok K = true) ∧ (PySem.W.nsIn K mainGlobals "Course" = some (some (.ref (He.ga K "Course")))) ∧ ((He.Fa.cls "Course").ok K = true) ∧ ((He.Fa.mkr "Course").ok K = true) ∧ ((He.Fa.noat "Course" "board").ok K = true) ∧ ((He.Fa.noat "Course" "coming").ok K = true) ∧ ((He.Fa.noat "Course" "pieces").ok K = true) ∧ ((He.Fa.meth "Course" "let_in").ok K = true) ∧ ((He.Fa.meth "Course" "ends").ok K = true) ∧ ((He.Fa.meth "Course" "go_on").ok K = true) ∧ ((He.Fa.meth "Course" "stretches").ok K = true) := of_decide_eq_true (facC c 50 rfl)
  have fw_Board___init__ := He.DefD.funD (d := mW "Board" "__init__" "Board.__init__" sBdInit [] []) (dfwC c 0 rfl) (facC c 51 rfl)
  have fw_Board_enter := He.DefD.funD (d := mW "Board" "enter" "Board.enter" sBdEnter [] []) (dfwC c 1 rfl) (facC c 52 rfl)
  have fw_Board_order := He.DefD.funD (d := mW "Board" "order" "Board.order" sBdOrder [] []) (dfwC c 2 rfl) (facC c 53 rfl)
  have fw_Board_running := He.DefD.funD (d := mW "Board" "running" "Board.running" sBdRunning [] []) (dfwC c 3 rfl) (facC c 54 rfl)
  have fw_Board_level_of := He.DefD.funD (d := mW "Board" "level_of" "Board.level_of" sBdLevelOf [] []) (dfwC c 4 rfl) (facC c 55 rfl)
  have fw_Board_many_finished := He.DefD.funD (d := mW "Board" "many_finished" "Board.many_finished" sBdMany [] []) (dfwC c 5 rfl) (facC c 56 rfl)
  have fw_Board_ends := He.DefD.funD (d := mW "Board" "ends" "Board.ends" sBdEnds [] []) (dfwC c 6 rfl) (facC c 57 rfl)
  have fw_Board_end_units := He.DefD.funD (d := mW "Board" "end_units" "Board.end_units" sBdEndUnits [] []) (dfwC c 7 rfl) (facC c 58 rfl)
  have fw_Board_end_quanta := He.DefD.funD (d := mW "Board" "end_quanta" "Board.end_quanta" sBdEndQuanta [] []) (dfwC c 8 rfl) (facC c 59 rfl)
  have fw_Board_lift := He.DefD.funD (d := mW "Board" "lift" "Board.lift" sBdLift [] []) (dfwC c 9 rfl) (facC c 60 rfl)
  have fw_Board_log := He.DefD.funD (d := mW "Board" "log" "Board.log" sBdLog [] []) (dfwC c 10 rfl) (facC c 61 rfl)
  have fw_Board_lengths := He.DefD.funD (d := mW "Board" "lengths" "Board.lengths" sBdLengths [] []) (dfwC c 11 rfl) (facC c 62 rfl)
  have fw_Course___init__ := He.DefD.funD (d := mW "Course" "__init__" "Course.__init__" sCoInit [] []) (dfwC c 12 rfl) (facC c 63 rfl)
  have fw_Course_let_in := He.DefD.funD (d := mW "Course" "let_in" "Course.let_in" sCoLetIn [] []) (dfwC c 13 rfl) (facC c 64 rfl)
  have fw_Course_ends := He.DefD.funD (d := mW "Course" "ends" "Course.ends" sCoEnds [] []) (dfwC c 14 rfl) (facC c 65 rfl)
  have fw_Course_go_on := He.DefD.funD (d := mW "Course" "go_on" "Course.go_on" sCoGoOn [] []) (dfwC c 15 rfl) (facC c 66 rfl)
  have fw_Course_stretches := He.DefD.funD (d := mW "Course" "stretches" "Course.stretches" sCoStretches [] []) (dfwC c 16 rfl) (facC c 67 rfl)
  exact all_mk X G hfa a0 l0 c0 k0 a1 l1 c1 k1 a2 l2 c2 k2 a3 l3 c3 k3 a4 l4 c4 k4 a5 l5 c5 k5 a6 l6 c6 k6 a7 l7 c7 k7 a8 l8 c8 k8 a9 l9 c9 k9 a10 l10 c10 k10 a11 l11 c11 k11 a12 l12 c12 k12 a13 l13 c13 k13 a14 l14 c14 k14 a15 l15 c15 k15 a16 l16 c16 k16 a17 l17 c17 k17 a18 l18 c18 k18 a19 l19 c19 k19 a20 l20 c20 k20 a21 l21 c21 k21 a22 l22 c22 k22 a23 l23 c23 k23 a24 l24 c24 k24 a25 l25 c25 k25 a26 l26 c26 k26 a27 l27 c27 k27 a28 l28 c28 k28 a29 l29 c29 k29 z_len z_isinstance z_int z_bool z_tuple z_str z_range z_enumerate z_list z_all z_min z_dict z_zip z_sorted z_max aS iS hS tS eS spG tkG zVE aE0 iE0 tE0 aE1 iE1 tE1 aE2 iE2 tE2 aE3 iE3 tE3 aE4 iE4 tE4 aE5 iE5 tE5 aE6 iE6 tE6 aE7 iE7 tE7 aE8 iE8 tE8 aE9 iE9 tE9 aE10 iE10 tE10 aE11 iE11 tE11 x0_ sa0 ga0 gg0 np0 in0 ti0 li0 ci0 ki0 kc0 ec0 hc0 cc0 mc0 vc0 sc0 s0_1 n0_1 s0_2 n0_2 s0_3 n0_3 s0_4 n0_4 s0_5 n0_5 s0_6 n0_6 s0_7 n0_7 s0_8 n0_8 s0_9 n0_9 s0_10 n0_10 s0_11 n0_11 x1_ sa1 ga1 gg1 np1 in1 ti1 li1 ci1 ki1 kc1 ec1 hc1 cc1 mc1 vc1 sc1 s1_0 n1_0 s1_2 n1_2 s1_3 n1_3 s1_4 n1_4 s1_5 n1_5 s1_6 n1_6 s1_7 n1_7 s1_8 n1_8 s1_9 n1_9 s1_10 n1_10 s1_11 n1_11 x2_ sa2 ga2 gg2 np2 in2 ti2 li2 ci2 ki2 kc2 ec2 hc2 cc2 mc2 vc2 sc2 s2_0 n2_0 s2_1 n2_1 s2_3 n2_3 s2_4 n2_4 s2_5 n2_5 s2_6 n2_6 s2_7 n2_7 s2_8 n2_8 s2_9 n2_9 s2_10 n2_10 s2_11 n2_11 aR lR cR kR nR aF lF cF kF nF aU lU cU kU nU aN lN cNf kNf hcN hvN nPN aML g_Board cl_Board mk_Board no_Board_rule no_Board_processors no_Board_now no_Board_lines no_Board_used no_Board_ran no_Board_finishes fw_Board___init__ me_Board_enter fw_Board_enter me_Board_order fw_Board_order me_Board_running fw_Board_running me_Board_level_of fw_Board_level_of me_Board_many_finished fw_Board_many_finished me_Board_ends fw_Board_ends me_Board_end_units fw_Board_end_units me_Board_end_quanta fw_Board_end_quanta me_Board_lift fw_Board_lift me_Board_log fw_Board_log me_Board_lengths fw_Board_lengths g_Course cl_Course mk_Course no_Course_board no_Course_coming no_Course_pieces fw_Course___init__ me_Course_let_in fw_Course_let_in me_Course_ends fw_Course_ends me_Course_go_on fw_Course_go_on me_Course_stretches fw_Course_stretches
theorem walkV {l : PySem.W.OpenLaw} {q : Program} {loose : List Str} {XP : (Str → Option Value) → Heap → Prop} {YP : World → Heap → Prop} {d dN : DefRec} (hn : l.most = some 63) (hdf : d.params.defaults = []) (hnm : d.name = ("law" : Str))
    (hrec : (recsOf q).find? (fun e => e.name == ("is_name" : Str)) = some dN)
    (F : ∀ (w : World) (mg : Str → Option Value) (fa : Addr) (h : Heap), YP w h → h.Ns mainGlobals mg → mg ("law" : Str) = some (.ref fa) → ∃ K : PySem.W.Frag, K.In h ∧ LawTab l w K mg fa) :
    PySem.W.WalkO q loose XP YP l.row.toRowW d [] (fun f vs => PySem.call f vs) := by
  refine Att.attach_callB hn hdf fun w s₀ s₁ mg mb fa o pm cd doc a vs ns G Y ho hd hcd hmg hobj hints hlen hbits hg => ?_
  rw [hnm] at hmg
  obtain ⟨K, KX, fd, c, P, ht, nl, hb, hF⟩ := F w mg fa _ Y G.T.g hmg
  obtain ⟨hC, hP⟩ := PySem.W.tab_of G.T KX hrec ht
  have one : ∀ {C : Addr × Addr → Prop}, C (c, P) → ∀ p ∈ [(c, P)], C p := fun h p hp => by
    rw [List.mem_singleton.mp hp]
    exact h
  exact LamX.law_callTs (k := 9) (cs := [(c, P)]) (sp := spLaw K P) (CX := CX0) KX G.T.g G.T.b G.T.builtins G.T.nolimit hg (one hP) (one nl) (one hC) G.T.bmain hobj hints (Nat.le_trans hlen (by decide)) ⟨rfl, by decide, by decide⟩
    (fun base i n t => let z := t (c, P) (List.mem_singleton.mpr rfl); hF base i n ⟨z.code, z.bm, z.gP⟩) hb (fun H hH hS => ⟨a, ns, rfl, hS, hlen, ⟨#[], hH (c, P) (List.mem_singleton.mpr rfl), by simp [TriplesOk]⟩, fun _ => rfl⟩) (fun _ _ _ z => z)
end Vk
open PySem PySem.W PyProof.Rows in
set_option maxRecDepth 100000 in
set_option maxHeartbeats 0 in
theorem PySem.Challenge.cw_blindslots_k19_whole_runs_split_behind_a_holds : PySem.Challenge.rw_blindslots_k19_whole_runs_split_behind_a.Holds := by
  w_on; o_law
  refine HandSHeadRun.head_any (r := Vk.RV) (q := Vk.qV) (H := Vk.hV) (ob := Vk.obV) (M := 30000) (loose := Vk.nmV) (d := HandSHeadRun.topDef Vk.RV.prog 61) (kwd := []) Vk.obV_eq (by kernel_rfl) (fun s => by kernel_rfl) Vk.runV (by kernel_rfl) (by kernel_rfl) (by kernel_rfl) (by rfl) (by first | assumption | decide +kernel) (by decide +kernel) ⟨rfl, rfl, rfl, rfl, rfl, by decide +kernel⟩ ?hw ?hc
  case hw => w_witness2
  case hc =>
    refine Vk.walkV (l := PySem.Challenge.rw_blindslots_k19_whole_runs_split_behind_a) rfl (by kernel_rfl) (by kernel_rfl) (dN := HandSHeadRun.topDef Vk.RV.prog 20) (by kernel_rfl)  ?_
    intro w mg fa h Y G hmg
    obtain ⟨K, KX, c⟩ := Y
    exact ⟨K, KX, Vk.factsV KX G hmg c⟩
