import PyProof.Rows.All
import Wide.All
import OpenK.AllK
import Wide.FinOn
import KE.KExcIs
import HandS.ForMost
import HandS.Exc
import HandS.ExcOwn
import HandS.ExcValue
import HandS.ExcInit
import HandS.ExcField
import HandS.IsInst
import HandS.SetFor
import HandS.HeadHook4
import HandS.Head0
import HandS.Head1
import HandS.Head2
import HandS.HeadEnd
import PySem.Challenge.RW_allticked_k01_errors
set_option Elab.async false
set_option linter.all false
set_option maxRecDepth 100000
set_option maxHeartbeats 4000000
namespace Kx
open PySem PySem.Spec PyProof.Rows L2

/-! ### classes -/
/-- the class object at C is that of an exception class over ValueError, by a look -/
def shapeB (K : PySem.W.Frag) (C : Addr) : Bool :=
  match K.lookup C with
  | some ⟨.type t, _, .cls d, s⟩ =>
    (match d.mro, s.toList with
      | .ref c :: m, [_, _, _, _, some (.builtin n), _] =>
        (t == "type") && ((c == C) && ((n == "ValueError.__new__") && ((!d.hasDel) && (d.hasDict && HandSPX.refsVE m))))
      | _, _ => false)
  | _ => false
theorem shapeB_ok {K : PySem.W.Frag} {C : Addr} (e : shapeB K C = true) :
    ∃ nm q N bs bm sn sub ab col dd k0 k1 k2 k3 k5,
      K.lookup C = some (excClassObj nm q C N bs bm true sn sub ab col dd k0 k1 k2 k3 k5 "ValueError.__new__") ∧
        HandSPX.refsVE bm = true := by
  unfold shapeB at e
  split at e
  · rename_i t dd d s lk
    split at e
    · rename_i c m k0 k1 k2 k3 n k5 hm hs
      simp only [Bool.and_eq_true, beq_iff_eq, Bool.not_eq_true'] at e
      obtain ⟨rfl, rfl, rfl, h1, h2, h3⟩ := e
      obtain ⟨nm, bs, mro, ns, qn, hd, sn, sub, ab, col, del⟩ := d
      dsimp only at hm h1 h2
      subst hm h1 h2
      have hsl : s = #[k0, k1, k2, k3, some (.builtin "ValueError.__new__"), k5] := by
        obtain ⟨l⟩ := s
        simp only at hs
        rw [hs]
      subst hsl
      exact ⟨nm, qn, ns, bs, m, sn, sub, ab, col, dd, k0, k1, k2, k3, k5, lk, h3⟩
    · cases e
  · cases e
/-- all that is asked of such a class, by a look -/
def clsB (K : PySem.W.Frag) (C : Addr) : Bool :=
  shapeB K C && (decide (PySem.W.findIn K (.ref C) "__setattr__" = some (some (.builtin "object.__setattr__"))) &&
  (decide (PySem.W.typeIn K (.ref C) = some (.type "type")) && (PySem.W.keepIn K (.ref C) && (xfB K C &&
  (decide (PySem.W.findIn K (.ref C) "__class__" = some (some (.builtin "object.__class__"))) &&
  (decide (PySem.W.specialIn K (.builtin "object.__class__") "__get__" = some (some (.builtin "getset_descriptor.__get__"))) &&
  (decide (PySem.W.takesIn K (.builtin "object.__class__") = some true) && decide (PySem.W.mroIn K C (.type "object") = some true))))))))
structure ClsOk (K : PySem.W.Frag) (C : Addr) : Prop where
  o : OexC K C
  f : XfC K C
  ca : PySem.W.findIn K (.ref C) "__class__" = some (some (.builtin "object.__class__"))
  sg : PySem.W.specialIn K (.builtin "object.__class__") "__get__" = some (some (.builtin "getset_descriptor.__get__"))
  tk : PySem.W.takesIn K (.builtin "object.__class__") = some true
  mr : PySem.W.mroIn K C (.type "object") = some true
theorem and2 {a b : Bool} (h : (a && b) = true) : a = true ∧ b = true := by
  cases a <;> cases b <;> first | exact ⟨rfl, rfl⟩ | cases h
theorem clsB_ok {K : PySem.W.Frag} {C : Addr} (h : clsB K C = true) : ClsOk K C := by
  obtain ⟨h1, h⟩ := and2 h
  obtain ⟨h2, h⟩ := and2 h
  obtain ⟨h3, h⟩ := and2 h
  obtain ⟨h4, h⟩ := and2 h
  obtain ⟨h5, h⟩ := and2 h
  obtain ⟨h6, h⟩ := and2 h
  obtain ⟨h7, h⟩ := and2 h
  obtain ⟨h8, h9⟩ := and2 h
  have x := xfB_ok h5
  exact ⟨⟨shapeB_ok h1, of_decide_eq_true h2, x.exC, of_decide_eq_true h3, h4⟩, x, of_decide_eq_true h6, of_decide_eq_true h7, of_decide_eq_true h8, of_decide_eq_true h9⟩

/-! ### an exception that is held as a value -/
/-- at a stands an exception of the class at C whose own dict holds fs -/
def XAt (H : Hp) (a C : Addr) (fs : List (Str × V)) : Prop := ∃ d, H a = some (exo a C (some d)) ∧ H d = some (exd d fs)
/-- at a stands an exception of the class at C -/
def XIs (H : Hp) (a C : Addr) : Prop := H a = some (exo a C none) ∨ ∃ fs, XAt H a C fs
theorem XAt.same {H G : Hp} {a C : Addr} {fs : List (Str × V)} (s : Same H G) (x : XAt H a C fs) : XAt G a C fs := by
  obtain ⟨d, h1, h2⟩ := x
  exact ⟨d, s _ _ h1, s _ _ h2⟩
theorem XIs.same {H G : Hp} {a C : Addr} (s : Same H G) (x : XIs H a C) : XIs G a C := by
  rcases x with x | ⟨fs, x⟩
  · exact .inl (s _ _ x)
  · exact .inr ⟨fs, x.same s⟩
section
variable {X : Cx} {pins : List (Addr × Obj)} {σ : L2.St} {H : Hp} {s : Shared}
theorem inst_at {a C : Addr} {fs : List (Str × V)} (I : Inv X pins σ H s) (x : XAt H a C fs) :
    ∃ (ox od : Obj) (mA : Str → Option Value), PySem.W.InstAt s.heap a ox C (some od) ∧ (∀ f, RelO (fs.lookup f) (mA f)) ∧ ∀ n, PySem.W.lookIn n od = some (mA n) := by
  obtain ⟨d, h1, h2⟩ := x
  obtain ⟨t1, ho⟩ := exo_at I.hok h1
  obtain ⟨mA, hns, rel⟩ := exd_at I.hok h2
  obtain ⟨od, hd, hl⟩ := lookIn_ns hns
  exact ⟨_, od, mA, ⟨ho, rfl, rfl, hd⟩, rel, hl⟩
theorem inst_is {a C : Addr} (I : Inv X pins σ H s) (x : XIs H a C) : ∃ (ox : Obj) (od : Option Obj), PySem.W.InstAt s.heap a ox C od := by
  rcases x with x | ⟨fs, x⟩
  · obtain ⟨t1, ho⟩ := exo_at I.hok x
    exact ⟨_, none, ho, rfl, rfl, trivial⟩
  · obtain ⟨ox, od, _, J, _⟩ := inst_at I x
    exact ⟨ox, some od, J⟩
end
end Kx
set_option maxHeartbeats 4000000
namespace Kx
open PySem PySem.Spec PyProof.Rows L2

/-! ### e.f -/
def tFx (K : PySem.W.Frag) (f : Str) (te : TE) : TE := fun σ H Q => te σ H fun x G =>
  ∃ (a C : Addr) (fs : List (Str × V)) (v : V), x = .ref a ∧ XfC K C ∧ PySem.W.findIn K (.ref C) f = some none ∧ XAt G a C fs ∧ fs.lookup f = some v ∧ Q v G
section
variable {X : Cx}
theorem pe_fx {e : Expr} {te : TE} {pos : Pos} {n : Str} (he : PE X e te) (hb : attributeBase e n X.env (eval e X.env) = eval e X.env := by rfl) : PE X (.Attribute e n pos) (tFx X.K n te) := by
  refine ⟨fun pins s σ H Q I h => ?_⟩
  refine attr_of hb (thn (he.run pins s σ H _ I h) fun u s1 hh => ?_)
  obtain ⟨x, G, J, rx, a, C, fs, v, ex, T, hno, xa, hl, q⟩ := hh
  subst ex
  obtain rfl : u = Value.ref a := rx
  obtain ⟨ox, od, mA, at1, rel, lk⟩ := inst_at J xa
  obtain ⟨u, hu, ru⟩ := RelO.some_of (v := v) (o := mA n) (by rw [← hl]; exact rel n)
  exact HandSPX.exc_get J.kIn at1 T.ga T.gg T.exC (PySem.W.findObj_own T.hdC hno rfl (by rw [lk n, hu])) (handed_of ru) ⟨v, G, J.tok _, ru, q⟩
end

/-! ### isinstance -/
theorem kit_exc {K : PySem.W.Frag} {x D : Addr} {ox : Obj} {od : Option Obj} (C : ClsOk K D) : PySem.W.KitX K (.ref x) (.ref D) (fun h => PySem.W.InstAt h x ox D od) where
  ty := fun _ _ _ I => I.type
  it := fun M h X I => by
    obtain ⟨cd, hc, _⟩ := PySem.W.any_some C.f.hdC
    unfold PySem.W.clsIn at hc
    split at hc
    · rename_i c1 d1 cd1 sl1 ho
      intro A1 Q1 E1 s1 k q
      unfold isType loadHead
      exact wpAny_bind (wpAny_loadPart (k _ _ (X _ _ ho)) (wpAny_pure q))
    · cases hc
  ne := fun h tp dd its n sl X htp => by
    obtain ⟨cd, hc, _⟩ := PySem.W.any_some C.f.hdC
    refine Bool.eq_false_iff.mpr fun q => ?_
    have e : D = tp := Value.ref.inj (beq_iff_eq.mp q)
    subst e
    unfold PySem.W.clsIn at hc
    split at hc
    · rename_i c1 d1 cd1 sl1 ho
      cases (X _ _ ho).symm.trans htp
    · cases hc
  ca := fun X I k => by
    have hs : (PySem.W.clsIn K D).isSome = true := by
      obtain ⟨cd, hc, _⟩ := PySem.W.any_some C.f.hdC
      rw [hc]
      rfl
    exact PySem.W.kx_classE X I C.f.ga C.f.gg C.f.exC (PySem.W.findObj_dataE hs C.ca C.sg C.tk) C.mr k
/-- isinstance(x, c) -/
def rIx (K : PySem.W.Frag) : List V → Hp → VK → Prop := fun xs H Q => ∃ (a D : Addr) (c : V) (u : Value) (b : Bool),
  xs = [.ref a, c] ∧ ClsV c u ∧ ClsOk K D ∧ XIs H a D ∧ PySem.W.kitOne K (.ref D) u = some b ∧ Q (.bl b) H
/-- isinstance(x, (c, d, ..)) -/
def rIxT (K : PySem.W.Frag) : List V → Hp → VK → Prop := fun xs H Q => ∃ (a D tp : Addr) (cs : List V) (us : List Value) (b : Bool),
  xs = [.ref a, .ref tp] ∧ H tp = some (.tup cs) ∧ Paired ClsV cs us ∧ ClsOk K D ∧ XIs H a D ∧ PySem.W.kitAny K (.ref D) us = some b ∧ Q (.bl b) H
section
variable {X : Cx}
theorem call_ix : CallR X (.builtin "isinstance") (rIx X.K) := by
  intro pins s σ H xs us Q I r h
  obtain ⟨a, D, c, u, b, rfl, k, C, x, e, q⟩ := h
  obtain ⟨u1, u2, rfl, r1, r2⟩ := vals2 r
  obtain rfl := k.eq r2
  obtain rfl : u1 = Value.ref a := r1
  obtain ⟨ox, od, J⟩ := inst_is I x
  exact PySem.W.kia_one (kit_exc C) I.kIn J e (fun z => nomatch z) fun tk => ⟨.bl b, H, I.tok tk, rfl, q⟩
theorem call_ixT : CallR X (.builtin "isinstance") (rIxT X.K) := by
  intro pins s σ H xs us Q I r h
  obtain ⟨a, D, tp, cs, ws, b, rfl, hT, k, C, x, e, q⟩ := h
  obtain ⟨u1, u2, rfl, r1, r2⟩ := vals2 r
  obtain rfl : u2 = Value.ref tp := r2
  obtain rfl : u1 = Value.ref a := r1
  obtain ⟨ox, od, J⟩ := inst_is I x
  obtain ⟨_, its, rv, o, h1, h2, n, h3⟩ := (show ObjOk X.prog X.w H s.heap tp (.tup cs) from I.hok tp _ hT)
  have e3 := ClsV.all k rv
  subst e3
  obtain ⟨oc, od2, dt, sl⟩ := o
  simp only at h2 h3
  subst h2 h3
  exact PySem.W.kia_tup (kit_exc C) I.kIn J h1 e (fun z => nomatch z) fun tk => ⟨.bl b, H, I.tok tk, rfl, q⟩
end
end Kx
set_option maxHeartbeats 4000000
namespace Kx
open PySem PySem.Spec PyProof.Rows L2

/-! ### flags.count(True) -/
def eqTrue (b : Bool) (v : Value) : Bool := match v with
  | .bool c => c == b
  | _ => false
theorem flags_vals : ∀ {bs : List Bool} {us : List Value}, Vals (bs.map V.bl) us → us = bs.map Value.bool
  | [], us, r => by
    rw [List.map_nil] at r
    cases r
    rfl
  | b :: bs, us, r => by
    rw [List.map_cons] at r
    cases r with
    | cons r1 r2 =>
      obtain rfl := r1
      rw [flags_vals r2, List.map_cons]
theorem flags_count (b : Bool) : ∀ bs : List Bool, (bs.map Value.bool).countP (eqTrue b) = bs.count b
  | [] => rfl
  | c :: bs => by
    rw [List.map_cons, List.countP_cons, List.count_cons, flags_count b bs] <;> rfl
def rCntB (K : PySem.W.Frag) : V → List V → Hp → VK → Prop := fun x xs H Q => ∃ (p : Addr) (bs : List Bool) (b : Bool),
  x = .ref p ∧ xs = [.bl b] ∧ SqL K H p (bs.map V.bl) ∧ Q (.int (bs.count b : Nat)) H
section
variable {X : Cx}
theorem mt_countB : MtR X "list.count" (rCntB X.K) := by
  intro pins s σ H x xs v us Q I rx rxs h
  obtain ⟨p, bs, b, rfl, rfl, hs, q⟩ := h
  cases rx
  obtain ⟨u, rfl, ru⟩ := rxs.one
  obtain rfl := ru
  obtain ⟨its, rv, ⟨⟨cls, dd, data, sl⟩, n, ho, hc, hdn, hd⟩, hlen⟩ := I.list hs
  simp only at hc hd
  subst hc hd
  have ei := flags_vals rv
  subst ei
  refine call_meets PySem.F.slot_list_count ⟨_, ho, rfl⟩ PySem.F.entry_list_count (PySem.F.args_list_count_2 _ _)
    (SeqAt.list_countAt p (bs.map Value.bool).toArray n dd sl (.bool b) (eqTrue b)) ⟨ho, fun y hy => ?_, ?_⟩
  · have hy2 : y ∈ bs.map Value.bool := by simpa using hy
    obtain ⟨c, _, rfl⟩ := List.mem_map.mp hy2
    exact SeqAt.EqAt.bool_bool c b
  · refine ⟨.int (bs.count b : Nat), H, I.tok _, ⟨s.toks, ?_⟩, q⟩
    show Value.int (((bs.map Value.bool).toArray.toList.countP (eqTrue b) : Nat) : Int) s.toks = Value.int ((bs.count b : Nat) : Int) s.toks
    rw [List.toList_toArray, flags_count]
end

/-! ### C(e, ..) as a value, C with an own __init__ -/
def tMkV (C : Addr) (sp : Sp) (ta : TA) : TE := fun σ H Q => ta σ H fun vs G => vs.length ≤ 1000 ∧ ∀ a, G a = none →
  sp (.ref a :: vs) (upd G a (exo a C none)) (fun v G2 => v = .non ∧ Q (.ref a) G2) (fun _ _ _ => False)
section
variable {X : Cx} {CX : CXT} {x : Str} {C fI : Addr} {k : Nat} {fd : FuncData} {ps : List Str} {sp : Sp} {e : Expr} {es : List Expr} {ta : TA} {p pos : Pos}
theorem pe_mkv (T : OexC X.K C) (iC : PySem.W.findIn X.K (.ref C) "__init__" = some (some (.ref fI))) (tI : PySem.W.typeIn X.K (.ref fI) = some (.type "function"))
    (F1 : FnOk X.prog X.w X.K X.mg X.base CX k fI fd ps sp) (hr : Room (k + 1) X.A) (hb : Binds X.K fd ps []) (hx : Passes CX X (fun _ _ _ => False)) (hg : Gl X x) (hm : X.mg x = some (.ref C)) (ha : PA X (e :: es) ta)
    (hdb : (x == ("__debug__" : Str)) = false := by decide) (he : starEach (e :: es) X.env = (false, eval e X.env) :: starEach es X.env := by rfl) (hpl : (backTo pos (starEach es X.env)).any (·.1) = false := by rfl) :
    PE X (.Call (.Name x p) (e :: es) [] pos) (tMkV C sp ta) := by
  refine ⟨fun pins s σ H Q I h => ?_⟩
  obtain ⟨nm, q, N, bs, bm, sn, sub, ab, col, dd, k0, k1, k2, k3, k5, hC, hbm⟩ := T.cls
  refine wpAny_Call_Name_kw (ld_glob I hg hm ?_ hdb)
  refine PySem.W.callWith_K (h₀ := X.base) I.ok.mod.kin T.kC (thn (ha.run pos pins s σ H _ I h) fun us s1 ⟨vs, G, J, r1, hz, q1⟩ => ⟨J.kIn, ?_⟩) he hpl
  show wpAny _ _ (call (.ref C) us) _ _ _
  obtain ⟨hp, g, dr, tk, os⟩ := s1
  have hsz : hp.objs.size ≤ hp.objs.size + 1 := Nat.le_succ _
  have hn : G (hp.objs.size + 1) = none := J.hok.fresh hsz
  have hq := q1 (hp.objs.size + 1) hn
  have hget : ((hp.push (PySem.W.kdv_tup us)).push (PySem.HandSPX.excO C hp.objs.size)).get? (hp.objs.size + 1) = some (PySem.HandSPX.excO C hp.objs.size) := by heap_get
  have J2 : Inv X pins σ (upd G (hp.objs.size + 1) (exo (hp.objs.size + 1) C none)) ⟨(hp.push (PySem.W.kdv_tup us)).push (PySem.HandSPX.excO C hp.objs.size), g, dr, tk, os⟩ :=
    J.laid (t' := tk) (fun b o w => Heap.get?_push_of_some _ (Heap.get?_push_of_some _ w)) hsz (exo_ok hget)
  have r2 : Vals (V.ref (hp.objs.size + 1) :: vs) (Value.ref (hp.objs.size + 1) :: us) := .cons rfl r1
  have hl : ((Value.ref (hp.objs.size + 1) :: us) ++ []).length = ps.length := by
    have w := r2.length
    rw [F1.len _ _ _ _ hq] at w
    rw [List.append_nil]
    exact w.symm
  have hus : us.length ≤ sizeLine := by
    rw [← Paired.length r1, sizeLine_eq]
    omega
  have hbt := hb _ (Value.ref (hp.objs.size + 1) :: us) J2.kIn hl
  rw [List.append_nil] at hbt
  refine wpAny_call (PySem.HandSPX.call_own F.excBase_ValueError (fun Y => PySem.HandSPX.refsVE_contains Y bm hbm) (J.kIn _ _ hC) (PySem.W.looks_findIn J.kIn iC) (fun self => PySem.W.bind_fn J.kIn self tI) hus
    (codeAny_mono (F1.run _ X.stack _ _ ⟨Value.ref (hp.objs.size + 1) :: us, []⟩ _ _ _ (fun _ _ _ => False) (hr.make C us []) (J2.env0.make C us []) hbt r2 hq) fun r s' hq' => ?_))
  cases r with
  | error er => exact hx pins σ _ _ er s' J2 hq'
  | ok fl =>
    cases fl with
    | ret u =>
      obtain ⟨v, G2, os2, bare2, un2, hok2, rv, ev, q2⟩ := hq'
      subst ev
      obtain ⟨h2, g2, d2, t2, os'⟩ := s'
      exact ⟨rv, .ref (hp.objs.size + 1), G2, J2.call' (ch := []) os2 un2 hok2 bare2 (fun b z => absurd z (by simp)), rfl, q2⟩
    | next => exact False.elim hq'
    | brk => exact False.elim hq'
    | cont => exact False.elim hq'
end

/-! ### C() as a value, C without an own __init__ -/
def tMk0 (C : Addr) : TE := fun σ H Q => ∀ a, H a = none → Q (.ref a) (upd H a (exo a C none))
theorem pe_mk0 {X : Cx} {C : Addr} {x : Str} {p pos : Pos} (q : PySem.W.excIn X.K C He.veBase "ValueError.__new__" = true) (kC : PySem.W.keepIn X.K (.ref C) = true) (hg : Gl X x) (hm : X.mg x = some (.ref C))
    (hdb : (x == ("__debug__" : Str)) = false := by decide) : PE X (.Call (.Name x p) [] [] pos) (tMk0 C) := by
  refine ⟨fun pins s σ H Q I h => ?_⟩
  refine wpAny_Call_Name_kw (ld_glob I hg hm ?_ hdb)
  refine PySem.W.callWith_K0 I.kIn kC ?_
  show wpAny _ _ (call (.ref C) []) _ _ _
  obtain ⟨bm, N, nm, qn, bs, hdct, sn, sub, ab, col, dd, k0, k1, k2, k3, k5, mN, hC, hN, hni, T⟩ := exc_obj I.kIn q
  refine wpAny_call_exc_subT PySem.F.excBase_ValueError T hC hN hni (fun h' a hm => ?_) (by show 0 ≤ sizeLine; exact Nat.zero_le _)
  have hn : H a = none := I.hok.gone hm.new
  obtain ⟨t, ht, _, _⟩ := hm.there
  exact ⟨.ref a, upd H a (exo a C none), I.laidN hm.keeps hm.new hn (exo_ok ht), rfl, h a hn⟩
end Kx
set_option maxHeartbeats 0
namespace Kx
open PySem PySem.Spec PySem.Calls PyProof.Rows L2
def tp (i : Nat) : Stmt := PySem.Challenge.pw_allticked_k01_errors.main.body.getD i (.Pass ⟨1, 1, 1, 1⟩)
/-- the classes in the law's order: name, place in the text, attribute -/
def cl : List (Str × Nat × Str) := [
  ("BadCount", 5, "count"),
  ("BadEffect", 13, "effect"),
  ("BadEvent", 6, "index"),
  ("BadFormula", 3, "text"),
  ("BadName", 2, "name"),
  ("BadNumber", 19, "number"),
  ("BadSlack", 20, "slack"),
  ("BadSpan", 7, "moment"),
  ("BadState", 8, "state"),
  ("BadStep", 11, "index"),
  ("BadTruth", 22, "taken"),
  ("CannotHappen", 25, "event"),
  ("Contradiction", 23, "view"),
  ("NameInUse", 16, "name"),
  ("NoEvent", 9, "event"),
  ("NoMoment", 10, "moment"),
  ("NoName", 24, "name"),
  ("NoStep", 12, "name"),
  ("NoView", 21, "view"),
  ("NoWord", 4, "word"),
  ("NotDone", 26, "moment"),
  ("NotThere", 17, "story"),
  ("Quarrel", 18, "one"),
  ("UnlikeDeeds", 15, ""),
  ("UnlikeWorlds", 14, "")]
def cn : List Str := cl.map (·.1)
/-- __init__ of the class in the i-th statement -/
def dInit (x q : Str) (i : Nat) : He.DefD := ⟨(x, some "__init__"), "__init__", q, defArgs (inClass (tp i) 0), defBody (inClass (tp i) 0), defScope (inClass (tp i) 0), [], []⟩
def dTop (x : Str) (i : Nat) : He.DefD := ⟨(x, none), x, x, defArgs (tp i), defBody (tp i), defScope (tp i), [], []⟩
def fn : List He.DefD := [
  dInit "BadCount" "BadCount.__init__" 5,
  dInit "BadEffect" "BadEffect.__init__" 13,
  dInit "BadEvent" "BadEvent.__init__" 6,
  dInit "BadFormula" "BadFormula.__init__" 3,
  dInit "BadName" "BadName.__init__" 2,
  dInit "BadNumber" "BadNumber.__init__" 19,
  dInit "BadSlack" "BadSlack.__init__" 20,
  dInit "BadSpan" "BadSpan.__init__" 7,
  dInit "BadState" "BadState.__init__" 8,
  dInit "BadStep" "BadStep.__init__" 11,
  dInit "BadTruth" "BadTruth.__init__" 22,
  dInit "CannotHappen" "CannotHappen.__init__" 25,
  dInit "Contradiction" "Contradiction.__init__" 23,
  dInit "NameInUse" "NameInUse.__init__" 16,
  dInit "NoEvent" "NoEvent.__init__" 9,
  dInit "NoMoment" "NoMoment.__init__" 10,
  dInit "NoName" "NoName.__init__" 24,
  dInit "NoStep" "NoStep.__init__" 12,
  dInit "NoView" "NoView.__init__" 21,
  dInit "NoWord" "NoWord.__init__" 4,
  dInit "NotDone" "NotDone.__init__" 26,
  dInit "NotThere" "NotThere.__init__" 17,
  dInit "Quarrel" "Quarrel.__init__" 18,
  dTop "_law_cell" 28,
  dTop "_law_flags" 29,
  dTop "_law_alone" 30,
  dTop "_law_made" 31,
  dTop "_law_held" 32,
  dTop "law" 33]
def fa : List He.Fa := cn.map He.Fa.glo ++ [.glo "TickError", .glo "_law_cell", .glo "_law_flags", .glo "_law_alone", .glo "_law_made", .glo "_law_held", .glo "law",
  .free "len", .free "int", .free "str", .free "isinstance", .free "range", .free "all", .free "ValueError", .free "LookupError", .free "TypeError", .free "ArithmeticError",
  .exc "UnlikeDeeds", .exc "UnlikeWorlds"]
/-- the class's own chain -/
def chainB (K : PySem.W.Frag) (x : Str) : Bool := match PySem.W.clsIn K (He.ga K x) with
  | some d => decide (d.mro = [.ref (He.ga K x), .ref (He.ga K "TickError"), .type "ValueError", .type "Exception", .type "BaseException", .type "object"])
  | none => false
def initB (K : PySem.W.Frag) (x f : Str) : Bool := decide (PySem.W.findIn K (.ref (He.ga K x)) "__init__" = some (some (.ref (He.ma K (He.ga K x) "__init__")))) &&
  (decide (PySem.W.typeIn K (.ref (He.ma K (He.ga K x) "__init__")) = some (.type "function")) && decide (PySem.W.findIn K (.ref (He.ga K x)) f = some none))
def oneB (K : PySem.W.Frag) (q : Str × Nat × Str) : Bool := clsB K (He.ga K q.1) && chainB K q.1
def ex (K : PySem.W.Frag) : Bool := cl.all (oneB K) && ((cl.take 23).all (fun q => initB K q.1 q.2.2) && (decide (PySem.W.findIn K (.ref (He.ga K "Quarrel")) "other" = some none) &&
  (decide (((He.ga K "TickError") :: cn.map (He.ga K)).Nodup) && (decide (PySem.W.typeIn K (.ref (He.ga K "TickError")) = some (.type "type")) && (PySem.W.clsIn K (He.ga K "TickError")).isSome))))
abbrev R : PySem.W.OpenRow := PySem.W.OpenLaw.row PySem.Challenge.rw_allticked_k01_errors
abbrev hk : PySem.W.Hook := He.hookX 5 fa fn [] [] ex
def ob (s : PySem.W.SharedT) : He.AlX := He.obsX 5 fa fn [] [] ex (HandSHeadRun.getT s)
theorem ob_eq (s : PySem.W.SharedT) : ob s = hk.obs s.abs := He.obsX_eq (HandSHeadRun.getT_eq s)
def loose : List Str := [
  "TickError", "BadName", "BadFormula", "NoWord", "BadCount", "BadEvent", "BadSpan", "BadState", "NoEvent", "NoMoment", "BadStep", "NoStep", "BadEffect", "UnlikeWorlds", "UnlikeDeeds", "NameInUse", "NotThere", "Quarrel", "BadNumber", "BadSlack", "NoView", "BadTruth", "Contradiction", "NoName", "CannotHappen", "NotDone", "_law_cell", "_law_flags", "_law_alone", "_law_made", "_law_held"]
theorem run (w : World) : HandSHeadRun.RunEq R (PySem.W.view R.prog [33]) hk ob 8000 loose w := by
  intro os
  kernel_rfl
end Kx
set_option maxHeartbeats 4000000
namespace Kx
open PySem PySem.Spec PyProof.Rows L2

/-! ### each __init__ -/
def spInit (C : Addr) (f : Str) : Sp := fun vs H Q _ => ∃ (a : Addr) (v : V), vs = [.ref a, v] ∧ H a = some (exo a C none) ∧
  ∀ d, H d = none → d ≠ a → Q .non (upd (upd H d (exd d [(f, v)])) a (exo a C (some d)))
def spInit2 (C : Addr) (f g : Str) : Sp := fun vs H Q _ => ∃ (a : Addr) (v u : V), vs = [.ref a, v, u] ∧ H a = some (exo a C none) ∧
  ∀ d G, H d = none → d ≠ a → G a = some (exo a C (some d)) → G d = some (exd d [(g, u), (f, v)]) → (∀ b, b ≠ a → b ≠ d → G b = H b) → Q .non G
abbrev FnI (K : PySem.W.Frag) (q : Str) (i : Nat) (f : Addr) (fd : FuncData) : Prop :=
  FunD K "__init__" q (defArgs (inClass (tp i) 0)) (defBody (inClass (tp i) 0)) (defScope (inClass (tp i) 0)) [] [] f fd
abbrev FnT (K : PySem.W.Frag) (x : Str) (i : Nat) (f : Addr) (fd : FuncData) : Prop :=
  FunD K x x (defArgs (tp i)) (defBody (tp i)) (defScope (tp i)) [] [] f fd
structure MkC (P : Program) (w : World) (K : PySem.W.Frag) (mg : Str → Option Value) (base : Heap) (x : Str) (C : Addr) (f : Str) : Prop where
  c : ClsOk K C
  g : mg x = some (.ref C)
  no : PySem.W.findIn K (.ref C) f = some none
  fn : ∃ fI fd ps, PySem.W.findIn K (.ref C) "__init__" = some (some (.ref fI)) ∧ PySem.W.typeIn K (.ref fI) = some (.type "function") ∧ FnOk P w K mg base CX0 1 fI fd ps (spInit C f) ∧ Binds K fd ps []
section
variable {P : Program} {w : World} {K : PySem.W.Frag} {mg : Str → Option Value} {base : Heap} {f C : Addr} {fd : FuncData}

theorem sc_BadCount : FnScope ["self", "count"] ["self", "count"] (defScope (inClass (tp 5) 0)) := ⟨rfl, rfl, rfl, by decide +kernel, rfl, by decide +kernel, by decide +kernel⟩
theorem ok_BadCount (F : FnI K "BadCount.__init__" 5 f fd) (T : OexC K C) (no : PySem.W.findIn K (.ref C) "count" = some none) : FnOk P w K mg base CX0 1 f fd ["self", "count"] (spInit C "count") := by
  refine F.ok sc_BadCount (fun vs H Q E h => ?_) (fun cdv A outer s H vs Q E hr h => ⟨_, PSs.nox (pss_one (ps_ost (pv 0) (pv 1))), ?_⟩)
  · obtain ⟨a, v, rfl, _⟩ := h
    rfl
  · obtain ⟨a, v, rfl, e, q⟩ := h
    exact ⟨_, rfl, _, rfl, a, C, rfl, T, no, .inl ⟨e, fun d hd hne => q d hd hne⟩⟩
theorem sc_BadEffect : FnScope ["self", "effect"] ["self", "effect"] (defScope (inClass (tp 13) 0)) := ⟨rfl, rfl, rfl, by decide +kernel, rfl, by decide +kernel, by decide +kernel⟩
theorem ok_BadEffect (F : FnI K "BadEffect.__init__" 13 f fd) (T : OexC K C) (no : PySem.W.findIn K (.ref C) "effect" = some none) : FnOk P w K mg base CX0 1 f fd ["self", "effect"] (spInit C "effect") := by
  refine F.ok sc_BadEffect (fun vs H Q E h => ?_) (fun cdv A outer s H vs Q E hr h => ⟨_, PSs.nox (pss_one (ps_ost (pv 0) (pv 1))), ?_⟩)
  · obtain ⟨a, v, rfl, _⟩ := h
    rfl
  · obtain ⟨a, v, rfl, e, q⟩ := h
    exact ⟨_, rfl, _, rfl, a, C, rfl, T, no, .inl ⟨e, fun d hd hne => q d hd hne⟩⟩
theorem sc_BadEvent : FnScope ["self", "index"] ["self", "index"] (defScope (inClass (tp 6) 0)) := ⟨rfl, rfl, rfl, by decide +kernel, rfl, by decide +kernel, by decide +kernel⟩
theorem ok_BadEvent (F : FnI K "BadEvent.__init__" 6 f fd) (T : OexC K C) (no : PySem.W.findIn K (.ref C) "index" = some none) : FnOk P w K mg base CX0 1 f fd ["self", "index"] (spInit C "index") := by
  refine F.ok sc_BadEvent (fun vs H Q E h => ?_) (fun cdv A outer s H vs Q E hr h => ⟨_, PSs.nox (pss_one (ps_ost (pv 0) (pv 1))), ?_⟩)
  · obtain ⟨a, v, rfl, _⟩ := h
    rfl
  · obtain ⟨a, v, rfl, e, q⟩ := h
    exact ⟨_, rfl, _, rfl, a, C, rfl, T, no, .inl ⟨e, fun d hd hne => q d hd hne⟩⟩
theorem sc_BadFormula : FnScope ["self", "text"] ["self", "text"] (defScope (inClass (tp 3) 0)) := ⟨rfl, rfl, rfl, by decide +kernel, rfl, by decide +kernel, by decide +kernel⟩
theorem ok_BadFormula (F : FnI K "BadFormula.__init__" 3 f fd) (T : OexC K C) (no : PySem.W.findIn K (.ref C) "text" = some none) : FnOk P w K mg base CX0 1 f fd ["self", "text"] (spInit C "text") := by
  refine F.ok sc_BadFormula (fun vs H Q E h => ?_) (fun cdv A outer s H vs Q E hr h => ⟨_, PSs.nox (pss_one (ps_ost (pv 0) (pv 1))), ?_⟩)
  · obtain ⟨a, v, rfl, _⟩ := h
    rfl
  · obtain ⟨a, v, rfl, e, q⟩ := h
    exact ⟨_, rfl, _, rfl, a, C, rfl, T, no, .inl ⟨e, fun d hd hne => q d hd hne⟩⟩
theorem sc_BadName : FnScope ["self", "name"] ["self", "name"] (defScope (inClass (tp 2) 0)) := ⟨rfl, rfl, rfl, by decide +kernel, rfl, by decide +kernel, by decide +kernel⟩
theorem ok_BadName (F : FnI K "BadName.__init__" 2 f fd) (T : OexC K C) (no : PySem.W.findIn K (.ref C) "name" = some none) : FnOk P w K mg base CX0 1 f fd ["self", "name"] (spInit C "name") := by
  refine F.ok sc_BadName (fun vs H Q E h => ?_) (fun cdv A outer s H vs Q E hr h => ⟨_, PSs.nox (pss_one (ps_ost (pv 0) (pv 1))), ?_⟩)
  · obtain ⟨a, v, rfl, _⟩ := h
    rfl
  · obtain ⟨a, v, rfl, e, q⟩ := h
    exact ⟨_, rfl, _, rfl, a, C, rfl, T, no, .inl ⟨e, fun d hd hne => q d hd hne⟩⟩
theorem sc_BadNumber : FnScope ["self", "number"] ["self", "number"] (defScope (inClass (tp 19) 0)) := ⟨rfl, rfl, rfl, by decide +kernel, rfl, by decide +kernel, by decide +kernel⟩
theorem ok_BadNumber (F : FnI K "BadNumber.__init__" 19 f fd) (T : OexC K C) (no : PySem.W.findIn K (.ref C) "number" = some none) : FnOk P w K mg base CX0 1 f fd ["self", "number"] (spInit C "number") := by
  refine F.ok sc_BadNumber (fun vs H Q E h => ?_) (fun cdv A outer s H vs Q E hr h => ⟨_, PSs.nox (pss_one (ps_ost (pv 0) (pv 1))), ?_⟩)
  · obtain ⟨a, v, rfl, _⟩ := h
    rfl
  · obtain ⟨a, v, rfl, e, q⟩ := h
    exact ⟨_, rfl, _, rfl, a, C, rfl, T, no, .inl ⟨e, fun d hd hne => q d hd hne⟩⟩
theorem sc_BadSlack : FnScope ["self", "slack"] ["self", "slack"] (defScope (inClass (tp 20) 0)) := ⟨rfl, rfl, rfl, by decide +kernel, rfl, by decide +kernel, by decide +kernel⟩
theorem ok_BadSlack (F : FnI K "BadSlack.__init__" 20 f fd) (T : OexC K C) (no : PySem.W.findIn K (.ref C) "slack" = some none) : FnOk P w K mg base CX0 1 f fd ["self", "slack"] (spInit C "slack") := by
  refine F.ok sc_BadSlack (fun vs H Q E h => ?_) (fun cdv A outer s H vs Q E hr h => ⟨_, PSs.nox (pss_one (ps_ost (pv 0) (pv 1))), ?_⟩)
  · obtain ⟨a, v, rfl, _⟩ := h
    rfl
  · obtain ⟨a, v, rfl, e, q⟩ := h
    exact ⟨_, rfl, _, rfl, a, C, rfl, T, no, .inl ⟨e, fun d hd hne => q d hd hne⟩⟩
theorem sc_BadSpan : FnScope ["self", "moment"] ["self", "moment"] (defScope (inClass (tp 7) 0)) := ⟨rfl, rfl, rfl, by decide +kernel, rfl, by decide +kernel, by decide +kernel⟩
theorem ok_BadSpan (F : FnI K "BadSpan.__init__" 7 f fd) (T : OexC K C) (no : PySem.W.findIn K (.ref C) "moment" = some none) : FnOk P w K mg base CX0 1 f fd ["self", "moment"] (spInit C "moment") := by
  refine F.ok sc_BadSpan (fun vs H Q E h => ?_) (fun cdv A outer s H vs Q E hr h => ⟨_, PSs.nox (pss_one (ps_ost (pv 0) (pv 1))), ?_⟩)
  · obtain ⟨a, v, rfl, _⟩ := h
    rfl
  · obtain ⟨a, v, rfl, e, q⟩ := h
    exact ⟨_, rfl, _, rfl, a, C, rfl, T, no, .inl ⟨e, fun d hd hne => q d hd hne⟩⟩
theorem sc_BadState : FnScope ["self", "state"] ["self", "state"] (defScope (inClass (tp 8) 0)) := ⟨rfl, rfl, rfl, by decide +kernel, rfl, by decide +kernel, by decide +kernel⟩
theorem ok_BadState (F : FnI K "BadState.__init__" 8 f fd) (T : OexC K C) (no : PySem.W.findIn K (.ref C) "state" = some none) : FnOk P w K mg base CX0 1 f fd ["self", "state"] (spInit C "state") := by
  refine F.ok sc_BadState (fun vs H Q E h => ?_) (fun cdv A outer s H vs Q E hr h => ⟨_, PSs.nox (pss_one (ps_ost (pv 0) (pv 1))), ?_⟩)
  · obtain ⟨a, v, rfl, _⟩ := h
    rfl
  · obtain ⟨a, v, rfl, e, q⟩ := h
    exact ⟨_, rfl, _, rfl, a, C, rfl, T, no, .inl ⟨e, fun d hd hne => q d hd hne⟩⟩
theorem sc_BadStep : FnScope ["self", "index"] ["self", "index"] (defScope (inClass (tp 11) 0)) := ⟨rfl, rfl, rfl, by decide +kernel, rfl, by decide +kernel, by decide +kernel⟩
theorem ok_BadStep (F : FnI K "BadStep.__init__" 11 f fd) (T : OexC K C) (no : PySem.W.findIn K (.ref C) "index" = some none) : FnOk P w K mg base CX0 1 f fd ["self", "index"] (spInit C "index") := by
  refine F.ok sc_BadStep (fun vs H Q E h => ?_) (fun cdv A outer s H vs Q E hr h => ⟨_, PSs.nox (pss_one (ps_ost (pv 0) (pv 1))), ?_⟩)
  · obtain ⟨a, v, rfl, _⟩ := h
    rfl
  · obtain ⟨a, v, rfl, e, q⟩ := h
    exact ⟨_, rfl, _, rfl, a, C, rfl, T, no, .inl ⟨e, fun d hd hne => q d hd hne⟩⟩
theorem sc_BadTruth : FnScope ["self", "taken"] ["self", "taken"] (defScope (inClass (tp 22) 0)) := ⟨rfl, rfl, rfl, by decide +kernel, rfl, by decide +kernel, by decide +kernel⟩
theorem ok_BadTruth (F : FnI K "BadTruth.__init__" 22 f fd) (T : OexC K C) (no : PySem.W.findIn K (.ref C) "taken" = some none) : FnOk P w K mg base CX0 1 f fd ["self", "taken"] (spInit C "taken") := by
  refine F.ok sc_BadTruth (fun vs H Q E h => ?_) (fun cdv A outer s H vs Q E hr h => ⟨_, PSs.nox (pss_one (ps_ost (pv 0) (pv 1))), ?_⟩)
  · obtain ⟨a, v, rfl, _⟩ := h
    rfl
  · obtain ⟨a, v, rfl, e, q⟩ := h
    exact ⟨_, rfl, _, rfl, a, C, rfl, T, no, .inl ⟨e, fun d hd hne => q d hd hne⟩⟩
theorem sc_CannotHappen : FnScope ["self", "event"] ["self", "event"] (defScope (inClass (tp 25) 0)) := ⟨rfl, rfl, rfl, by decide +kernel, rfl, by decide +kernel, by decide +kernel⟩
theorem ok_CannotHappen (F : FnI K "CannotHappen.__init__" 25 f fd) (T : OexC K C) (no : PySem.W.findIn K (.ref C) "event" = some none) : FnOk P w K mg base CX0 1 f fd ["self", "event"] (spInit C "event") := by
  refine F.ok sc_CannotHappen (fun vs H Q E h => ?_) (fun cdv A outer s H vs Q E hr h => ⟨_, PSs.nox (pss_one (ps_ost (pv 0) (pv 1))), ?_⟩)
  · obtain ⟨a, v, rfl, _⟩ := h
    rfl
  · obtain ⟨a, v, rfl, e, q⟩ := h
    exact ⟨_, rfl, _, rfl, a, C, rfl, T, no, .inl ⟨e, fun d hd hne => q d hd hne⟩⟩
theorem sc_Contradiction : FnScope ["self", "view"] ["self", "view"] (defScope (inClass (tp 23) 0)) := ⟨rfl, rfl, rfl, by decide +kernel, rfl, by decide +kernel, by decide +kernel⟩
theorem ok_Contradiction (F : FnI K "Contradiction.__init__" 23 f fd) (T : OexC K C) (no : PySem.W.findIn K (.ref C) "view" = some none) : FnOk P w K mg base CX0 1 f fd ["self", "view"] (spInit C "view") := by
  refine F.ok sc_Contradiction (fun vs H Q E h => ?_) (fun cdv A outer s H vs Q E hr h => ⟨_, PSs.nox (pss_one (ps_ost (pv 0) (pv 1))), ?_⟩)
  · obtain ⟨a, v, rfl, _⟩ := h
    rfl
  · obtain ⟨a, v, rfl, e, q⟩ := h
    exact ⟨_, rfl, _, rfl, a, C, rfl, T, no, .inl ⟨e, fun d hd hne => q d hd hne⟩⟩
theorem sc_NameInUse : FnScope ["self", "name"] ["self", "name"] (defScope (inClass (tp 16) 0)) := ⟨rfl, rfl, rfl, by decide +kernel, rfl, by decide +kernel, by decide +kernel⟩
theorem ok_NameInUse (F : FnI K "NameInUse.__init__" 16 f fd) (T : OexC K C) (no : PySem.W.findIn K (.ref C) "name" = some none) : FnOk P w K mg base CX0 1 f fd ["self", "name"] (spInit C "name") := by
  refine F.ok sc_NameInUse (fun vs H Q E h => ?_) (fun cdv A outer s H vs Q E hr h => ⟨_, PSs.nox (pss_one (ps_ost (pv 0) (pv 1))), ?_⟩)
  · obtain ⟨a, v, rfl, _⟩ := h
    rfl
  · obtain ⟨a, v, rfl, e, q⟩ := h
    exact ⟨_, rfl, _, rfl, a, C, rfl, T, no, .inl ⟨e, fun d hd hne => q d hd hne⟩⟩
theorem sc_NoEvent : FnScope ["self", "event"] ["self", "event"] (defScope (inClass (tp 9) 0)) := ⟨rfl, rfl, rfl, by decide +kernel, rfl, by decide +kernel, by decide +kernel⟩
theorem ok_NoEvent (F : FnI K "NoEvent.__init__" 9 f fd) (T : OexC K C) (no : PySem.W.findIn K (.ref C) "event" = some none) : FnOk P w K mg base CX0 1 f fd ["self", "event"] (spInit C "event") := by
  refine F.ok sc_NoEvent (fun vs H Q E h => ?_) (fun cdv A outer s H vs Q E hr h => ⟨_, PSs.nox (pss_one (ps_ost (pv 0) (pv 1))), ?_⟩)
  · obtain ⟨a, v, rfl, _⟩ := h
    rfl
  · obtain ⟨a, v, rfl, e, q⟩ := h
    exact ⟨_, rfl, _, rfl, a, C, rfl, T, no, .inl ⟨e, fun d hd hne => q d hd hne⟩⟩
theorem sc_NoMoment : FnScope ["self", "moment"] ["self", "moment"] (defScope (inClass (tp 10) 0)) := ⟨rfl, rfl, rfl, by decide +kernel, rfl, by decide +kernel, by decide +kernel⟩
theorem ok_NoMoment (F : FnI K "NoMoment.__init__" 10 f fd) (T : OexC K C) (no : PySem.W.findIn K (.ref C) "moment" = some none) : FnOk P w K mg base CX0 1 f fd ["self", "moment"] (spInit C "moment") := by
  refine F.ok sc_NoMoment (fun vs H Q E h => ?_) (fun cdv A outer s H vs Q E hr h => ⟨_, PSs.nox (pss_one (ps_ost (pv 0) (pv 1))), ?_⟩)
  · obtain ⟨a, v, rfl, _⟩ := h
    rfl
  · obtain ⟨a, v, rfl, e, q⟩ := h
    exact ⟨_, rfl, _, rfl, a, C, rfl, T, no, .inl ⟨e, fun d hd hne => q d hd hne⟩⟩
theorem sc_NoName : FnScope ["self", "name"] ["self", "name"] (defScope (inClass (tp 24) 0)) := ⟨rfl, rfl, rfl, by decide +kernel, rfl, by decide +kernel, by decide +kernel⟩
theorem ok_NoName (F : FnI K "NoName.__init__" 24 f fd) (T : OexC K C) (no : PySem.W.findIn K (.ref C) "name" = some none) : FnOk P w K mg base CX0 1 f fd ["self", "name"] (spInit C "name") := by
  refine F.ok sc_NoName (fun vs H Q E h => ?_) (fun cdv A outer s H vs Q E hr h => ⟨_, PSs.nox (pss_one (ps_ost (pv 0) (pv 1))), ?_⟩)
  · obtain ⟨a, v, rfl, _⟩ := h
    rfl
  · obtain ⟨a, v, rfl, e, q⟩ := h
    exact ⟨_, rfl, _, rfl, a, C, rfl, T, no, .inl ⟨e, fun d hd hne => q d hd hne⟩⟩
theorem sc_NoStep : FnScope ["self", "name"] ["self", "name"] (defScope (inClass (tp 12) 0)) := ⟨rfl, rfl, rfl, by decide +kernel, rfl, by decide +kernel, by decide +kernel⟩
theorem ok_NoStep (F : FnI K "NoStep.__init__" 12 f fd) (T : OexC K C) (no : PySem.W.findIn K (.ref C) "name" = some none) : FnOk P w K mg base CX0 1 f fd ["self", "name"] (spInit C "name") := by
  refine F.ok sc_NoStep (fun vs H Q E h => ?_) (fun cdv A outer s H vs Q E hr h => ⟨_, PSs.nox (pss_one (ps_ost (pv 0) (pv 1))), ?_⟩)
  · obtain ⟨a, v, rfl, _⟩ := h
    rfl
  · obtain ⟨a, v, rfl, e, q⟩ := h
    exact ⟨_, rfl, _, rfl, a, C, rfl, T, no, .inl ⟨e, fun d hd hne => q d hd hne⟩⟩
theorem sc_NoView : FnScope ["self", "view"] ["self", "view"] (defScope (inClass (tp 21) 0)) := ⟨rfl, rfl, rfl, by decide +kernel, rfl, by decide +kernel, by decide +kernel⟩
theorem ok_NoView (F : FnI K "NoView.__init__" 21 f fd) (T : OexC K C) (no : PySem.W.findIn K (.ref C) "view" = some none) : FnOk P w K mg base CX0 1 f fd ["self", "view"] (spInit C "view") := by
  refine F.ok sc_NoView (fun vs H Q E h => ?_) (fun cdv A outer s H vs Q E hr h => ⟨_, PSs.nox (pss_one (ps_ost (pv 0) (pv 1))), ?_⟩)
  · obtain ⟨a, v, rfl, _⟩ := h
    rfl
  · obtain ⟨a, v, rfl, e, q⟩ := h
    exact ⟨_, rfl, _, rfl, a, C, rfl, T, no, .inl ⟨e, fun d hd hne => q d hd hne⟩⟩
theorem sc_NoWord : FnScope ["self", "word"] ["self", "word"] (defScope (inClass (tp 4) 0)) := ⟨rfl, rfl, rfl, by decide +kernel, rfl, by decide +kernel, by decide +kernel⟩
theorem ok_NoWord (F : FnI K "NoWord.__init__" 4 f fd) (T : OexC K C) (no : PySem.W.findIn K (.ref C) "word" = some none) : FnOk P w K mg base CX0 1 f fd ["self", "word"] (spInit C "word") := by
  refine F.ok sc_NoWord (fun vs H Q E h => ?_) (fun cdv A outer s H vs Q E hr h => ⟨_, PSs.nox (pss_one (ps_ost (pv 0) (pv 1))), ?_⟩)
  · obtain ⟨a, v, rfl, _⟩ := h
    rfl
  · obtain ⟨a, v, rfl, e, q⟩ := h
    exact ⟨_, rfl, _, rfl, a, C, rfl, T, no, .inl ⟨e, fun d hd hne => q d hd hne⟩⟩
theorem sc_NotDone : FnScope ["self", "moment"] ["self", "moment"] (defScope (inClass (tp 26) 0)) := ⟨rfl, rfl, rfl, by decide +kernel, rfl, by decide +kernel, by decide +kernel⟩
theorem ok_NotDone (F : FnI K "NotDone.__init__" 26 f fd) (T : OexC K C) (no : PySem.W.findIn K (.ref C) "moment" = some none) : FnOk P w K mg base CX0 1 f fd ["self", "moment"] (spInit C "moment") := by
  refine F.ok sc_NotDone (fun vs H Q E h => ?_) (fun cdv A outer s H vs Q E hr h => ⟨_, PSs.nox (pss_one (ps_ost (pv 0) (pv 1))), ?_⟩)
  · obtain ⟨a, v, rfl, _⟩ := h
    rfl
  · obtain ⟨a, v, rfl, e, q⟩ := h
    exact ⟨_, rfl, _, rfl, a, C, rfl, T, no, .inl ⟨e, fun d hd hne => q d hd hne⟩⟩
theorem sc_NotThere : FnScope ["self", "story"] ["self", "story"] (defScope (inClass (tp 17) 0)) := ⟨rfl, rfl, rfl, by decide +kernel, rfl, by decide +kernel, by decide +kernel⟩
theorem ok_NotThere (F : FnI K "NotThere.__init__" 17 f fd) (T : OexC K C) (no : PySem.W.findIn K (.ref C) "story" = some none) : FnOk P w K mg base CX0 1 f fd ["self", "story"] (spInit C "story") := by
  refine F.ok sc_NotThere (fun vs H Q E h => ?_) (fun cdv A outer s H vs Q E hr h => ⟨_, PSs.nox (pss_one (ps_ost (pv 0) (pv 1))), ?_⟩)
  · obtain ⟨a, v, rfl, _⟩ := h
    rfl
  · obtain ⟨a, v, rfl, e, q⟩ := h
    exact ⟨_, rfl, _, rfl, a, C, rfl, T, no, .inl ⟨e, fun d hd hne => q d hd hne⟩⟩
theorem sc_Quarrel : FnScope ["self", "one", "other"] ["self", "one", "other"] (defScope (inClass (tp 18) 0)) := ⟨rfl, rfl, rfl, by decide +kernel, rfl, by decide +kernel, by decide +kernel⟩
theorem ok_Quarrel (F : FnI K "Quarrel.__init__" 18 f fd) (T : OexC K C) (no1 : PySem.W.findIn K (.ref C) "one" = some none) (no2 : PySem.W.findIn K (.ref C) "other" = some none) : FnOk P w K mg base CX0 1 f fd ["self", "one", "other"] (spInit2 C "one" "other") := by
  refine F.ok sc_Quarrel (fun vs H Q E h => ?_) (fun cdv A outer s H vs Q E hr h => ⟨_, PSs.nox (pss_cons (ps_ost (pv 0) (pv 1)) (pss_one (ps_ost (pv 0) (pv 2)))), ?_⟩)
  · obtain ⟨a, v, u, rfl, _⟩ := h
    rfl
  · obtain ⟨a, v, u, rfl, e, q⟩ := h
    refine ⟨_, rfl, _, rfl, a, C, rfl, T, no1, .inl ⟨e, fun d hd hne => ?_⟩⟩
    refine ⟨_, rfl, _, rfl, a, C, rfl, T, no2, .inr ⟨d, [("one", v)], upd_same, ?_, ?_, ?_⟩⟩
    · rw [upd_ne hne, upd_same]
    · show 1 ≤ 900
      decide
    · refine q d _ hd hne ?_ upd_same ?_
      · rw [upd_ne (Ne.symm hne), upd_same]
      · intro b h1 h2
        rw [upd_ne h2, upd_ne h1, upd_ne h2]
end
end Kx
set_option maxHeartbeats 4000000
namespace Kx
open PySem PySem.Spec PyProof.Rows L2

theorem same_new {H : Hp} {a : Addr} {u : HO} (n : H a = none) : Same H (upd H a u) := fun b x e => by
  rw [upd_ne (ne_of_none e n)]
  exact e
theorem PE.conv {X : Cx} {e : Expr} {t t' : TE} (h : PE X e t) (c : ∀ σ H Q, t' σ H Q → t σ H Q) : PE X e t' := ⟨fun pins s σ H Q I q => h.run pins s σ H Q I (c σ H Q q)⟩

/-! ### C(x) with x in the slot i -/
def tE1 (C : Addr) (f : Str) (i : Nat) : TE := fun σ H Q => ∃ v, σ[i]? = some (some v) ∧ ∀ a G, Same H G → XAt G a C [(f, v)] → Q (.ref a) G
/-- C(x).f -/
def tF1 (i : Nat) : TE := fun σ H Q => ∃ v, σ[i]? = some (some v) ∧ ∀ G, Same H G → Q v G
/-- (C(x), j) -/
def Ent (G : Hp) (t C : Addr) (j : Int) : Prop := ∃ a, G t = some (.tup [.ref a, .int j]) ∧ XIs G a C
theorem Ent.same {G G' : Hp} {t C : Addr} {j : Int} (s : Same G G') (e : Ent G t C j) : Ent G' t C j := by
  obtain ⟨a, h1, h2⟩ := e
  exact ⟨a, s _ _ h1, h2.same s⟩
def tEnt (C : Addr) (j : Int) (i : Nat) : TE := fun σ H Q => ∃ v, σ[i]? = some (some v) ∧ ∀ t G, Same H G → Ent G t C j → Q (.ref t) G
section
variable {X : Cx} {x f : Str} {C : Addr} {e : Expr} {i : Nat} {p pos pos2 pos3 pos4 : Pos} {n k0 : Nat}
theorem pe_E1 (M : MkC X.prog X.w X.K X.mg X.base x C f) (hr : Room 2 X.A) (hg : Gl X x) (he : PE X e (tVar i))
    (hdb : (x == ("__debug__" : Str)) = false := by decide) (hs : starEach (e :: []) X.env = (false, eval e X.env) :: starEach [] X.env := by rfl) (hpl : (backTo pos (starEach [] X.env)).any (·.1) = false := by rfl) :
    PE X (.Call (.Name x p) [e] [] pos) (tE1 C f i) := by
  obtain ⟨fI, fd, ps, i1, i2, F1, hb⟩ := M.fn
  refine PE.conv (pe_mkv M.c.o i1 i2 F1 hr hb pass0 hg M.g (pa_cons he pa_nil hs) hdb hs hpl) ?_
  intro σ H Q ⟨v, hv, q⟩
  refine ⟨v, hv, (by show 1 ≤ 1000; decide), fun a ha => ⟨a, v, rfl, upd_same, fun d hd hne => ⟨rfl, q a _ ?_ ?_⟩⟩⟩
  · have hd' : H d = none := by rw [upd_ne hne] at hd; exact hd
    intro b u hb
    rw [upd_ne (ne_of_none hb ha), upd_ne (ne_of_none hb hd'), upd_ne (ne_of_none hb ha)]
    exact hb
  · exact ⟨d, upd_same, by rw [upd_ne hne, upd_same]⟩
theorem pe_F1 (M : MkC X.prog X.w X.K X.mg X.base x C f) (hr : Room 2 X.A) (hg : Gl X x) (he : PE X e (tVar i))
    (hdb : (x == ("__debug__" : Str)) = false := by decide) (hs : starEach (e :: []) X.env = (false, eval e X.env) :: starEach [] X.env := by rfl) (hpl : (backTo pos (starEach [] X.env)).any (·.1) = false := by rfl)
    (hab : attributeBase (.Call (.Name x p) [e] [] pos) f X.env (eval (.Call (.Name x p) [e] [] pos) X.env) = eval (.Call (.Name x p) [e] [] pos) X.env := by rfl) :
    PE X (.Attribute (.Call (.Name x p) [e] [] pos) f pos2) (tF1 i) := by
  refine PE.conv (pe_fx (pe_E1 M hr hg he hdb hs hpl) hab) ?_
  intro σ H Q ⟨v, hv, q⟩
  exact ⟨v, hv, fun a G s xa => ⟨a, C, _, v, rfl, M.c.f, M.no, xa, (by simp [List.lookup]), q G s⟩⟩
theorem pe_Ent {j : Int} {q : Expr} (hE : PE X e (tE1 C f i)) (hj : PE X q (tC (.int j)))
    (hs1 : starEach [q] X.env = (false, eval q X.env) :: starEach [] X.env := by rfl) (hs : starEach [e, q] X.env = (false, eval e X.env) :: starEach [q] X.env := by rfl) : PE X (.Tuple [e, q] k0 pos) (tEnt C j i) := by
  refine PE.conv (pe_tup (pa_cons hE (pa_cons hj pa_nil hs1) hs)) ?_
  intro σ H Q ⟨v, hv, z⟩
  refine ⟨v, hv, fun a G s xa => ⟨(by show 2 ≤ sizeLine; decide), fun t ht => z t _ (s.trans (same_new ht)) ⟨a, upd_same, (XIs.same (same_new ht) (.inr ⟨_, xa⟩))⟩⟩⟩
theorem pe_Ent0 {j : Int} {q : Expr} (hE : PE X e (tMk0 C)) (hj : PE X q (tC (.int j)))
    (hs1 : starEach [q] X.env = (false, eval q X.env) :: starEach [] X.env := by rfl) (hs : starEach [e, q] X.env = (false, eval e X.env) :: starEach [q] X.env := by rfl) : PE X (.Tuple [e, q] k0 pos) (fun σ H Q => ∀ t G, Same H G → Ent G t C j → Q (.ref t) G) := by
  refine PE.conv (pe_tup (pa_cons hE (pa_cons hj pa_nil hs1) hs)) ?_
  intro σ H Q z
  exact fun a ha => ⟨(by show 2 ≤ sizeLine; decide), fun t ht => z t _ ((same_new ha).trans (same_new ht)) ⟨a, upd_same, XIs.same (same_new ht) (.inl upd_same)⟩⟩
end

/-! ### Quarrel(x, [x]) -/
structure MkQ (P : Program) (w : World) (K : PySem.W.Frag) (mg : Str → Option Value) (base : Heap) (C : Addr) : Prop where
  c : ClsOk K C
  g : mg "Quarrel" = some (.ref C)
  no1 : PySem.W.findIn K (.ref C) "one" = some none
  no2 : PySem.W.findIn K (.ref C) "other" = some none
  fn : ∃ fI fd ps, PySem.W.findIn K (.ref C) "__init__" = some (some (.ref fI)) ∧ PySem.W.typeIn K (.ref fI) = some (.type "function") ∧ FnOk P w K mg base CX0 1 fI fd ps (spInit2 C "one" "other") ∧ Binds K fd ps []
def tEQ (C : Addr) (i : Nat) : TE := fun σ H Q => ∃ v, σ[i]? = some (some v) ∧ ∀ a l G, Same H G → G l = some (.lst [v]) → XAt G a C [("other", .ref l), ("one", v)] → Q (.ref a) G
section
variable {X : Cx} {C : Addr} {e : Expr} {i : Nat} {p pos pos2 pos3 : Pos} {k0 : Nat}
theorem pe_EQ (M : MkQ X.prog X.w X.K X.mg X.base C) (hr : Room 2 X.A) (hg : Gl X "Quarrel") (he : PE X e (tVar i)) (he2 : PE X (.List [e2] pos3) (tLst (tCons (tVar i) tNil)))
    (hs1 : starEach ((.List [e2] pos3) :: []) X.env = (false, eval (.List [e2] pos3) X.env) :: starEach [] X.env := by rfl)
    (hs : starEach (e :: [.List [e2] pos3]) X.env = (false, eval e X.env) :: starEach [.List [e2] pos3] X.env := by rfl) (hpl : (backTo pos (starEach [.List [e2] pos3] X.env)).any (·.1) = false := by rfl) :
    PE X (.Call (.Name "Quarrel" p) [e, .List [e2] pos3] [] pos) (tEQ C i) := by
  obtain ⟨fI, fd, ps, i1, i2, F1, hb⟩ := M.fn
  refine PE.conv (pe_mkv M.c.o i1 i2 F1 hr hb pass0 hg M.g (pa_cons he (pa_cons he2 pa_nil hs1) hs) (by decide) hs hpl) ?_
  intro σ H Q ⟨v, hv, q⟩
  refine ⟨v, hv, v, hv, (by show 1 ≤ sizeLine; decide), fun l hl => ⟨(by show 2 ≤ 1000; decide), fun a ha => ⟨a, v, .ref l, rfl, upd_same, fun d G hd hne ga gd keep => ⟨rfl, ?_⟩⟩⟩⟩
  have la : l ≠ a := ne_of_none (H := upd H l (.lst [v])) upd_same ha
  have ld : l ≠ d := by
    intro z
    subst z
    rw [upd_ne la, upd_same] at hd
    cases hd
  have ha' : H a = none := by rw [upd_ne (Ne.symm la)] at ha; exact ha
  have hd' : H d = none := by rw [upd_ne hne, upd_ne (Ne.symm ld)] at hd; exact hd
  refine q a l G ?_ ?_ ⟨d, ga, gd⟩
  · intro b u hb
    have h1 : b ≠ a := ne_of_none hb ha'
    have h2 : b ≠ d := ne_of_none hb hd'
    rw [keep b h1 h2, upd_ne h1, upd_ne (ne_of_none hb hl)]
    exact hb
  · rw [keep l la ld, upd_ne la, upd_same]
theorem pe_FQ1 (M : MkQ X.prog X.w X.K X.mg X.base C) (hE : PE X e (tEQ C i)) (hab : attributeBase e "one" X.env (eval e X.env) = eval e X.env := by rfl) : PE X (.Attribute e "one" pos) (tF1 i) := by
  refine PE.conv (pe_fx hE hab) ?_
  intro σ H Q ⟨v, hv, q⟩
  exact ⟨v, hv, fun a l G s _ xa => ⟨a, C, _, v, rfl, M.c.f, M.no1, xa, (by rfl), q G s⟩⟩
theorem pe_FQ2 (M : MkQ X.prog X.w X.K X.mg X.base C) (hE : PE X e (tEQ C i)) (hab : attributeBase e "other" X.env (eval e X.env) = eval e X.env := by rfl) :
    PE X (.Attribute e "other" pos) (fun σ H Q => ∃ v, σ[i]? = some (some v) ∧ ∀ l G, Same H G → G l = some (.lst [v]) → Q (.ref l) G) := by
  refine PE.conv (pe_fx hE hab) ?_
  intro σ H Q ⟨v, hv, q⟩
  exact ⟨v, hv, fun a l G s hl xa => ⟨a, C, _, .ref l, rfl, M.c.f, M.no2, xa, (by simp [List.lookup]), q l G s hl⟩⟩
theorem pe_EntQ {j : Int} {q : Expr} (hE : PE X e (tEQ C i)) (hj : PE X q (tC (.int j)))
    (hs1 : starEach [q] X.env = (false, eval q X.env) :: starEach [] X.env := by rfl) (hs : starEach [e, q] X.env = (false, eval e X.env) :: starEach [q] X.env := by rfl) : PE X (.Tuple [e, q] k0 pos) (tEnt C j i) := by
  refine PE.conv (pe_tup (pa_cons hE (pa_cons hj pa_nil hs1) hs)) ?_
  intro σ H Q ⟨v, hv, z⟩
  refine ⟨v, hv, fun a l G s _ xa => ⟨(by show 2 ≤ sizeLine; decide), fun t ht => z t _ (s.trans (same_new ht)) ⟨a, upd_same, (XIs.same (same_new ht) (.inr ⟨_, xa⟩))⟩⟩⟩
end

/-! ### isinstance(e, C) with e in the slot i -/
def tIs (K : PySem.W.Frag) (C : Value) (i : Nat) : TE := fun σ H Q => ∃ a D b, σ[i]? = some (some (.ref a)) ∧ ClsOk K D ∧ XIs H a D ∧ PySem.W.kitOne K (.ref D) C = some b ∧ Q (.bl b) H
section
variable {X : Cx} {e c : Expr} {i : Nat} {p pos : Pos}
theorem pe_is {cv : V} {C : Value} (hm : X.mg "isinstance" = none) (hg : Gl X "isinstance") (k : ClsV cv C) (he : PE X e (tVar i)) (hc : PE X c (tC cv))
    (hs1 : starEach (c :: []) X.env = (false, eval c X.env) :: starEach [] X.env := by rfl)
    (hs : starEach (e :: [c]) X.env = (false, eval e X.env) :: starEach [c] X.env := by rfl) (hpl : (backTo pos (starEach [c] X.env)).any (·.1) = false := by rfl) :
    PE X (.Call (.Name "isinstance" p) [e, c] [] pos) (tIs X.K C i) := by
  refine PE.conv (pe_callB call_ix hg hm (by decide +kernel) (pa_cons he (pa_cons hc pa_nil hs1) hs) (by decide) (by decide) hs hpl) ?_
  intro σ H Q ⟨a, D, b, ha, T, x, kk, q⟩
  exact ⟨_, ha, a, D, cv, C, b, rfl, k, T, x, kk, q⟩
end
end Kx

set_option maxHeartbeats 8000000
namespace Kx
open PySem PySem.Spec PyProof.Rows L2

def nm (j : Nat) : Str := (cl.getD j ("", 0, "")).1
def cA (K : PySem.W.Frag) (j : Nat) : Addr := He.ga K (nm j)
structure Txt (K : PySem.W.Frag) (mg : Str → Option Value) : Prop where
  g : ∀ j, j < 25 → mg (nm j) = some (.ref (cA K j))
  tick : mg "TickError" = some (.ref (He.ga K "TickError"))
  isi : mg "isinstance" = none
  ve : mg "ValueError" = none
  le : mg "LookupError" = none
  te : mg "TypeError" = none
  ae : mg "ArithmeticError" = none
/-- what isinstance says of an exception of the class D, the j-th of 25 -/
structure Kin (K : PySem.W.Frag) (D : Addr) (i : Nat) : Prop where
  c : ClsOk K D
  own : ∀ j, j < 25 → PySem.W.kitOne K (.ref D) (.ref (cA K j)) = some (decide (i = j))
  tick : PySem.W.kitOne K (.ref D) (.ref (He.ga K "TickError")) = some true
  ve : PySem.W.kitOne K (.ref D) (.type "ValueError") = some true
  odd : PySem.W.kitAny K (.ref D) [.type "LookupError", .type "TypeError", .type "ArithmeticError"] = some false

/-! ### lists that grow -/
theorem rd_ext {H0 G : Hp} {l : Addr} {xs zs : List V} {Qd : Hp → Prop} (hl : H0 l = none) (s : Same H0 G) (h : G l = some (.lst xs)) (z : xs.length + zs.length ≤ sizeLine)
    (k : ∀ G', Same H0 G' → G' l = some (.lst (xs ++ zs)) → Qd G') : ∀ p, G p = none → rExtend (.ref l) [.ref p] (upd G p (.lst zs)) (fun _ H => Qd H) := by
  intro p hp
  refine ⟨l, p, xs, zs, rfl, rfl, same_new hp _ _ h, upd_same, z, k _ ?_ upd_same⟩
  intro b u hb
  rw [upd_ne (ne_of_none hb hl), upd_ne (ne_of_none (s b u hb) hp)]
  exact s b u hb
theorem rd_app {H0 G : Hp} {l : Addr} {xs : List V} {y : V} {Qd : Hp → Prop} (hl : H0 l = none) (s : Same H0 G) (h : G l = some (.lst xs)) (z : xs.length < sizeLine)
    (k : ∀ G', Same H0 G' → G' l = some (.lst (xs ++ [y])) → Qd G') : rAppend (.ref l) [y] G (fun _ H => Qd H) := by
  refine ⟨l, xs, y, rfl, rfl, h, z, k _ ?_ upd_same⟩
  intro b u hb
  rw [upd_ne (ne_of_none hb hl)]
  exact s b u hb
theorem rd_cat {H0 G : Hp} {l : Addr} {xs zs : List V} {Q : VK} (s : Same H0 G) (h : G l = some (.lst xs)) (z : xs.length + zs.length ≤ sizeLine)
    (k : ∀ q G', Same H0 G' → H0 q = none → G' q = some (.lst (xs ++ zs)) → Q (.ref q) G') : ∀ p, G p = none → rCat (.ref l) (.ref p) (upd G p (.lst zs)) Q := by
  intro p hp
  refine ⟨l, p, xs, zs, rfl, rfl, same_new hp _ _ h, upd_same, z, fun q hq => k q _ ?_ ?_ upd_same⟩
  · exact (s.trans (same_new hp)).trans (same_new hq)
  · exact (s.trans (same_new hp)).free hq

/-! ### _law_flags -/
def flags (i : Nat) : List Bool := (List.range 25).map fun j => decide (i = j)
def spFlags (K : PySem.W.Frag) : Sp := fun vs H Q _ => ∃ (a D : Addr) (i : Nat), vs = [.ref a] ∧ i < 25 ∧ Kin K D i ∧ XIs H a D ∧ ∀ p G, Same H G → G p = some (.lst ((flags i).map V.bl)) → Q (.ref p) G
section
variable {P : Program} {w : World} {K : PySem.W.Frag} {mg : Str → Option Value} {base : Heap} {f : Addr} {fd : FuncData}
theorem sc_flags : FnScope ["_law_e", "_law_out"] ["_law_e"] (defScope (tp 29)) := ⟨rfl, rfl, rfl, by decide +kernel, rfl, by decide +kernel, by decide +kernel⟩

theorem ok_flags (F : FnT K "_law_flags" 29 f fd) (T : Txt K mg) : FnOk P w K mg base CX0 1 f fd ["_law_e"] (spFlags K) := by
  refine F.ok sc_flags (fun vs H Q E h => ?_) (fun cdv A outer s H vs Q E hr h => ⟨_, PSs.nox (pss_cons (ps_set (i := 1) sc_flags.nd rfl (Or.inl rfl) (pe_lst (pa_cons (pe_is (C := .ref (cA K 0)) T.isi rfl (.own _) (pv 0) (pe_glob rfl (T.g 0 (by decide)) rfl)) (pa_cons (pe_is (C := .ref (cA K 1)) T.isi rfl (.own _) (pv 0) (pe_glob rfl (T.g 1 (by decide)) rfl)) (pa_cons (pe_is (C := .ref (cA K 2)) T.isi rfl (.own _) (pv 0) (pe_glob rfl (T.g 2 (by decide)) rfl)) (pa_cons (pe_is (C := .ref (cA K 3)) T.isi rfl (.own _) (pv 0) (pe_glob rfl (T.g 3 (by decide)) rfl)) pa_nil))))))
      (pss_cons (ps_expr (pe_bm PySem.F.plainAttrs_list PySem.F.slot_list_extend PySem.F.type_list_extend mt_extend (pv 1) (pa_cons (pe_lst (pa_cons (pe_is (C := .ref (cA K 4)) T.isi rfl (.own _) (pv 0) (pe_glob rfl (T.g 4 (by decide)) rfl)) (pa_cons (pe_is (C := .ref (cA K 5)) T.isi rfl (.own _) (pv 0) (pe_glob rfl (T.g 5 (by decide)) rfl)) (pa_cons (pe_is (C := .ref (cA K 6)) T.isi rfl (.own _) (pv 0) (pe_glob rfl (T.g 6 (by decide)) rfl)) (pa_cons (pe_is (C := .ref (cA K 7)) T.isi rfl (.own _) (pv 0) (pe_glob rfl (T.g 7 (by decide)) rfl)) pa_nil))))) pa_nil)))
      (pss_cons (ps_expr (pe_bm PySem.F.plainAttrs_list PySem.F.slot_list_extend PySem.F.type_list_extend mt_extend (pv 1) (pa_cons (pe_lst (pa_cons (pe_is (C := .ref (cA K 8)) T.isi rfl (.own _) (pv 0) (pe_glob rfl (T.g 8 (by decide)) rfl)) (pa_cons (pe_is (C := .ref (cA K 9)) T.isi rfl (.own _) (pv 0) (pe_glob rfl (T.g 9 (by decide)) rfl)) (pa_cons (pe_is (C := .ref (cA K 10)) T.isi rfl (.own _) (pv 0) (pe_glob rfl (T.g 10 (by decide)) rfl)) (pa_cons (pe_is (C := .ref (cA K 11)) T.isi rfl (.own _) (pv 0) (pe_glob rfl (T.g 11 (by decide)) rfl)) pa_nil))))) pa_nil)))
      (pss_cons (ps_expr (pe_bm PySem.F.plainAttrs_list PySem.F.slot_list_extend PySem.F.type_list_extend mt_extend (pv 1) (pa_cons (pe_lst (pa_cons (pe_is (C := .ref (cA K 12)) T.isi rfl (.own _) (pv 0) (pe_glob rfl (T.g 12 (by decide)) rfl)) (pa_cons (pe_is (C := .ref (cA K 13)) T.isi rfl (.own _) (pv 0) (pe_glob rfl (T.g 13 (by decide)) rfl)) (pa_cons (pe_is (C := .ref (cA K 14)) T.isi rfl (.own _) (pv 0) (pe_glob rfl (T.g 14 (by decide)) rfl)) pa_nil)))) pa_nil)))
      (pss_cons (ps_expr (pe_bm PySem.F.plainAttrs_list PySem.F.slot_list_append PySem.F.type_list_append mt_append (pv 1) (pa_cons (pe_is (C := .ref (cA K 15)) T.isi rfl (.own _) (pv 0) (pe_glob rfl (T.g 15 (by decide)) rfl)) pa_nil)))
      (pss_cons (ps_expr (pe_bm PySem.F.plainAttrs_list PySem.F.slot_list_extend PySem.F.type_list_extend mt_extend (pv 1) (pa_cons (pe_lst (pa_cons (pe_is (C := .ref (cA K 16)) T.isi rfl (.own _) (pv 0) (pe_glob rfl (T.g 16 (by decide)) rfl)) (pa_cons (pe_is (C := .ref (cA K 17)) T.isi rfl (.own _) (pv 0) (pe_glob rfl (T.g 17 (by decide)) rfl)) (pa_cons (pe_is (C := .ref (cA K 18)) T.isi rfl (.own _) (pv 0) (pe_glob rfl (T.g 18 (by decide)) rfl)) (pa_cons (pe_is (C := .ref (cA K 19)) T.isi rfl (.own _) (pv 0) (pe_glob rfl (T.g 19 (by decide)) rfl)) pa_nil))))) pa_nil)))
      (pss_cons (ps_expr (pe_bm PySem.F.plainAttrs_list PySem.F.slot_list_extend PySem.F.type_list_extend mt_extend (pv 1) (pa_cons (pe_lst (pa_cons (pe_is (C := .ref (cA K 20)) T.isi rfl (.own _) (pv 0) (pe_glob rfl (T.g 20 (by decide)) rfl)) (pa_cons (pe_is (C := .ref (cA K 21)) T.isi rfl (.own _) (pv 0) (pe_glob rfl (T.g 21 (by decide)) rfl)) (pa_cons (pe_is (C := .ref (cA K 22)) T.isi rfl (.own _) (pv 0) (pe_glob rfl (T.g 22 (by decide)) rfl)) (pa_cons (pe_is (C := .ref (cA K 23)) T.isi rfl (.own _) (pv 0) (pe_glob rfl (T.g 23 (by decide)) rfl)) pa_nil))))) pa_nil)))
      (pss_one (ps_ret (pe_op op_cat (pv 1) (pe_lst (pa_cons (pe_is (C := .ref (cA K 24)) T.isi rfl (.own _) (pv 0) (pe_glob rfl (T.g 24 (by decide)) rfl)) pa_nil)))))))))))), ?_⟩)
  · obtain ⟨a, D, i, rfl, _⟩ := h
    rfl
  · obtain ⟨a, D, i, rfl, hi, k, x, q⟩ := h
    refine ⟨a, D, _, rfl, k.c, x, k.own 0 (by decide), a, D, _, rfl, k.c, x, k.own 1 (by decide), a, D, _, rfl, k.c, x, k.own 2 (by decide), a, D, _, rfl, k.c, x, k.own 3 (by decide), (by show 4 ≤ sizeLine; decide), fun l hl => ?_⟩
    refine ⟨_, rfl, .inl ⟨rfl, _, SqL.of upd_same⟩, a, D, _, rfl, k.c, x.same (same_new hl), k.own 4 (by decide), a, D, _, rfl, k.c, x.same (same_new hl), k.own 5 (by decide), a, D, _, rfl, k.c, x.same (same_new hl), k.own 6 (by decide), a, D, _, rfl, k.c, x.same (same_new hl), k.own 7 (by decide), (by show 4 ≤ sizeLine; decide), rd_ext hl (same_new hl) upd_same (by show 4 + 4 ≤ sizeLine; decide) fun G8 s8 h8 => ?_⟩
    refine ⟨_, rfl, .inl ⟨rfl, _, SqL.of h8⟩, a, D, _, rfl, k.c, x.same s8, k.own 8 (by decide), a, D, _, rfl, k.c, x.same s8, k.own 9 (by decide), a, D, _, rfl, k.c, x.same s8, k.own 10 (by decide), a, D, _, rfl, k.c, x.same s8, k.own 11 (by decide), (by show 4 ≤ sizeLine; decide), rd_ext hl s8 h8 (by show 8 + 4 ≤ sizeLine; decide) fun G12 s12 h12 => ?_⟩
    refine ⟨_, rfl, .inl ⟨rfl, _, SqL.of h12⟩, a, D, _, rfl, k.c, x.same s12, k.own 12 (by decide), a, D, _, rfl, k.c, x.same s12, k.own 13 (by decide), a, D, _, rfl, k.c, x.same s12, k.own 14 (by decide), (by show 3 ≤ sizeLine; decide), rd_ext hl s12 h12 (by show 12 + 3 ≤ sizeLine; decide) fun G15 s15 h15 => ?_⟩
    refine ⟨_, rfl, .inl ⟨rfl, _, SqL.of h15⟩, a, D, _, rfl, k.c, x.same s15, k.own 15 (by decide), rd_app hl s15 h15 (by show 15 < sizeLine; decide) fun G16 s16 h16 => ?_⟩
    refine ⟨_, rfl, .inl ⟨rfl, _, SqL.of h16⟩, a, D, _, rfl, k.c, x.same s16, k.own 16 (by decide), a, D, _, rfl, k.c, x.same s16, k.own 17 (by decide), a, D, _, rfl, k.c, x.same s16, k.own 18 (by decide), a, D, _, rfl, k.c, x.same s16, k.own 19 (by decide), (by show 4 ≤ sizeLine; decide), rd_ext hl s16 h16 (by show 16 + 4 ≤ sizeLine; decide) fun G20 s20 h20 => ?_⟩
    refine ⟨_, rfl, .inl ⟨rfl, _, SqL.of h20⟩, a, D, _, rfl, k.c, x.same s20, k.own 20 (by decide), a, D, _, rfl, k.c, x.same s20, k.own 21 (by decide), a, D, _, rfl, k.c, x.same s20, k.own 22 (by decide), a, D, _, rfl, k.c, x.same s20, k.own 23 (by decide), (by show 4 ≤ sizeLine; decide), rd_ext hl s20 h20 (by show 20 + 4 ≤ sizeLine; decide) fun G24 s24 h24 => ?_⟩
    exact ⟨_, rfl, a, D, _, rfl, k.c, x.same s24, k.own 24 (by decide), (by show 1 ≤ sizeLine; decide), rd_cat s24 h24 (by show 24 + 1 ≤ sizeLine; decide) fun p G s _ h => q p G s h⟩
end
end Kx
set_option maxHeartbeats 8000000
namespace Kx
open PySem PySem.Spec PyProof.Rows L2

theorem flags_one : ∀ i, i < 25 → (flags i).count true = 1 := by decide
theorem flags_at : ∀ i : Nat, i < 25 → atI ((flags i).map V.bl) (i : Int) = some (.bl true) := by decide
def spAlone (K : PySem.W.Frag) : Sp := fun vs H Q _ => ∃ (a D : Addr) (i : Nat), vs = [.ref a, .int i] ∧ i < 25 ∧ Kin K D i ∧ XIs H a D ∧ ∀ G, Same H G → Q (.bl true) G
section
variable {P : Program} {w : World} {K : PySem.W.Frag} {mg : Str → Option Value} {base : Heap} {f fF : Addr} {fd fdF : FuncData}
theorem sc_alone : FnScope ["_law_e", "_law_place", "_law_flags_here"] ["_law_e", "_law_place"] (defScope (tp 30)) := ⟨rfl, rfl, rfl, by decide +kernel, rfl, by decide +kernel, by decide +kernel⟩
theorem ok_alone (F : FnT K "_law_alone" 30 f fd) (T : Txt K mg) (FF : FnT K "_law_flags" 29 fF fdF) (gF : mg "_law_flags" = some (.ref fF)) : FnOk P w K mg base CX0 2 f fd ["_law_e", "_law_place"] (spAlone K) := by
  have GF : FnOk P w K mg base CX0 1 fF fdF ["_law_e"] (spFlags K) := ok_flags FF T
  have bF : L2.Binds K fdF ["_law_e"] [] := FF.bindsN fun _ _ _ _ _ _ us hl => match us, hl with | [_], _ => rfl
  refine F.ok sc_alone (fun vs H Q E h => ?_) (fun cdv A outer s H vs Q E hr h => ⟨_, PSs.nox (
    pss_cons (ps_set (i := 2) sc_alone.nd rfl (Or.inl rfl) (pe_call GF hr rfl gF FF.kp bF .nil pass0 (pa_cons (pv 0) pa_nil)))
    (pss_cons (ps_if (pt_val (pe_callB call_ixT rfl T.isi (by decide +kernel) (pa_cons (pv 0) (pa_cons (pe_tup (pa_cons (pe_bltn (v := .ty "LookupError") rfl T.le (by decide +kernel) rfl)
      (pa_cons (pe_bltn (v := .ty "TypeError") rfl T.te (by decide +kernel) rfl) (pa_cons (pe_bltn (v := .ty "ArithmeticError") rfl T.ae (by decide +kernel) rfl) pa_nil)))) pa_nil)))) (pss_one (ps_ret pe_bl)) pss_nil)
    (pss_one (ps_ret (pe_and (pe_is (C := .ref (He.ga K "TickError")) T.isi rfl (.own _) (pv 0) (pe_glob rfl T.tick rfl))
      (pe_and (pe_is (C := .type "ValueError") T.isi rfl (.ty _) (pv 0) (pe_bltn (v := .ty "ValueError") rfl T.ve (by decide +kernel) rfl))
      (pe_and (pe_cmpR op_eq (pe_bm PySem.F.plainAttrs_list PySem.F.slot_list_count PySem.F.type_list_count mt_countB (pv 2) (pa_cons pe_bl pa_nil)) pe_int (nomark _))
      (pe_one (pe_ix ix_list (pv 2) (pv 1) (fun _ _ => rfl)))))))))), ?_⟩)
  · obtain ⟨a, D, i, rfl, _⟩ := h
    rfl
  · obtain ⟨a, D, i, rfl, hi, k, x, q⟩ := h
    refine ⟨_, rfl, a, D, i, rfl, hi, k, x, fun p G s h => ?_⟩
    refine ⟨_, rfl, (by show 3 ≤ sizeLine; decide), fun t ht => ?_⟩
    refine ⟨a, D, t, _, [.type "LookupError", .type "TypeError", .type "ArithmeticError"], false, rfl, upd_same, .cons (.ty _) (.cons (.ty _) (.cons (.ty _) .nil)), k.c, x.same (s.trans (same_new ht)), k.odd, false, rfl, iteF ?_⟩
    have s2 := s.trans (same_new ht (u := .tup [.ty "LookupError", .ty "TypeError", .ty "ArithmeticError"]))
    have h2 := same_new ht (u := .tup [.ty "LookupError", .ty "TypeError", .ty "ArithmeticError"]) _ _ h
    refine ⟨a, D, true, rfl, k.c, x.same s2, k.tick, true, rfl, iteT ?_⟩
    refine ⟨a, D, true, rfl, k.c, x.same s2, k.ve, true, rfl, iteT ?_⟩
    refine ⟨_, rfl, .inl ⟨rfl, _, SqL.of h2⟩, p, flags i, true, rfl, rfl, SqL.of h2, rfl, true, ?_, iteT ?_⟩
    · rw [flags_one i hi]
      rfl
    · exact ⟨_, rfl, _, rfl, p, _, (i : Int), _, rfl, rfl, SqL.of h2, flags_at i hi, q _ s2⟩
end
end Kx
set_option maxHeartbeats 1000000
namespace Kx
open PySem PySem.Spec PyProof.Rows L2

def att (j : Nat) : Str := (cl.getD j ("", 0, "")).2.2
structure Mks (P : Program) (w : World) (K : PySem.W.Frag) (mg : Str → Option Value) (base : Heap) : Prop where
  a : ∀ j, j < 22 → MkC P w K mg base (nm j) (cA K j) (att j)
  q : MkQ P w K mg base (cA K 22)
  x23 : PySem.W.excIn K (cA K 23) He.veBase "ValueError.__new__" = true
  k23 : PySem.W.keepIn K (.ref (cA K 23)) = true
  x24 : PySem.W.excIn K (cA K 24) He.veBase "ValueError.__new__" = true
  k24 : PySem.W.keepIn K (.ref (cA K 24)) = true
def Ents (K : PySem.W.Frag) (G : Hp) : Nat → List V → Prop
  | _, [] => True
  | j, x :: r => (∃ t, x = .ref t ∧ Ent G t (cA K j) (j : Int)) ∧ Ents K G (j + 1) r
theorem Ents.same {K : PySem.W.Frag} {G G' : Hp} (s : Same G G') : ∀ {xs : List V} {j : Nat}, Ents K G j xs → Ents K G' j xs
  | [], _, _ => trivial
  | _ :: _, _, ⟨⟨t, e, h⟩, r⟩ => ⟨⟨t, e, h.same s⟩, Ents.same s r⟩
theorem Ents.snoc {K : PySem.W.Frag} {G : Hp} {t : Addr} : ∀ {xs : List V} {j : Nat}, Ents K G j xs → Ent G t (cA K (j + xs.length)) ((j + xs.length : Nat) : Int) → Ents K G j (xs ++ [.ref t])
  | [], _, _, e => ⟨⟨t, rfl, e⟩, trivial⟩
  | x :: xs, j, ⟨h, r⟩, e => ⟨h, Ents.snoc r (by
      have q : j + 1 + xs.length = j + (x :: xs).length := by rw [List.length_cons]; omega
      rw [q]
      exact e)⟩
theorem Ents.at {K : PySem.W.Frag} {G : Hp} : ∀ {xs : List V} {j i : Nat} {x : V}, Ents K G j xs → xs[i]? = some x → ∃ t, x = .ref t ∧ Ent G t (cA K (j + i)) ((j + i : Nat) : Int)
  | [], _, _, _, _, e => by simp at e
  | y :: xs, j, 0, x, ⟨h, _⟩, e => by
    have e2 : y = x := by simpa using e
    subst e2
    exact h
  | y :: xs, j, i + 1, x, ⟨_, r⟩, e => by
    have e2 : xs[i]? = some x := by simpa using e
    have h := Ents.at r e2
    have q : j + 1 + i = j + (i + 1) := by omega
    rw [q] at h
    exact h
def spMade (K : PySem.W.Frag) : Sp := fun vs H Q _ => ∃ v : V, vs = [v] ∧ ∀ p G xs, Same H G → G p = some (.lst xs) → xs.length = 25 → Ents K G 0 xs → Q (.ref p) G
def spHeld : Sp := fun vs H Q _ => ∃ v : V, vs = [v] ∧ ∀ p G, Same H G → G p = some (.lst (List.replicate 23 v)) → Q (.ref p) G
section
variable {P : Program} {w : World} {K : PySem.W.Frag} {mg : Str → Option Value} {base : Heap} {f : Addr} {fd : FuncData}
theorem sc_made : FnScope ["_law_x", "_law_out"] ["_law_x"] (defScope (tp 31)) := ⟨rfl, rfl, rfl, by decide +kernel, rfl, by decide +kernel, by decide +kernel⟩
theorem sc_held : FnScope ["_law_x", "_law_out"] ["_law_x"] (defScope (tp 32)) := ⟨rfl, rfl, rfl, by decide +kernel, rfl, by decide +kernel, by decide +kernel⟩

theorem ok_made (F : FnT K "_law_made" 31 f fd) (T : Txt K mg) (M : Mks P w K mg base) : FnOk P w K mg base CX0 3 f fd ["_law_x"] (spMade K) := by
  refine F.ok sc_made (fun vs H Q E h => ?_) (fun cdv A outer s H vs Q E hr h => ⟨_, PSs.nox (pss_cons (ps_set (i := 1) sc_made.nd rfl (Or.inl rfl) (pe_lst (pa_cons (pe_Ent (pe_E1 (M.a 0 (by decide)) hr rfl (pv 0)) pe_int)
        (pa_cons (pe_Ent (pe_E1 (M.a 1 (by decide)) hr rfl (pv 0)) pe_int)
        (pa_cons (pe_Ent (pe_E1 (M.a 2 (by decide)) hr rfl (pv 0)) pe_int)
        (pa_cons (pe_Ent (pe_E1 (M.a 3 (by decide)) hr rfl (pv 0)) pe_int)
        (pa_cons (pe_Ent (pe_E1 (M.a 4 (by decide)) hr rfl (pv 0)) pe_int)
        pa_nil)))))))
      (pss_cons (ps_set (i := 1) sc_made.nd rfl (Or.inl rfl) (pe_op op_cat (pv 1) (pe_lst (pa_cons (pe_Ent (pe_E1 (M.a 5 (by decide)) hr rfl (pv 0)) pe_int)
        (pa_cons (pe_Ent (pe_E1 (M.a 6 (by decide)) hr rfl (pv 0)) pe_int)
        (pa_cons (pe_Ent (pe_E1 (M.a 7 (by decide)) hr rfl (pv 0)) pe_int)
        (pa_cons (pe_Ent (pe_E1 (M.a 8 (by decide)) hr rfl (pv 0)) pe_int)
        (pa_cons (pe_Ent (pe_E1 (M.a 9 (by decide)) hr rfl (pv 0)) pe_int)
        pa_nil))))))))
      (pss_cons (ps_set (i := 1) sc_made.nd rfl (Or.inl rfl) (pe_op op_cat (pv 1) (pe_lst (pa_cons (pe_Ent (pe_E1 (M.a 10 (by decide)) hr rfl (pv 0)) pe_int)
        (pa_cons (pe_Ent (pe_E1 (M.a 11 (by decide)) hr rfl (pv 0)) pe_int)
        (pa_cons (pe_Ent (pe_E1 (M.a 12 (by decide)) hr rfl (pv 0)) pe_int)
        (pa_cons (pe_Ent (pe_E1 (M.a 13 (by decide)) hr rfl (pv 0)) pe_int)
        pa_nil)))))))
      (pss_cons (ps_set (i := 1) sc_made.nd rfl (Or.inl rfl) (pe_op op_cat (pv 1) (pe_lst (pa_cons (pe_Ent (pe_E1 (M.a 14 (by decide)) hr rfl (pv 0)) pe_int)
        (pa_cons (pe_Ent (pe_E1 (M.a 15 (by decide)) hr rfl (pv 0)) pe_int)
        (pa_cons (pe_Ent (pe_E1 (M.a 16 (by decide)) hr rfl (pv 0)) pe_int)
        (pa_cons (pe_Ent (pe_E1 (M.a 17 (by decide)) hr rfl (pv 0)) pe_int)
        (pa_cons (pe_Ent (pe_E1 (M.a 18 (by decide)) hr rfl (pv 0)) pe_int)
        pa_nil))))))))
      (pss_cons (ps_set (i := 1) sc_made.nd rfl (Or.inl rfl) (pe_op op_cat (pv 1) (pe_lst (pa_cons (pe_Ent (pe_E1 (M.a 19 (by decide)) hr rfl (pv 0)) pe_int)
        (pa_cons (pe_Ent (pe_E1 (M.a 20 (by decide)) hr rfl (pv 0)) pe_int)
        (pa_cons (pe_Ent (pe_E1 (M.a 21 (by decide)) hr rfl (pv 0)) pe_int)
        pa_nil))))))
      (pss_one (ps_ret (pe_op op_cat (pv 1) (pe_lst (pa_cons (pe_EntQ (pe_EQ M.q hr rfl (pv 0) (pe_lst (pa_cons (pv 0) pa_nil))) pe_int)
        (pa_cons (pe_Ent0 (pe_mk0 M.x23 M.k23 rfl (T.g 23 (by decide))) pe_int)
        (pa_cons (pe_Ent0 (pe_mk0 M.x24 M.k24 rfl (T.g 24 (by decide))) pe_int)
        pa_nil)))))))))))), ?_⟩)
  · obtain ⟨v, rfl, _⟩ := h
    rfl
  · obtain ⟨v, rfl, q⟩ := h
    refine ⟨v, rfl, fun t0 G0 s0 e0 => ?_⟩
    refine ⟨v, rfl, fun t1 G1 s1 e1 => ?_⟩
    refine ⟨v, rfl, fun t2 G2 s2 e2 => ?_⟩
    refine ⟨v, rfl, fun t3 G3 s3 e3 => ?_⟩
    refine ⟨v, rfl, fun t4 G4 s4 e4 => ?_⟩
    refine ⟨(by show 5 ≤ sizeLine; decide), fun l hl => ?_⟩
    have L := upd_same (H := G4) (a := l) (o := .lst [.ref t0, .ref t1, .ref t2, .ref t3, .ref t4])
    have c0 := same_new hl (u := .lst [.ref t0, .ref t1, .ref t2, .ref t3, .ref t4])
    refine ⟨_, rfl, ?_⟩
    refine ⟨v, rfl, fun t5 G5 s5 e5 => ?_⟩
    replace L := s5 _ _ L
    refine ⟨v, rfl, fun t6 G6 s6 e6 => ?_⟩
    replace L := s6 _ _ L
    refine ⟨v, rfl, fun t7 G7 s7 e7 => ?_⟩
    replace L := s7 _ _ L
    refine ⟨v, rfl, fun t8 G8 s8 e8 => ?_⟩
    replace L := s8 _ _ L
    refine ⟨v, rfl, fun t9 G9 s9 e9 => ?_⟩
    replace L := s9 _ _ L
    refine ⟨(by show 5 ≤ sizeLine; decide), rd_cat (Same.refl _) L (by show 5 + 5 ≤ sizeLine; decide) fun l1 H1 c1 _ L1 => ?_⟩
    clear L
    have L : H1 l1 = some (.lst [.ref t0, .ref t1, .ref t2, .ref t3, .ref t4, .ref t5, .ref t6, .ref t7, .ref t8, .ref t9]) := L1
    refine ⟨_, rfl, ?_⟩
    refine ⟨v, rfl, fun t10 G10 s10 e10 => ?_⟩
    replace L := s10 _ _ L
    refine ⟨v, rfl, fun t11 G11 s11 e11 => ?_⟩
    replace L := s11 _ _ L
    refine ⟨v, rfl, fun t12 G12 s12 e12 => ?_⟩
    replace L := s12 _ _ L
    refine ⟨v, rfl, fun t13 G13 s13 e13 => ?_⟩
    replace L := s13 _ _ L
    refine ⟨(by show 4 ≤ sizeLine; decide), rd_cat (Same.refl _) L (by show 10 + 4 ≤ sizeLine; decide) fun l2 H2 c2 _ L2 => ?_⟩
    clear L
    have L : H2 l2 = some (.lst [.ref t0, .ref t1, .ref t2, .ref t3, .ref t4, .ref t5, .ref t6, .ref t7, .ref t8, .ref t9, .ref t10, .ref t11, .ref t12, .ref t13]) := L2
    refine ⟨_, rfl, ?_⟩
    refine ⟨v, rfl, fun t14 G14 s14 e14 => ?_⟩
    replace L := s14 _ _ L
    refine ⟨v, rfl, fun t15 G15 s15 e15 => ?_⟩
    replace L := s15 _ _ L
    refine ⟨v, rfl, fun t16 G16 s16 e16 => ?_⟩
    replace L := s16 _ _ L
    refine ⟨v, rfl, fun t17 G17 s17 e17 => ?_⟩
    replace L := s17 _ _ L
    refine ⟨v, rfl, fun t18 G18 s18 e18 => ?_⟩
    replace L := s18 _ _ L
    refine ⟨(by show 5 ≤ sizeLine; decide), rd_cat (Same.refl _) L (by show 14 + 5 ≤ sizeLine; decide) fun l3 H3 c3 _ L3 => ?_⟩
    clear L
    have L : H3 l3 = some (.lst [.ref t0, .ref t1, .ref t2, .ref t3, .ref t4, .ref t5, .ref t6, .ref t7, .ref t8, .ref t9, .ref t10, .ref t11, .ref t12, .ref t13, .ref t14, .ref t15, .ref t16, .ref t17, .ref t18]) := L3
    refine ⟨_, rfl, ?_⟩
    refine ⟨v, rfl, fun t19 G19 s19 e19 => ?_⟩
    replace L := s19 _ _ L
    refine ⟨v, rfl, fun t20 G20 s20 e20 => ?_⟩
    replace L := s20 _ _ L
    refine ⟨v, rfl, fun t21 G21 s21 e21 => ?_⟩
    replace L := s21 _ _ L
    refine ⟨(by show 3 ≤ sizeLine; decide), rd_cat (Same.refl _) L (by show 19 + 3 ≤ sizeLine; decide) fun l4 H4 c4 _ L4 => ?_⟩
    clear L
    have L : H4 l4 = some (.lst [.ref t0, .ref t1, .ref t2, .ref t3, .ref t4, .ref t5, .ref t6, .ref t7, .ref t8, .ref t9, .ref t10, .ref t11, .ref t12, .ref t13, .ref t14, .ref t15, .ref t16, .ref t17, .ref t18, .ref t19, .ref t20, .ref t21]) := L4
    refine ⟨_, rfl, ?_⟩
    refine ⟨v, rfl, fun t22 G22 s22 e22 => ?_⟩
    replace L := s22 _ _ L
    refine fun t23 G23 s23 e23 => ?_
    replace L := s23 _ _ L
    refine fun t24 G24 s24 e24 => ?_
    replace L := s24 _ _ L
    refine ⟨(by show 3 ≤ sizeLine; decide), rd_cat (Same.refl _) L (by show 22 + 3 ≤ sizeLine; decide) fun l5 H5 c5 _ L5 => ?_⟩
    clear L
    have L : H5 l5 = some (.lst [.ref t0, .ref t1, .ref t2, .ref t3, .ref t4, .ref t5, .ref t6, .ref t7, .ref t8, .ref t9, .ref t10, .ref t11, .ref t12, .ref t13, .ref t14, .ref t15, .ref t16, .ref t17, .ref t18, .ref t19, .ref t20, .ref t21, .ref t22, .ref t23, .ref t24]) := L5
    have r31 := Same.refl H5
    have r30 := c5.trans r31
    have r29 := s24.trans r30
    have r28 := s23.trans r29
    have r27 := s22.trans r28
    have r26 := c4.trans r27
    have r25 := s21.trans r26
    have r24 := s20.trans r25
    have r23 := s19.trans r24
    have r22 := c3.trans r23
    have r21 := s18.trans r22
    have r20 := s17.trans r21
    have r19 := s16.trans r20
    have r18 := s15.trans r19
    have r17 := s14.trans r18
    have r16 := c2.trans r17
    have r15 := s13.trans r16
    have r14 := s12.trans r15
    have r13 := s11.trans r14
    have r12 := s10.trans r13
    have r11 := c1.trans r12
    have r10 := s9.trans r11
    have r9 := s8.trans r10
    have r8 := s7.trans r9
    have r7 := s6.trans r8
    have r6 := s5.trans r7
    have r5 := c0.trans r6
    have r4 := s4.trans r5
    have r3 := s3.trans r4
    have r2 := s2.trans r3
    have r1 := s1.trans r2
    have r0 := s0.trans r1
    exact q _ _ [.ref t0, .ref t1, .ref t2, .ref t3, .ref t4, .ref t5, .ref t6, .ref t7, .ref t8, .ref t9, .ref t10, .ref t11, .ref t12, .ref t13, .ref t14, .ref t15, .ref t16, .ref t17, .ref t18, .ref t19, .ref t20, .ref t21, .ref t22, .ref t23, .ref t24] r0 L rfl ⟨⟨t0, rfl, e0.same r1⟩, ⟨t1, rfl, e1.same r2⟩, ⟨t2, rfl, e2.same r3⟩, ⟨t3, rfl, e3.same r4⟩, ⟨t4, rfl, e4.same r5⟩, ⟨t5, rfl, e5.same r7⟩, ⟨t6, rfl, e6.same r8⟩, ⟨t7, rfl, e7.same r9⟩, ⟨t8, rfl, e8.same r10⟩, ⟨t9, rfl, e9.same r11⟩, ⟨t10, rfl, e10.same r13⟩, ⟨t11, rfl, e11.same r14⟩, ⟨t12, rfl, e12.same r15⟩, ⟨t13, rfl, e13.same r16⟩, ⟨t14, rfl, e14.same r18⟩, ⟨t15, rfl, e15.same r19⟩, ⟨t16, rfl, e16.same r20⟩, ⟨t17, rfl, e17.same r21⟩, ⟨t18, rfl, e18.same r22⟩, ⟨t19, rfl, e19.same r24⟩, ⟨t20, rfl, e20.same r25⟩, ⟨t21, rfl, e21.same r26⟩, ⟨t22, rfl, e22.same r28⟩, ⟨t23, rfl, e23.same r29⟩, ⟨t24, rfl, e24.same r30⟩, trivial⟩
theorem ok_held (F : FnT K "_law_held" 32 f fd) (M : Mks P w K mg base) : FnOk P w K mg base CX0 3 f fd ["_law_x"] spHeld := by
  refine F.ok sc_held (fun vs H Q E h => ?_) (fun cdv A outer s H vs Q E hr h => ⟨_, PSs.nox (pss_cons (ps_set (i := 1) sc_held.nd rfl (Or.inl rfl) (pe_lst (pa_cons (pe_F1 (M.a 0 (by decide)) hr rfl (pv 0))
        (pa_cons (pe_F1 (M.a 1 (by decide)) hr rfl (pv 0))
        (pa_cons (pe_F1 (M.a 2 (by decide)) hr rfl (pv 0))
        (pa_cons (pe_F1 (M.a 3 (by decide)) hr rfl (pv 0))
        (pa_cons (pe_F1 (M.a 4 (by decide)) hr rfl (pv 0))
        pa_nil)))))))
      (pss_cons (ps_set (i := 1) sc_held.nd rfl (Or.inl rfl) (pe_op op_cat (pv 1) (pe_lst (pa_cons (pe_F1 (M.a 5 (by decide)) hr rfl (pv 0))
        (pa_cons (pe_F1 (M.a 6 (by decide)) hr rfl (pv 0))
        (pa_cons (pe_F1 (M.a 7 (by decide)) hr rfl (pv 0))
        (pa_cons (pe_F1 (M.a 8 (by decide)) hr rfl (pv 0))
        (pa_cons (pe_F1 (M.a 9 (by decide)) hr rfl (pv 0))
        pa_nil))))))))
      (pss_cons (ps_set (i := 1) sc_held.nd rfl (Or.inl rfl) (pe_op op_cat (pv 1) (pe_lst (pa_cons (pe_F1 (M.a 10 (by decide)) hr rfl (pv 0))
        (pa_cons (pe_F1 (M.a 11 (by decide)) hr rfl (pv 0))
        (pa_cons (pe_F1 (M.a 12 (by decide)) hr rfl (pv 0))
        (pa_cons (pe_F1 (M.a 13 (by decide)) hr rfl (pv 0))
        (pa_cons (pe_F1 (M.a 14 (by decide)) hr rfl (pv 0))
        pa_nil))))))))
      (pss_cons (ps_set (i := 1) sc_held.nd rfl (Or.inl rfl) (pe_op op_cat (pv 1) (pe_lst (pa_cons (pe_F1 (M.a 15 (by decide)) hr rfl (pv 0))
        (pa_cons (pe_F1 (M.a 16 (by decide)) hr rfl (pv 0))
        (pa_cons (pe_F1 (M.a 17 (by decide)) hr rfl (pv 0))
        (pa_cons (pe_F1 (M.a 18 (by decide)) hr rfl (pv 0))
        (pa_cons (pe_F1 (M.a 19 (by decide)) hr rfl (pv 0))
        (pa_cons (pe_F1 (M.a 20 (by decide)) hr rfl (pv 0))
        pa_nil)))))))))
      (pss_one (ps_ret (pe_op op_cat (pv 1) (pe_lst (pa_cons (pe_F1 (M.a 21 (by decide)) hr rfl (pv 0))
        (pa_cons (pe_FQ1 M.q (pe_EQ M.q hr rfl (pv 0) (pe_lst (pa_cons (pv 0) pa_nil))))
        pa_nil)))))))))), ?_⟩)
  · obtain ⟨v, rfl, _⟩ := h
    rfl
  · obtain ⟨v, rfl, q⟩ := h
    have S := Same.refl H
    refine ⟨v, rfl, fun G0 s0 => ?_⟩
    replace S := S.trans s0
    refine ⟨v, rfl, fun G1 s1 => ?_⟩
    replace S := S.trans s1
    refine ⟨v, rfl, fun G2 s2 => ?_⟩
    replace S := S.trans s2
    refine ⟨v, rfl, fun G3 s3 => ?_⟩
    replace S := S.trans s3
    refine ⟨v, rfl, fun G4 s4 => ?_⟩
    replace S := S.trans s4
    refine ⟨(by show 5 ≤ sizeLine; decide), fun l hl => ?_⟩
    have L := upd_same (H := G4) (a := l) (o := .lst [v, v, v, v, v])
    replace S := S.trans (same_new hl (u := .lst [v, v, v, v, v]))
    refine ⟨_, rfl, ?_⟩
    refine ⟨v, rfl, fun G5 s5 => ?_⟩
    replace S := S.trans s5
    replace L := s5 _ _ L
    refine ⟨v, rfl, fun G6 s6 => ?_⟩
    replace S := S.trans s6
    replace L := s6 _ _ L
    refine ⟨v, rfl, fun G7 s7 => ?_⟩
    replace S := S.trans s7
    replace L := s7 _ _ L
    refine ⟨v, rfl, fun G8 s8 => ?_⟩
    replace S := S.trans s8
    replace L := s8 _ _ L
    refine ⟨v, rfl, fun G9 s9 => ?_⟩
    replace S := S.trans s9
    replace L := s9 _ _ L
    refine ⟨(by show 5 ≤ sizeLine; decide), rd_cat (Same.refl _) L (by show 5 + 5 ≤ sizeLine; decide) fun l1 H1 s _ L1 => ?_⟩
    replace S := S.trans s
    clear L
    have L : H1 l1 = some (.lst [v, v, v, v, v, v, v, v, v, v]) := L1
    refine ⟨_, rfl, ?_⟩
    refine ⟨v, rfl, fun G10 s10 => ?_⟩
    replace S := S.trans s10
    replace L := s10 _ _ L
    refine ⟨v, rfl, fun G11 s11 => ?_⟩
    replace S := S.trans s11
    replace L := s11 _ _ L
    refine ⟨v, rfl, fun G12 s12 => ?_⟩
    replace S := S.trans s12
    replace L := s12 _ _ L
    refine ⟨v, rfl, fun G13 s13 => ?_⟩
    replace S := S.trans s13
    replace L := s13 _ _ L
    refine ⟨v, rfl, fun G14 s14 => ?_⟩
    replace S := S.trans s14
    replace L := s14 _ _ L
    refine ⟨(by show 5 ≤ sizeLine; decide), rd_cat (Same.refl _) L (by show 10 + 5 ≤ sizeLine; decide) fun l2 H2 s _ L2 => ?_⟩
    replace S := S.trans s
    clear L
    have L : H2 l2 = some (.lst [v, v, v, v, v, v, v, v, v, v, v, v, v, v, v]) := L2
    refine ⟨_, rfl, ?_⟩
    refine ⟨v, rfl, fun G15 s15 => ?_⟩
    replace S := S.trans s15
    replace L := s15 _ _ L
    refine ⟨v, rfl, fun G16 s16 => ?_⟩
    replace S := S.trans s16
    replace L := s16 _ _ L
    refine ⟨v, rfl, fun G17 s17 => ?_⟩
    replace S := S.trans s17
    replace L := s17 _ _ L
    refine ⟨v, rfl, fun G18 s18 => ?_⟩
    replace S := S.trans s18
    replace L := s18 _ _ L
    refine ⟨v, rfl, fun G19 s19 => ?_⟩
    replace S := S.trans s19
    replace L := s19 _ _ L
    refine ⟨v, rfl, fun G20 s20 => ?_⟩
    replace S := S.trans s20
    replace L := s20 _ _ L
    refine ⟨(by show 6 ≤ sizeLine; decide), rd_cat (Same.refl _) L (by show 15 + 6 ≤ sizeLine; decide) fun l3 H3 s _ L3 => ?_⟩
    replace S := S.trans s
    clear L
    have L : H3 l3 = some (.lst [v, v, v, v, v, v, v, v, v, v, v, v, v, v, v, v, v, v, v, v, v]) := L3
    refine ⟨_, rfl, ?_⟩
    refine ⟨v, rfl, fun G21 s21 => ?_⟩
    replace S := S.trans s21
    replace L := s21 _ _ L
    refine ⟨v, rfl, fun G22 s22 => ?_⟩
    replace S := S.trans s22
    replace L := s22 _ _ L
    refine ⟨(by show 2 ≤ sizeLine; decide), rd_cat (Same.refl _) L (by show 21 + 2 ≤ sizeLine; decide) fun l4 H4 s _ L4 => ?_⟩
    replace S := S.trans s
    clear L
    have L : H4 l4 = some (.lst [v, v, v, v, v, v, v, v, v, v, v, v, v, v, v, v, v, v, v, v, v, v, v]) := L4
    exact q _ _ S L
end
end Kx
set_option maxHeartbeats 2000000
namespace Kx
open PySem PySem.Spec PyProof.Rows L2

/-! ### what the law gives the classes: an int, its text, a list and a tuple -/
mutual
theorem dp_same {K : PySem.W.Frag} {G G' : Hp} (s : Same G G') : ∀ {v : V} {d : PyData}, Dp K G v d → Dp K G' v d
  | _, _, .non => .non
  | _, _, .bl b => .bl b
  | _, _, .int i => .int i
  | _, _, .str x => .str x
  | _, _, .lst h r => .lst (s.seq h) (dpAll_same s r)
  | _, _, .tup h r => .tup (by
      rcases h with (h | ⟨o, h⟩) | h
      · exact .inl (.inl (s _ _ h))
      · exact .inl (.inr ⟨o, s _ _ h⟩)
      · exact .inr h) (dpAll_same s r)
theorem dpAll_same {K : PySem.W.Frag} {G G' : Hp} (s : Same G G') : ∀ {vs : List V} {ds : List PyData}, DpAll K G vs ds → DpAll K G' vs ds
  | _, _, .nil => .nil
  | _, _, .cons h r => .cons (dp_same s h) (dpAll_same s r)
end
theorem dp_rep {K : PySem.W.Frag} {G : Hp} {v : V} {d : PyData} (h : Dp K G v d) : ∀ n, DpAll K G (List.replicate n v) (List.replicate n d)
  | 0 => .nil
  | n + 1 => .cons h (dp_rep h n)
theorem can_rep {d : PyData} (h : d.canLay0 = true) : ∀ n, PyData.canLayAll0 (List.replicate n d) = true
  | 0 => rfl
  | n + 1 => by
    show (d.canLay0 && PyData.canLayAll0 (List.replicate n d)) = true
    rw [h, can_rep h n] <;> rfl
theorem depth_rep {d : PyData} {k : Nat} (h : d.depth ≤ k) : ∀ n, PyData.depthAll (List.replicate n d) ≤ k
  | 0 => Nat.zero_le _
  | n + 1 => Nat.max_le.mpr ⟨h, depth_rep h n⟩
theorem shaped_rep {d : PyData} (h1 : d.canLay0 = true) (h2 : d.depth ≤ 1) (n : Nat) : SeqAt.shaped (.list (List.replicate n d)) = true := by
  have a : PyData.canLay0 (.list (List.replicate n d)) = true := can_rep h1 n
  have b : PyData.depth (.list (List.replicate n d)) ≤ 64 := by
    have z := depth_rep h2 n
    show PyData.depthAll (List.replicate n d) + 1 ≤ 64
    omega
  unfold SeqAt.shaped
  rw [a, decide_eq_true b] <;> rfl
theorem eqv_rep {d : PyData} (h1 : d.canLay0 = true) (n : Nat) : PyData.eqv (.list (List.replicate n d)) (.list (List.replicate n d)) = true :=
  SeqAt.eqv_refl _ (can_rep h1 n)
theorem strOk_of (z : String) : PyData.strOk (Str.ofString z) = true := by
  unfold PyData.strOk
  rw [Array.all_eq_true]
  intro i hi
  simp only [decide_eq_true_eq]
  show ((Str.ofString z).cps[i]) < 0x110000
  have e : (Str.ofString z).cps = (z.toList.map Char.toNat).toArray := by rw [Str.ofString_eq_toList]
  simp only [e, List.getElem_toArray, List.getElem_map]
  have v := (z.toList[i]'(by simpa [e] using hi)).valid
  rcases v with v | ⟨_, v⟩
  · exact Nat.lt_trans v (by decide)
  · exact v
/-- the data of an argument -/
def Dat (K : PySem.W.Frag) (H : Hp) (v : V) : Prop := ∃ d, Dp K H v d ∧ d.canLay0 = true ∧ d.depth ≤ 1
theorem Dat.same {K : PySem.W.Frag} {H H' : Hp} {v : V} (s : Same H H') (h : Dat K H v) : Dat K H' v := by
  obtain ⟨d, h1, h2⟩ := h
  exact ⟨d, dp_same s h1, h2⟩
theorem small_log {n : Nat} (h : n < 10 ^ 20) : n.log2 < 1920 := by
  by_cases z : n = 0
  · subst z
    decide
  · exact Nat.lt_trans ((Nat.log2_lt z).mpr (Nat.lt_trans h (show 10 ^ 20 < 2 ^ 70 by decide))) (by decide)

/-! ### _law_cell -/
def spCell (K : PySem.W.Frag) : Sp := fun vs H Q _ => ∃ (a : Addr) (k : Nat) (ns : List Int), vs = [.ref a, .int k] ∧ SqL K H a (ns.map V.int) ∧ ∀ i, Q (.int i) H
section
variable {P : Program} {w : World} {K : PySem.W.Frag} {mg : Str → Option Value} {base : Heap} {f : Addr} {fd : FuncData}
theorem sc_cell : FnScope ["_law_script", "_law_k"] ["_law_script", "_law_k"] (defScope (tp 28)) := ⟨rfl, rfl, rfl, by decide +kernel, rfl, by decide +kernel, by decide +kernel⟩
theorem ok_cell (F : FnT K "_law_cell" 28 f fd) (gL : mg "len" = none) : FnOk P w K mg base CX0 1 f fd ["_law_script", "_law_k"] (spCell K) := by
  refine F.ok sc_cell (fun vs H Q E h => ?_) (fun cdv A outer s H vs Q E hr h => ⟨_, PSs.nox (
    pss_cons (ps_if (pt_cmpR op_lt (pv 1) (pe_callB call_len rfl gL boot_len (pa_cons (pv 0) pa_nil)) (nomark _)) (pss_one (ps_ret (pe_ix ix_list (pv 0) (pv 1) (fun _ _ => rfl)))) pss_nil)
    (pss_one (ps_ret pe_int))), ?_⟩)
  · obtain ⟨a, k, ns, rfl, _⟩ := h
    rfl
  · obtain ⟨a, k, ns, rfl, hs, q⟩ := h
    refine ⟨_, rfl, _, rfl, _, (ns.map V.int).length, rfl, .inl ⟨_, hs, rfl⟩, _, _, rfl, rfl, _, rfl, ?_⟩
    refine ite2 (fun c => ?_) fun _ => q 0
    have c2 : (k : Int) < ((ns.map V.int).length : Int) := of_decide_eq_true c
    have c3 : k < (ns.map V.int).length := by omega
    have c4 : k < ns.length := by rw [List.length_map] at c3; exact c3
    refine ⟨_, rfl, _, rfl, a, _, (k : Int), .int (ns[k]), rfl, rfl, hs, ?_, q _⟩
    exact atI_nat (by simp [c4])
end
end Kx
set_option maxHeartbeats 2000000
namespace Kx
open PySem PySem.Spec PyProof.Rows L2

structure TxtL (K : PySem.W.Frag) (mg : Str → Option Value) : Prop where
  t : Txt K mg
  len : mg "len" = none
  int : mg "int" = none
  str : mg "str" = none
  range : mg "range" = none
  all : mg "all" = none
  kin : ∀ i, i < 25 → Kin K (cA K i) i
def lawN : List Str := ["_law_script", "_law_k", "_law_cell_here", "_law_x", "_law_e", "_law_place"]
def spLaw (K : PySem.W.Frag) : Sp := fun vs H Q _ => ∃ (a : Addr) (ns : List Int), vs = [.ref a] ∧ SqL K H a (ns.map V.int) ∧ ∀ G, Q (.bl true) G
section
variable {P : Program} {w : World} {K : PySem.W.Frag} {mg : Str → Option Value} {base : Heap} {f fC fF fA fM fH : Addr} {fd fdC fdF fdA fdM fdH : FuncData}
theorem sc_law : FnScope ["_law_script", "_law_k", "_law_cell_here", "_law_x", "_law_e", "_law_place"] ["_law_script"] (defScope (tp 33)) := ⟨rfl, rfl, rfl, by decide +kernel, rfl, by decide +kernel, by decide +kernel⟩
theorem ok_law (F : FnT K "law" 33 f fd) (T : TxtL K mg) (M : Mks P w K mg base)
    (FC : FnT K "_law_cell" 28 fC fdC) (gC : mg "_law_cell" = some (.ref fC)) (FF : FnT K "_law_flags" 29 fF fdF) (gF : mg "_law_flags" = some (.ref fF))
    (FA : FnT K "_law_alone" 30 fA fdA) (gA : mg "_law_alone" = some (.ref fA)) (FM : FnT K "_law_made" 31 fM fdM) (gM : mg "_law_made" = some (.ref fM))
    (FH : FnT K "_law_held" 32 fH fdH) (gH : mg "_law_held" = some (.ref fH)) : FnOk P w K mg base CX0 4 f fd ["_law_script"] (spLaw K) := by
  have GC : FnOk P w K mg base CX0 1 fC fdC _ (spCell K) := ok_cell FC T.len
  have GA : FnOk P w K mg base CX0 2 fA fdA _ (spAlone K) := ok_alone FA T.t FF gF
  have GM : FnOk P w K mg base CX0 3 fM fdM _ (spMade K) := ok_made FM T.t M
  have GH : FnOk P w K mg base CX0 3 fH fdH _ spHeld := ok_held FH M
  have bC : L2.Binds K fdC ["_law_script", "_law_k"] [] := FC.bindsN fun _ _ _ _ _ _ us hl => match us, hl with | [_, _], _ => rfl
  have bA : L2.Binds K fdA ["_law_e", "_law_place"] [] := FA.bindsN fun _ _ _ _ _ _ us hl => match us, hl with | [_, _], _ => rfl
  have bM : L2.Binds K fdM ["_law_x"] [] := FM.bindsN fun _ _ _ _ _ _ us hl => match us, hl with | [_], _ => rfl
  have bH : L2.Binds K fdH ["_law_x"] [] := FH.bindsN fun _ _ _ _ _ _ us hl => match us, hl with | [_], _ => rfl
  refine F.ok sc_law (fun vs H Q E h => ?_) (fun cdv A outer s H vs Q E hr h => ⟨_, PSs.nox (
    pss_cons (ps_for PassesOwn.never rfl (pi_range1 rfl T.range (pa_cons pe_int pa_nil)) (pg_name (i := 1) sc_law.nd rfl (Or.inl rfl))
      (pss_cons (ps_set (i := 2) sc_law.nd rfl (Or.inl rfl) (pe_op op_sub (pe_op op_mod (pe_callTy call_int1 rfl T.int (by decide +kernel)
          (pa_cons (pe_call GC (hr.mono (by decide)) rfl gC FC.kp bC .nil pass0 (pa_cons (pv 0) (pa_cons (pv 1) pa_nil))) pa_nil)) (pe_op op_pow pe_int pe_int)) pe_int))
      (pss_one (ps_for PassesOwn.never rfl (pi_tup (pe_tup (pa_cons (pv 2) (pa_cons (pe_callTy call_str_int rfl T.str (by decide +kernel) (pa_cons (pv 2) pa_nil))
          (pa_cons (pe_lst (pa_cons (pv 2) (pa_cons (pv 1) pa_nil)))
          (pa_cons (pe_tup (pa_cons (pv 1) (pa_cons (pe_callTy call_str_int rfl T.str (by decide +kernel) (pa_cons (pv 2) pa_nil)) pa_nil))) pa_nil)))))) (pg_name (i := 3) sc_law.nd rfl (Or.inl rfl))
        (pss_cons (ps_if (PW.pt (pw_or (pt_not (pt_val (pe_callB (cr_all rfl) rfl T.all (by decide +kernel) (pa_cons
              (pe_lc (own := [("_law_e", 4), ("_law_place", 5)]) (g := gTup K 2 (gCons (gName 4) (gCons (gName 5) gNil))) (tt := tYes) rfl sc_law.nd
                (pi_list (pe_call GM (hr.mono (by decide)) rfl gM FM.kp bM .nil pass0 (pa_cons (pv 3) pa_nil))) (blkOk_by (N := lawN) (sc := defScope (tp 33)) (by decide +kernel))
                (fun _ _ _ _ _ => pg_tup rfl (pgs_cons (pg_name (i := 4) sc_law.nd rfl (Or.inl rfl)) (pgs_cons (pg_name (i := 5) sc_law.nd rfl (Or.inl rfl)) pgs_nil)))
                (fun _ _ _ _ _ => pts_nil)
                (fun _ _ _ _ _ => pe_call GA (by exact hr.mono (by decide)) rfl gA FA.kp bA .nil pass0 (pa_cons (pv 4) (pa_cons (pv 5) pa_nil)))) pa_nil))))
            (pw_or1 (pt_cmpR (op_neD hr.units) (pe_call GH (hr.mono (by decide)) rfl gH FH.kp bH .nil pass0 (pa_cons (pv 3) pa_nil)) (pe_op op_rep (pe_lst (pa_cons (pv 3) pa_nil)) pe_int) (nomark _)))))
          (pss_one (ps_ret pe_bl)) pss_nil)
        (pss_one (ps_if (pt_cmpR (op_neD hr.units) (pe_FQ2 M.q (pe_EQ M.q (hr.mono (by decide)) rfl (pv 3) (pe_lst (pa_cons (pv 3) pa_nil)))) (pe_lst (pa_cons (pv 3) pa_nil)) (nomark _))
          (pss_one (ps_ret pe_bl)) pss_nil)))))))
    (pss_one (ps_ret pe_bl))), ?_⟩)
  · obtain ⟨a, ns, rfl, _⟩ := h
    rfl
  · obtain ⟨a, ns, rfl, hs, q⟩ := h
    refine ⟨(3 : Int), rfl, by decide, by decide, for_range (n := 3)
      (fun i σ G => ∃ (v1 v2 v3 : Option V), σ = [some (.ref a), v1, v2, v3, none, none] ∧ Same H G) ⟨none, none, none, rfl, Same.refl _⟩ ?_ (fun σ G _ => q G)⟩
    rintro i σ G hi ⟨v1, v2, v3, rfl, s0⟩
    -- the number of this cell
    refine ⟨_, rfl, _, rfl, a, i, ns, ?_, s0.seq hs, fun z => .inl ⟨z, rfl, ?_⟩⟩
    · show [V.ref a, V.int (0 + (i : Int))] = [V.ref a, V.int (i : Int)]
      rw [Int.zero_add]
    refine ⟨_, _, rfl, rfl, ⟨by decide, by decide, by decide⟩, z, _, rfl, rfl, (by show (0 : Int) < 10 ^ 20; decide), _, _, rfl, rfl, ?_⟩
    have hc : ((z % (10 ^ 20 : Int)) - 5).natAbs.log2 < 1920 := by
      have h0 := Int.emod_nonneg z (show (10 ^ 20 : Int) ≠ 0 by decide)
      have h1 := Int.emod_lt_of_pos z (show (0 : Int) < 10 ^ 20 by decide)
      refine small_log ?_
      have h3 : (10 : Int) ^ 20 = 100000000000000000000 := by decide
      have h4 : (10 : Nat) ^ 20 = 100000000000000000000 := by decide
      rw [h4]
      rw [h3] at h0 h1 ⊢
      omega
    generalize hcc : (z % (10 ^ 20 : Int)) - 5 = c at hc
    have hcc2 : (z % (10 ^ (20 : Int).toNat : Int)) - 5 = c := hcc
    dsimp only
    rw [hcc2]
    refine ⟨_, rfl, _, rfl, c, rfl, hc, _, rfl, _, rfl, (by show 2 ≤ sizeLine; decide), fun l hl => ?_⟩
    refine ⟨_, rfl, _, rfl, c, rfl, hc, (by show 2 ≤ sizeLine; decide), fun u hu => ?_⟩
    refine ⟨(by show 4 ≤ sizeLine; decide), fun t ht => ?_⟩
    have hl2 := same_new hu (u := .tup [.int (0 + (i : Int)), .str (Str.ofString (toString c))]) _ _ (upd_same (H := G) (a := l) (o := .lst [.int c, .int (0 + (i : Int))]))
    have hl3 := same_new ht (u := .tup [.int c, .str (Str.ofString (toString c)), .ref l, .ref u]) _ _ hl2
    have hu3 := same_new ht (u := .tup [.int c, .str (Str.ofString (toString c)), .ref l, .ref u]) _ _ upd_same
    have ht3 := upd_same (H := upd (upd G l (.lst [.int c, .int (0 + (i : Int))])) u (.tup [.int (0 + (i : Int)), .str (Str.ofString (toString c))])) (a := t) (o := .tup [.int c, .str (Str.ofString (toString c)), .ref l, .ref u])
    have s3 := (s0.trans (same_new hl)).trans ((same_new hu).trans (same_new ht (u := .tup [.int c, .str (Str.ofString (toString c)), .ref l, .ref u])))
    generalize upd (upd (upd G l (.lst [.int c, .int (0 + (i : Int))])) u (.tup [.int (0 + (i : Int)), .str (Str.ofString (toString c))])) t (.tup [.int c, .str (Str.ofString (toString c)), .ref l, .ref u]) = G3 at hl3 hu3 ht3 s3 ⊢
    have hdat : ∀ (j : Nat) (x : V), ([.int c, .str (Str.ofString (toString c)), .ref l, .ref u] : List V)[j]? = some x → Dat K G3 x := by
      intro j x hj
      match j, hj with
      | 0, hj =>
        obtain rfl : V.int c = x := Option.some.inj hj
        exact ⟨.int c, .int c, rfl, Nat.zero_le _⟩
      | 1, hj =>
        obtain rfl : V.str (Str.ofString (toString c)) = x := Option.some.inj hj
        exact ⟨.str _, .str _, strOk_of _, Nat.zero_le _⟩
      | 2, hj =>
        obtain rfl : V.ref l = x := Option.some.inj hj
        exact ⟨.list [.int c, .int (0 + (i : Int))], .lst (SqL.of hl3) (.cons (.int _) (.cons (.int _) .nil)), rfl, Nat.le_refl _⟩
      | 3, hj =>
        obtain rfl : V.ref u = x := Option.some.inj hj
        refine ⟨.tuple [.int (0 + (i : Int)), .str (Str.ofString (toString c))], .tup (SqT.of hu3) (.cons (.int _) (.cons (.str _) .nil)), ?_, Nat.le_refl _⟩
        show (true && (PyData.strOk (Str.ofString (toString c)) && true)) = true
        rw [strOk_of] <;> rfl
      | j + 4, hj => simp at hj
    refine ⟨t, rfl, ⟨_, SqT.of ht3⟩, for_tup (K := K) (a := t) (xs := [.int c, .str (Str.ofString (toString c)), .ref l, .ref u])
      (fun j σ G' => ∃ v3, σ = [some (.ref a), some (.int (0 + (i : Int))), some (.int c), v3, none, none] ∧ Same G3 G') ⟨_, rfl, Same.refl _⟩ (fun j σ G' _ h => SqT.of (h.choose_spec.2 _ _ ht3)) ?_
      (fun σ G' h => by
        obtain ⟨v4, rfl, s4⟩ := h
        exact ⟨_, _, _, rfl, s3.trans s4⟩)⟩
    rintro j x σ G' hj ⟨v4, rfl, s4⟩
    have dx := (hdat j x hj).same s4
    clear hdat hj hl3 hu3 ht3 hl2
    obtain ⟨d, dp, d1, d2⟩ := dx
    -- not all([..]) or ..
    refine ⟨x, rfl, x, rfl, fun p G5 xs s5 h5 len5 ents => ⟨p, rfl, ⟨_, SqL.of h5⟩, fun D hD => ?_⟩⟩
    refine lc_list (K := K) (a := p) (xs := xs) (fun k G6 => Same G5 G6 ∧ G6 D = some (.lst ((List.replicate k true).map V.bl))) ⟨same_new hD, upd_same⟩ (fun k G6 _ h => h.1.seq (SqL.of h5)) ?_ ?_
    · rintro k y G6 hk ⟨s6, h6⟩
      obtain ⟨e, rfl, a0, et, ex⟩ := Ents.at ents hk
      rw [Nat.zero_add] at et ex
      have hk25 : k < 25 := by
        have w1 := (List.getElem?_eq_some_iff.mp hk).1
        omega
      refine ⟨e, _, rfl, SqT.of (s6 _ _ et), rfl, _, _, rfl, _, _, rfl, rfl, rfl, ?_⟩
      dsimp only [tYes]
      rw [if_pos rfl]
      refine ⟨_, rfl, _, rfl, a0, cA K k, k, rfl, hk25, T.kin k hk25, ex.same s6, fun G7 s7 => ?_⟩
      refine ⟨_, s7 _ _ h6, ?_, ?_, ?_⟩
      · rw [List.length_map, List.length_replicate]
        exact Nat.lt_trans hk25 (by decide)
      · intro b o hb
        have w1 := s6 b o hb
        rw [upd_ne (ne_of_none hb hD)]
        exact s7 _ _ w1
      · rw [upd_same, List.replicate_succ', List.map_append]
        rfl
    · rintro G6 ⟨s6, h6⟩
      rw [len5] at h6
      refine ⟨D, List.replicate 25 true, rfl, SqL.of h6, true, rfl, iteF ?_⟩
      -- held(x) != [x] * 23
      have s56 : Same G' G6 := s5.trans s6
      refine ⟨x, rfl, x, rfl, fun p7 G7 s7 h7 => ?_⟩
      refine ⟨x, rfl, (by show 1 ≤ sizeLine; decide), fun l8 hl8 => ⟨l8, 23, [x], rfl, rfl, upd_same, by decide, by decide, (by show 1 * 23 ≤ sizeLine; decide), fun p9 hp9 => ?_⟩⟩
      have s9 : Same G7 (upd (upd G7 l8 (.lst [x])) p9 (.lst (List.replicate (23 : Int).toNat [x]).flatten)) := (same_new hl8).trans (same_new hp9)
      have h9 : (upd (upd G7 l8 (.lst [x])) p9 (.lst (List.replicate (23 : Int).toNat [x]).flatten)) p9 = some (.lst (List.replicate 23 x)) := upd_same
      generalize upd (upd G7 l8 (.lst [x])) p9 (.lst (List.replicate (23 : Int).toNat [x]).flatten) = G9 at s9 h9 ⊢
      have dx9 := dp_same (s56.trans (s7.trans s9)) dp
      refine ⟨.list (List.replicate 23 d), .list (List.replicate 23 d), .lst (SqL.of (s9 _ _ h7)) (dp_rep dx9 23), .lst (SqL.of h9) (dp_rep dx9 23), shaped_rep d1 d2 23, shaped_rep d1 d2 23, false, ?_, iteF ?_⟩
      · rw [eqv_rep d1 23] <;> rfl
      -- Quarrel(x, [x]).other != [x]
      refine ⟨x, rfl, fun l10 G10 s10 h10 => ⟨x, rfl, (by show 1 ≤ sizeLine; decide), fun l11 hl11 => ?_⟩⟩
      have s11 := same_new hl11 (u := .lst [x])
      have dx11 := dp_same (((s56.trans (s7.trans s9)).trans s10).trans s11) dp
      refine ⟨.list (List.replicate 1 d), .list (List.replicate 1 d), .lst (SqL.of (s11 _ _ h10)) (.cons dx11 .nil), .lst (SqL.of upd_same) (.cons dx11 .nil), shaped_rep d1 d2 1, shaped_rep d1 d2 1, false, ?_, iteF ?_⟩
      · rw [eqv_rep d1 1] <;> rfl
      exact ⟨_, rfl, (((s4.trans s56).trans (s7.trans s9)).trans s10).trans s11⟩
end
end Kx
set_option maxHeartbeats 2000000
namespace Kx
open PySem PySem.Spec PyProof.Rows L2

theorem nm_in : ∀ j, j < 25 → nm j ∈ cn := by decide
theorem cl_in : ∀ j, j < 25 → cl.getD j ("", 0, "") ∈ cl := by decide
theorem cl_in2 : ∀ j, j < 23 → cl.getD j ("", 0, "") ∈ cl.take 23 := by decide
section
variable {P : Program} {w : World} {K : PySem.W.Frag} {mg : Str → Option Value} {h base : Heap}
/-- what the look ex says -/
structure Exs (K : PySem.W.Frag) : Prop where
  c : ∀ j, j < 25 → ClsOk K (cA K j)
  m : ∀ j, j < 25 → ∃ d, PySem.W.clsIn K (cA K j) = some d ∧ d.mro = [.ref (cA K j), .ref (He.ga K "TickError"), .type "ValueError", .type "Exception", .type "BaseException", .type "object"]
  i : ∀ j, j < 23 → initB K (nm j) (att j) = true
  q : PySem.W.findIn K (.ref (cA K 22)) "other" = some none
  nd : ((He.ga K "TickError") :: cn.map (He.ga K)).Nodup
  tt : PySem.W.typeIn K (.ref (He.ga K "TickError")) = some (.type "type")
  tc : (PySem.W.clsIn K (He.ga K "TickError")).isSome = true
theorem exs_of (e : ex K = true) : Exs K := by
  obtain ⟨h1, e⟩ := and2 e
  obtain ⟨h2, e⟩ := and2 e
  obtain ⟨h3, e⟩ := and2 e
  obtain ⟨h4, e⟩ := and2 e
  obtain ⟨h5, h6⟩ := and2 e
  refine ⟨fun j hj => ?_, fun j hj => ?_, fun j hj => List.all_eq_true.mp h2 _ (cl_in2 j hj), of_decide_eq_true h3, of_decide_eq_true h4, of_decide_eq_true h5, h6⟩
  · exact clsB_ok (and2 (List.all_eq_true.mp h1 _ (cl_in j hj))).1
  · have z : chainB K (nm j) = true := (and2 (List.all_eq_true.mp h1 _ (cl_in j hj))).2
    unfold chainB at z
    show ∃ d, PySem.W.clsIn K (He.ga K (nm j)) = some d ∧ d.mro = [.ref (He.ga K (nm j)), _, _, _, _, _]
    cases q : PySem.W.clsIn K (He.ga K (nm j)) with
    | none =>
      rw [q] at z
      cases z
    | some d =>
      rw [q] at z
      exact ⟨d, rfl, of_decide_eq_true z⟩
theorem cn_map : cn.map (He.ga K) = (List.range 25).map (cA K) := by rfl
theorem Exs.inj (X : Exs K) {i j : Nat} (hi : i < 25) (hj : j < 25) (e : cA K i = cA K j) : i = j := by
  have n := (List.nodup_cons.mp X.nd).2
  rw [cn_map] at n
  have li : i < ((List.range 25).map (cA K)).length := by rw [List.length_map, List.length_range]; exact hi
  have lj : j < ((List.range 25).map (cA K)).length := by rw [List.length_map, List.length_range]; exact hj
  have pw := List.pairwise_iff_getElem.mp n
  have ei : ((List.range 25).map (cA K))[i] = cA K i := by rw [List.getElem_map, List.getElem_range]
  have ej : ((List.range 25).map (cA K))[j] = cA K j := by rw [List.getElem_map, List.getElem_range]
  rcases Nat.lt_trichotomy i j with z | z | z
  · exact absurd (ei.trans (e.trans ej.symm)) (pw i j li lj z)
  · exact z
  · exact absurd (ej.trans (e.symm.trans ei.symm)) (pw j i lj li z)
theorem Exs.tick (X : Exs K) {i : Nat} (hi : i < 25) : cA K i ≠ He.ga K "TickError" := fun e => by
  have n := (List.nodup_cons.mp X.nd).1
  rw [cn_map] at n
  exact n (List.mem_map.mpr ⟨i, List.mem_range.mpr hi, e⟩)
theorem ref_ne {a b : Addr} (h : a ≠ b) : (Value.ref a == Value.ref b) = false := Bool.eq_false_iff.mpr fun q => h (Value.ref.inj (beq_iff_eq.mp q))
theorem Exs.sub (X : Exs K) {i : Nat} (hi : i < 25) (b : Value) : PySem.W.subIn K (.ref (cA K i)) b =
    some ([.ref (cA K i), .ref (He.ga K "TickError"), .type "ValueError", .type "Exception", .type "BaseException", .type "object"].contains b) := by
  obtain ⟨d, h1, h2⟩ := X.m i hi
  show (PySem.W.clsIn K (cA K i)).bind _ = _
  rw [h1, Option.bind_some, h2] <;> rfl
theorem Exs.ty (X : Exs K) {i : Nat} (hi : i < 25) {T : String} {b : Bool} (hT : PySem.W.kitMeta T = true)
    (hc : ([.ref (cA K i), .ref (He.ga K "TickError"), .type "ValueError", .type "Exception", .type "BaseException", .type "object"] : List Value).contains (.type T) = b) : PySem.W.kitOne K (.ref (cA K i)) (.type T) = some b := by
  unfold PySem.W.kitOne
  rw [show (Value.ref (cA K i) == Value.type T) = false from rfl, if_neg Bool.false_ne_true]
  show (if PySem.W.kitMeta T = true then _ else none) = _
  rw [if_pos hT, X.sub hi, hc]
theorem Exs.kit (X : Exs K) {i : Nat} (hi : i < 25) : Kin K (cA K i) i where
  c := X.c i hi
  own := fun j hj => by
    unfold PySem.W.kitOne
    by_cases e : i = j
    · subst e
      rw [if_pos (by simp), decide_eq_true rfl]
    · have ne : cA K i ≠ cA K j := fun z => e (X.inj hi hj z)
      rw [ref_ne ne, if_neg Bool.false_ne_true, decide_eq_false e]
      unfold PySem.W.kitCls
      obtain ⟨d, h1, _⟩ := X.m j hj
      have g : ((PySem.W.clsIn K (cA K j)).isSome && PySem.W.typeIn K (.ref (cA K j)) == some (.type "type")) = true := by
        rw [h1, (X.c j hj).o.tyC] <;> rfl
      show (if ((PySem.W.clsIn K (cA K j)).isSome && PySem.W.typeIn K (.ref (cA K j)) == some (.type "type")) = true then _ else none) = _
      rw [if_pos g, X.sub hi]
      have n1 := ref_ne (Ne.symm ne)
      have n2 := ref_ne (X.tick hj)
      simp only [List.contains_cons, n1, n2, List.contains_nil]
      rfl
  tick := by
    unfold PySem.W.kitOne
    rw [ref_ne (X.tick hi), if_neg Bool.false_ne_true]
    unfold PySem.W.kitCls
    have g : ((PySem.W.clsIn K (He.ga K "TickError")).isSome && PySem.W.typeIn K (.ref (He.ga K "TickError")) == some (.type "type")) = true := by
      rw [X.tc, X.tt] <;> rfl
    show (if ((PySem.W.clsIn K (He.ga K "TickError")).isSome && PySem.W.typeIn K (.ref (He.ga K "TickError")) == some (.type "type")) = true then _ else none) = _
    rw [if_pos g, X.sub hi]
    simp
  ve := X.ty hi (by decide +kernel) (by simp)
  odd := by
    refine kitAny_cons (b := false) (r := false) (X.ty hi (by decide +kernel) (by simp)) (fun _ => ?_) (fun z => nomatch z)
    refine kitAny_cons (b := false) (r := false) (X.ty hi (by decide +kernel) (by simp)) (fun _ => ?_) (fun z => nomatch z)
    exact kitAny_cons (b := false) (r := false) (X.ty hi (by decide +kernel) (by simp)) (fun _ => kitAny_nil) (fun z => nomatch z)
theorem mk_c {j : Nat} (X : Exs K) (hj : j < 22) (g : mg (nm j) = some (.ref (cA K j)))
    (F1 : OexC K (cA K j) → PySem.W.findIn K (.ref (cA K j)) (att j) = some none → ∃ fd ps, FnOk P w K mg base CX0 1 (He.ma K (cA K j) "__init__") fd ps (spInit (cA K j) (att j)) ∧ L2.Binds K fd ps []) :
    MkC P w K mg base (nm j) (cA K j) (att j) := by
  obtain ⟨h1, z⟩ := and2 (X.i j (by omega))
  obtain ⟨h2, h3⟩ := and2 z
  have co := X.c j (by omega)
  obtain ⟨fd, ps, F, b⟩ := F1 co.o (of_decide_eq_true h3)
  exact ⟨co, g, of_decide_eq_true h3, _, fd, ps, of_decide_eq_true h1, of_decide_eq_true h2, F, b⟩

theorem mks_of (X : Exs K) (g : ∀ j, j < 25 → mg (nm j) = some (.ref (cA K j))) (c : He.SaysD fa fn K) : Mks P w K mg base := by
  refine ⟨fun j hj => ?_, ?_, (He.exc_ok (c.fact 42 (f := .exc "UnlikeDeeds") rfl)).1, (He.exc_ok (c.fact 42 (f := .exc "UnlikeDeeds") rfl)).2.1,
    (He.exc_ok (c.fact 43 (f := .exc "UnlikeWorlds") rfl)).1, (He.exc_ok (c.fact 43 (f := .exc "UnlikeWorlds") rfl)).2.1⟩
  · match j, hj with
    | 0, hj =>
      refine mk_c X hj (g 0 (by decide)) fun o no => ?_
      obtain ⟨fd, F⟩ := c.def_ 0 (d := dInit "BadCount" "BadCount.__init__" 5) rfl
      exact ⟨fd, _, ok_BadCount F o no, FunD.bindsN F fun _ _ _ _ _ _ us hl => match us, hl with | [_, _], _ => rfl⟩
    | 1, hj =>
      refine mk_c X hj (g 1 (by decide)) fun o no => ?_
      obtain ⟨fd, F⟩ := c.def_ 1 (d := dInit "BadEffect" "BadEffect.__init__" 13) rfl
      exact ⟨fd, _, ok_BadEffect F o no, FunD.bindsN F fun _ _ _ _ _ _ us hl => match us, hl with | [_, _], _ => rfl⟩
    | 2, hj =>
      refine mk_c X hj (g 2 (by decide)) fun o no => ?_
      obtain ⟨fd, F⟩ := c.def_ 2 (d := dInit "BadEvent" "BadEvent.__init__" 6) rfl
      exact ⟨fd, _, ok_BadEvent F o no, FunD.bindsN F fun _ _ _ _ _ _ us hl => match us, hl with | [_, _], _ => rfl⟩
    | 3, hj =>
      refine mk_c X hj (g 3 (by decide)) fun o no => ?_
      obtain ⟨fd, F⟩ := c.def_ 3 (d := dInit "BadFormula" "BadFormula.__init__" 3) rfl
      exact ⟨fd, _, ok_BadFormula F o no, FunD.bindsN F fun _ _ _ _ _ _ us hl => match us, hl with | [_, _], _ => rfl⟩
    | 4, hj =>
      refine mk_c X hj (g 4 (by decide)) fun o no => ?_
      obtain ⟨fd, F⟩ := c.def_ 4 (d := dInit "BadName" "BadName.__init__" 2) rfl
      exact ⟨fd, _, ok_BadName F o no, FunD.bindsN F fun _ _ _ _ _ _ us hl => match us, hl with | [_, _], _ => rfl⟩
    | 5, hj =>
      refine mk_c X hj (g 5 (by decide)) fun o no => ?_
      obtain ⟨fd, F⟩ := c.def_ 5 (d := dInit "BadNumber" "BadNumber.__init__" 19) rfl
      exact ⟨fd, _, ok_BadNumber F o no, FunD.bindsN F fun _ _ _ _ _ _ us hl => match us, hl with | [_, _], _ => rfl⟩
    | 6, hj =>
      refine mk_c X hj (g 6 (by decide)) fun o no => ?_
      obtain ⟨fd, F⟩ := c.def_ 6 (d := dInit "BadSlack" "BadSlack.__init__" 20) rfl
      exact ⟨fd, _, ok_BadSlack F o no, FunD.bindsN F fun _ _ _ _ _ _ us hl => match us, hl with | [_, _], _ => rfl⟩
    | 7, hj =>
      refine mk_c X hj (g 7 (by decide)) fun o no => ?_
      obtain ⟨fd, F⟩ := c.def_ 7 (d := dInit "BadSpan" "BadSpan.__init__" 7) rfl
      exact ⟨fd, _, ok_BadSpan F o no, FunD.bindsN F fun _ _ _ _ _ _ us hl => match us, hl with | [_, _], _ => rfl⟩
    | 8, hj =>
      refine mk_c X hj (g 8 (by decide)) fun o no => ?_
      obtain ⟨fd, F⟩ := c.def_ 8 (d := dInit "BadState" "BadState.__init__" 8) rfl
      exact ⟨fd, _, ok_BadState F o no, FunD.bindsN F fun _ _ _ _ _ _ us hl => match us, hl with | [_, _], _ => rfl⟩
    | 9, hj =>
      refine mk_c X hj (g 9 (by decide)) fun o no => ?_
      obtain ⟨fd, F⟩ := c.def_ 9 (d := dInit "BadStep" "BadStep.__init__" 11) rfl
      exact ⟨fd, _, ok_BadStep F o no, FunD.bindsN F fun _ _ _ _ _ _ us hl => match us, hl with | [_, _], _ => rfl⟩
    | 10, hj =>
      refine mk_c X hj (g 10 (by decide)) fun o no => ?_
      obtain ⟨fd, F⟩ := c.def_ 10 (d := dInit "BadTruth" "BadTruth.__init__" 22) rfl
      exact ⟨fd, _, ok_BadTruth F o no, FunD.bindsN F fun _ _ _ _ _ _ us hl => match us, hl with | [_, _], _ => rfl⟩
    | 11, hj =>
      refine mk_c X hj (g 11 (by decide)) fun o no => ?_
      obtain ⟨fd, F⟩ := c.def_ 11 (d := dInit "CannotHappen" "CannotHappen.__init__" 25) rfl
      exact ⟨fd, _, ok_CannotHappen F o no, FunD.bindsN F fun _ _ _ _ _ _ us hl => match us, hl with | [_, _], _ => rfl⟩
    | 12, hj =>
      refine mk_c X hj (g 12 (by decide)) fun o no => ?_
      obtain ⟨fd, F⟩ := c.def_ 12 (d := dInit "Contradiction" "Contradiction.__init__" 23) rfl
      exact ⟨fd, _, ok_Contradiction F o no, FunD.bindsN F fun _ _ _ _ _ _ us hl => match us, hl with | [_, _], _ => rfl⟩
    | 13, hj =>
      refine mk_c X hj (g 13 (by decide)) fun o no => ?_
      obtain ⟨fd, F⟩ := c.def_ 13 (d := dInit "NameInUse" "NameInUse.__init__" 16) rfl
      exact ⟨fd, _, ok_NameInUse F o no, FunD.bindsN F fun _ _ _ _ _ _ us hl => match us, hl with | [_, _], _ => rfl⟩
    | 14, hj =>
      refine mk_c X hj (g 14 (by decide)) fun o no => ?_
      obtain ⟨fd, F⟩ := c.def_ 14 (d := dInit "NoEvent" "NoEvent.__init__" 9) rfl
      exact ⟨fd, _, ok_NoEvent F o no, FunD.bindsN F fun _ _ _ _ _ _ us hl => match us, hl with | [_, _], _ => rfl⟩
    | 15, hj =>
      refine mk_c X hj (g 15 (by decide)) fun o no => ?_
      obtain ⟨fd, F⟩ := c.def_ 15 (d := dInit "NoMoment" "NoMoment.__init__" 10) rfl
      exact ⟨fd, _, ok_NoMoment F o no, FunD.bindsN F fun _ _ _ _ _ _ us hl => match us, hl with | [_, _], _ => rfl⟩
    | 16, hj =>
      refine mk_c X hj (g 16 (by decide)) fun o no => ?_
      obtain ⟨fd, F⟩ := c.def_ 16 (d := dInit "NoName" "NoName.__init__" 24) rfl
      exact ⟨fd, _, ok_NoName F o no, FunD.bindsN F fun _ _ _ _ _ _ us hl => match us, hl with | [_, _], _ => rfl⟩
    | 17, hj =>
      refine mk_c X hj (g 17 (by decide)) fun o no => ?_
      obtain ⟨fd, F⟩ := c.def_ 17 (d := dInit "NoStep" "NoStep.__init__" 12) rfl
      exact ⟨fd, _, ok_NoStep F o no, FunD.bindsN F fun _ _ _ _ _ _ us hl => match us, hl with | [_, _], _ => rfl⟩
    | 18, hj =>
      refine mk_c X hj (g 18 (by decide)) fun o no => ?_
      obtain ⟨fd, F⟩ := c.def_ 18 (d := dInit "NoView" "NoView.__init__" 21) rfl
      exact ⟨fd, _, ok_NoView F o no, FunD.bindsN F fun _ _ _ _ _ _ us hl => match us, hl with | [_, _], _ => rfl⟩
    | 19, hj =>
      refine mk_c X hj (g 19 (by decide)) fun o no => ?_
      obtain ⟨fd, F⟩ := c.def_ 19 (d := dInit "NoWord" "NoWord.__init__" 4) rfl
      exact ⟨fd, _, ok_NoWord F o no, FunD.bindsN F fun _ _ _ _ _ _ us hl => match us, hl with | [_, _], _ => rfl⟩
    | 20, hj =>
      refine mk_c X hj (g 20 (by decide)) fun o no => ?_
      obtain ⟨fd, F⟩ := c.def_ 20 (d := dInit "NotDone" "NotDone.__init__" 26) rfl
      exact ⟨fd, _, ok_NotDone F o no, FunD.bindsN F fun _ _ _ _ _ _ us hl => match us, hl with | [_, _], _ => rfl⟩
    | 21, hj =>
      refine mk_c X hj (g 21 (by decide)) fun o no => ?_
      obtain ⟨fd, F⟩ := c.def_ 21 (d := dInit "NotThere" "NotThere.__init__" 17) rfl
      exact ⟨fd, _, ok_NotThere F o no, FunD.bindsN F fun _ _ _ _ _ _ us hl => match us, hl with | [_, _], _ => rfl⟩
    | j + 22, hj => exact absurd hj (by omega)
  · obtain ⟨h1, z⟩ := and2 (X.i 22 (by decide))
    obtain ⟨h2, h3⟩ := and2 z
    have co := X.c 22 (by decide)
    obtain ⟨fd, F⟩ := c.def_ 22 (d := dInit "Quarrel" "Quarrel.__init__" 18) rfl
    exact ⟨co, g 22 (by decide), of_decide_eq_true h3, X.q, _, fd, _, of_decide_eq_true h1, of_decide_eq_true h2, ok_Quarrel F co.o (of_decide_eq_true h3) X.q,
      FunD.bindsN F fun _ _ _ _ _ _ us hl => match us, hl with | [_, _, _], _ => rfl⟩
theorem facts {f : Addr} (Y : K.In h) (G : h.Ns mainGlobals mg) (hfa : mg ("law" : Str) = some (.ref f)) (c : He.SaysX fa fn [] [] ex w h K) :
    ∃ fd : FuncData, (∀ (s : Shared) (v : Value), BindsTo s fd ⟨[v], []⟩ [("_law_script", v)]) ∧ ∀ base : Heap, K.In base → base.Ns mainGlobals mg → FnOk P w K mg base CX0 4 f fd ["_law_script"] (spLaw K) := by
  have X := exs_of c.more
  have D := c.t.d
  have g : ∀ j, j < 25 → mg (nm j) = some (.ref (cA K j)) := fun j hj => He.glo_ok Y G (D.facts (f := .glo (nm j)) (List.mem_append_left _ (List.mem_map.mpr ⟨nm j, nm_in j hj, rfl⟩)))
  have fr : ∀ (x : Str) (i : Nat), fa[i]? = some (He.Fa.free x) → mg x = none := fun x i hx => He.free_ok Y G (D.fact i hx)
  have T : TxtL K mg := ⟨⟨g, He.glo_ok Y G (D.fact 25 (f := .glo "TickError") rfl), fr _ 35 rfl, fr _ 38 rfl, fr _ 39 rfl, fr _ 40 rfl, fr _ 41 rfl⟩,
    fr _ 32 rfl, fr _ 33 rfl, fr _ 34 rfl, fr _ 36 rfl, fr _ 37 rfl, fun i hi => X.kit hi⟩
  obtain ⟨fd, F⟩ := D.def_ 28 (d := dTop "law" 33) rfl
  obtain ⟨fdC, FC⟩ := D.def_ 23 (d := dTop "_law_cell" 28) rfl
  obtain ⟨fdF, FF⟩ := D.def_ 24 (d := dTop "_law_flags" 29) rfl
  obtain ⟨fdA, FA⟩ := D.def_ 25 (d := dTop "_law_alone" 30) rfl
  obtain ⟨fdM, FM⟩ := D.def_ 26 (d := dTop "_law_made" 31) rfl
  obtain ⟨fdH, FH⟩ := D.def_ 27 (d := dTop "_law_held" 32) rfl
  have e := hfa.symm.trans (He.glo_ok Y G (D.fact 31 (f := .glo "law") rfl))
  cases e
  have b := FunD.bindsA (ps := ["_law_script"]) F fun _ _ _ _ _ _ us hl => match us, hl with | [_], _ => rfl
  exact ⟨fd, fun s v => b s [v] rfl, fun base _ _ => ok_law F T (mks_of X g D) FC (He.glo_ok Y G (D.fact 26 (f := .glo "_law_cell") rfl)) FF (He.glo_ok Y G (D.fact 27 (f := .glo "_law_flags") rfl))
    FA (He.glo_ok Y G (D.fact 28 (f := .glo "_law_alone") rfl)) FM (He.glo_ok Y G (D.fact 29 (f := .glo "_law_made") rfl)) FH (He.glo_ok Y G (D.fact 30 (f := .glo "_law_held") rfl))⟩
end
end Kx
open PySem PySem.W PySem.Calls PyProof.Rows
theorem PySem.Challenge.cw_allticked_k01_errors_holds : PySem.Challenge.rw_allticked_k01_errors.Holds := by
  w_on; o_law
  refine HandSHeadRun.head_any (r := Kx.R) (q := view Kx.R.prog [33]) (H := Kx.hk) (ob := Kx.ob) (M := 8000) (loose := Kx.loose) (d := HandSHeadRun.topDef Kx.R.prog 33) (kwd := []) Kx.ob_eq
    (by kernel_rfl) (fun s => by kernel_rfl) Kx.run (by kernel_rfl) (by kernel_rfl) (by kernel_rfl) (by rfl) (by first | assumption | decide +kernel) (by decide +kernel) ⟨rfl, rfl, rfl, rfl, rfl, by decide +kernel⟩ ?hw ?hc
  case hw => w_witness2
  case hc =>
    refine L2.walk_ofE (l := PySem.Challenge.rw_allticked_k01_errors) (n := 63) (k := 4) (x := "_law_script") (CX := L2.CX0) rfl (by decide) (by kernel_rfl) ⟨rfl, by decide, by decide⟩ ?F (fun _ _ _ _ z => z)
    intro w mg fa h Y G hmg0
    obtain ⟨K, KX, c⟩ := Y
    have hmg : mg ("law" : PySem.Str) = some (.ref fa) := by
      have e : (HandSHeadRun.topDef Kx.R.prog 33).name = ("law" : PySem.Str) := by kernel_rfl
      rw [← e]
      exact hmg0
    obtain ⟨fd, hb, hF⟩ := Kx.facts (P := (PySem.Challenge.rw_allticked_k01_errors).prog) (w := w) KX G hmg c
    exact ⟨K, fd, Kx.spLaw K, KX, hb, fun H a ns hl _ hS => ⟨a, ns, rfl, hS, fun _ => rfl⟩, hF⟩

