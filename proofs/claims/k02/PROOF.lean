import PyProof.Rows.All
import Wide.All
import OpenK.AllK
import Wide.FinOn
import HandS.ForMost
import HandS.Exc
import HandS.Defaults
import HandS.Flow
import HandS.IsInst
import HandS.StrMore
import HandS.Walk
import PySem.Challenge.RW_allticked_k02_formulas_read
import HandS.More
import HandS.Style
import HandS.FStr
import HandS.ExcInit
import KE.KFmtOwn
import KE.KCallOwn
import HandS.RaiseMore
import KE.KOpsOwn
import HandS.WordsExc
import HandS.Deep
import HandS.DictComp
import HandS.ExcField
import PyProof.NeKinds
import HandS.Head0
import HandS.Head1
import HandS.Head2
import HandS.HeadEnd
import HandS.HeadHook4
set_option Elab.async false
set_option linter.all false
set_option maxRecDepth 100000
set_option maxHeartbeats 2000000
namespace Fx
open PySem PySem.Spec PyProof.Rows L2 TL

/-- the statements by the places that they had before `table_of` came behind the 23rd -/
def ren (i : Nat) : Nat := if i ≤ 23 then i else i + 1
def tp (i : Nat) : Stmt := PySem.Challenge.pw_allticked_k02_formulas_read.main.body.getD (ren i) (.Pass ⟨1, 1, 1, 1⟩)
abbrev FnT (K : PySem.W.Frag) (x : Str) (i : Nat) (f : Addr) (fd : FuncData) : Prop :=
  FunD K x x (defArgs (tp i)) (defBody (tp i)) (defScope (tp i)) [] [] f fd
theorem same_new {H : Hp} {a : Addr} {u : HO} (n : H a = none) : Same H (upd H a u) := fun b x e => by
  rw [upd_ne (ne_of_none e n)]
  exact e

/-! ### names and words, on texts -/
def isLetter (c : Nat) : Bool := decide (c ∈ tl ("abcdefghijklmnopqrstuvwxyz" : Str))
def reserved : List Str := ["and", "or", "not", "there", "all", "none"]
def isName (z : Str) : Bool := !(reserved.any fun y => y == z) && (decide (1 ≤ z.length) && (decide (z.length ≤ 8) && (tl z).all isLetter))
def isNameV : V → Bool
  | .str z => isName z
  | _ => false
def isWord (z : Str) : Bool :=
  ((Txt.partition z "@").1 == "there" || isName (Txt.partition z "@").1) && ((Txt.partition z "@").2.1 == "" || isName (Txt.partition z "@").2.2)
def constants : List Str := ["all", "none"]
def operators : List Str := ["and", "or", "not"]
def canStand (core : Str) (mo ms : Int) (wanted : Bool) : Bool :=
  if core == "not" then wanted && ms == 0
  else if operators.any (fun y => y == core) then !wanted && (mo == 0 && ms == 0)
  else wanted && (constants.any (fun y => y == core) || isWord core)

structure NTxt (K : PySem.W.Frag) (mg : Str → Option Value) : Prop where
  letters : ∃ t, mg "LETTERS" = some (.str "abcdefghijklmnopqrstuvwxyz" t)
  longest : ∃ t, mg "LONGEST" = some (.int 8 t)
  reserved : ∃ a, mg "RESERVED" = some (.ref a) ∧ ∀ H, SqT K H a (reserved.map V.str)
  constants : ∃ a, mg "CONSTANTS" = some (.ref a) ∧ ∀ H, SqT K H a (constants.map V.str)
  operators : ∃ a, mg "OPERATORS" = some (.ref a) ∧ ∀ H, SqT K H a (operators.map V.str)
  isi : mg "isinstance" = none
  str : mg "str" = none
  len : mg "len" = none
  all : mg "all" = none
/-- an argument of any kind: whether it is a text is known; a text is not too long -/
def Any (K : PySem.W.Frag) (H : Hp) (v : V) : Prop := ∃ t b, TyX K H v t ∧ PySem.W.kitOne K t (.type "str") = some b ∧ (b = true ↔ ∃ z, v = .str z) ∧ ∀ z, v = .str z → z.length ≤ 1000000
theorem inV_strs {z : Str} : ∀ l : List Str, inV (.str z) (l.map V.str) = l.any fun y => y == z
  | [] => rfl
  | y :: l => by
    show (eqV (.str y) (.str z) || inV (.str z) (l.map V.str)) = _
    rw [inV_strs l] <;> rfl
theorem flat_strs : ∀ l : List Str, (l.map V.str).all flatV = true
  | [] => rfl
  | y :: l => by
    show (flatV (.str y) && (l.map V.str).all flatV) = true
    rw [flat_strs l] <;> rfl
theorem take_snoc {α : Type} {l : List α} {i : Nat} {x : α} (h : l[i]? = some x) : l.take (i + 1) = l.take i ++ [x] := by
  rw [List.take_add_one, h] <;> rfl

section
variable {P : Program} {w : World} {K : PySem.W.Frag} {mg : Str → Option Value} {base : Heap} {f fN : Addr} {fd fdN : FuncData}
/-! ### is_name -/
def spIsName (K : PySem.W.Frag) : Sp := fun vs H Q _ => ∃ v, vs = [v] ∧ Any K H v ∧ ∀ G, Same H G → Q (.bl (isNameV v)) G
theorem sc_isname : FnScope ["thing", "sign"] ["thing"] (defScope (tp 7)) := ⟨rfl, rfl, rfl, by decide +kernel, rfl, by decide +kernel, by decide +kernel⟩
theorem ok_isname (F : FnT K "is_name" 7 f fd) (T : NTxt K mg) : FnOk P w K mg base CX0 1 f fd ["thing"] (spIsName K) := by
  obtain ⟨t1, gL⟩ := T.letters
  obtain ⟨t2, gM⟩ := T.longest
  obtain ⟨aR, gR, hR⟩ := T.reserved
  refine F.ok sc_isname (fun vs H Q E h => ?_) (fun cdv A outer s H vs Q E hr h => ⟨_, PSs.nox (
    pss_cons (ps_if (PW.pt (pw_or (pt_not (pt_val (pe_callB call_isi rfl T.isi (by decide +kernel) (pa_cons (pv 0) (pa_cons (pe_bltn (v := .ty "str") rfl T.str (by decide +kernel) rfl) pa_nil)))))
        (pw_or1 (pt_cmpR op_in_seq (pv 0) (pe_glob (v := .ref aR) rfl gR rfl) (by rfl))))) (pss_one (ps_ret pe_bl)) pss_nil)
    (pss_one (ps_ret (pe_and (pe_chain op_le op_le pe_int (pe_callB call_len rfl T.len boot_len (pa_cons (pv 0) pa_nil)) (pe_glob (v := .int 8) rfl gM ⟨_, rfl⟩))
      (pe_one (pe_callB (cr_all rfl) rfl T.all (by decide +kernel) (pa_cons
        (pe_lc (own := [("sign", 1)]) (g := gName 1) (tt := tYes) rfl sc_isname.nd (pi_str (pv 0)) (blkOk_by (N := ["thing", "sign"]) (sc := defScope (tp 7)) (by decide +kernel))
          (fun _ _ _ _ _ => pg_name (i := 1) sc_isname.nd rfl (Or.inl rfl)) (fun _ _ _ _ _ => pts_nil)
          (fun _ _ _ _ _ => pe_cmpR op_in_sign (pv 1) (pe_glob (v := .str "abcdefghijklmnopqrstuvwxyz") rfl gL ⟨_, rfl⟩) (by rfl))) pa_nil))))))), ?_⟩)
  · obtain ⟨v, rfl, _⟩ := h
    rfl
  · obtain ⟨v, rfl, ⟨t, b, ty, kb, hb, hz⟩, q⟩ := h
    refine ⟨_, rfl, v, .ty "str", t, .type "str", b, rfl, .ty _, ty, kb, b, rfl, ?_⟩
    cases b with
    | false =>
      have e : isNameV v = false := by
        cases v with
        | str z => exact absurd (hb.mpr ⟨z, rfl⟩) Bool.false_ne_true
        | _ => rfl
      refine iteT ?_
      have z := q H (Same.refl H)
      rw [e] at z
      exact z
    | true =>
      obtain ⟨z, rfl⟩ := hb.mp rfl
      have hlen := hz z rfl
      refine iteF ⟨_, rfl, aR, reserved.map V.str, rfl, .inr (hR H), rfl, flat_strs _, _, rfl, ?_⟩
      rw [if_neg (by decide), inV_strs]
      cases er : reserved.any fun y => y == z with
      | true =>
        refine iteT ?_
        have w1 := q H (Same.refl H)
        have e : isNameV (.str z) = false := by
          show isName z = false
          unfold isName
          rw [er] <;> rfl
        rw [e] at w1
        exact w1
      | false =>
        have hsz : z.length ≤ sizeLine := Nat.le_trans hlen (by decide)
        refine iteF ⟨_, rfl, _, z.length, rfl, ⟨hsz, rfl⟩, 1, _, rfl, rfl, _, rfl, ?_⟩
        have eN : isNameV (.str z) = (decide (1 ≤ z.length) && (decide (z.length ≤ 8) && (tl z).all isLetter)) := by
          show isName z = _
          unfold isName
          rw [er] <;> rfl
        refine ite2 (fun c1 => ?_) fun c1 => ?_
        · have d1 : 1 ≤ z.length := by
            have w1 : (1 : Int) ≤ (z.length : Int) := of_decide_eq_true c1
            omega
          refine ⟨_, _, rfl, rfl, _, rfl, ?_⟩
          refine ite2 (fun c2 => ?_) fun c2 => ?_
          · have d2 : z.length ≤ 8 := by
              have w1 : (z.length : Int) ≤ 8 := of_decide_eq_true c2
              omega
            refine ⟨_, rfl, z, rfl, fun D hD => ?_⟩
            refine lc_it walk_str (fun i G => Same H G ∧ G D = some (.lst ((((tl z).take i).map isLetter).map V.bl))) ⟨same_new hD, upd_same⟩ (fun _ _ _ _ => trivial) ?_ ?_
            · rintro i x G G' hi ⟨s1, h1⟩ ⟨rfl, c, hc, rfl⟩
              refine ⟨rfl, ?_⟩
              dsimp only [tYes]
              rw [if_pos rfl]
              refine ⟨_, rfl, c, _, rfl, rfl, _, h1, ?_, ?_, ?_⟩
              · rw [List.length_map, List.length_map]
                refine Nat.lt_of_le_of_lt (List.length_take_le _ _) ?_
                exact Nat.lt_of_lt_of_le (Nat.lt_of_lt_of_le hi d2) (by decide)
              · intro b o hb2
                rw [upd_ne (ne_of_none hb2 hD)]
                exact s1 b o hb2
              · have hc2 : (tl z)[i]? = some c := by
                  show z.cps.toList[i]? = some c
                  rw [Array.getElem?_toList]
                  exact hc
                rw [upd_same, take_snoc hc2, List.map_append, List.map_append]
                rfl
            · rintro G ⟨s1, h1⟩
              have full : (tl z).take z.cps.size = tl z := List.take_of_length_le (by show z.cps.toList.length ≤ z.cps.size; rw [Array.length_toList]; exact Nat.le_refl _)
              rw [full] at h1
              refine ⟨D, (tl z).map isLetter, rfl, SqL.of h1, ?_⟩
              have w1 := q G s1
              rw [eN, decide_eq_true d1, decide_eq_true d2] at w1
              have e3 : ((tl z).map isLetter).all id = (true && (true && (tl z).all isLetter)) := by
                rw [List.all_map] <;> rfl
              rw [e3]
              exact w1
          · have d2 : ¬ z.length ≤ 8 := fun w1 => c2 (decide_eq_true (by show (z.length : Int) ≤ 8; omega))
            have w1 := q H (Same.refl H)
            rw [eN, decide_eq_false d2, Bool.false_and, Bool.and_false] at w1
            exact w1
        · have d1 : ¬ 1 ≤ z.length := fun w1 => c1 (decide_eq_true (by show (1 : Int) ≤ (z.length : Int); omega))
          have w1 := q H (Same.refl H)
          rw [eN, decide_eq_false d1, Bool.false_and] at w1
          exact ⟨false, rfl, iteF w1⟩
end
end Fx
set_option maxHeartbeats 2000000
namespace Fx
open PySem PySem.Spec PyProof.Rows L2 TL
theorem any_str {K : PySem.W.Frag} {H : Hp} {z : Str} (h : z.length ≤ 1000000) : Any K H (.str z) :=
  ⟨.type "str", true, .base (.str z), kit_ty (by decide +kernel), ⟨fun _ => ⟨z, rfl⟩, fun _ => rfl⟩, fun y e => by cases e; exact h⟩
theorem and_if {a b : Bool} {Q : V → Prop} (h : Q (.bl (a && b))) : if a = true then Q (.bl b) else Q (.bl false) := by
  cases a <;> exact h
theorem or_if {a b : Bool} {Q : V → Prop} (h : Q (.bl (a || b))) : if a = true then Q (.bl true) else Q (.bl b) := by
  cases a <;> exact h
theorem part_le (z : Str) : (Txt.partition z "@").1.length ≤ z.length ∧ (Txt.partition z "@").2.1.length ≤ 1 ∧ (Txt.partition z "@").2.2.length ≤ z.length := by
  have ey : tl ("@" : Str) = 64 :: [] := by decide +kernel
  by_cases h : 64 ∈ tl z
  · obtain ⟨a, b, e, ha⟩ := List.eq_append_cons_of_mem h
    have ez : z = (⟨a.toArray⟩ : Str) ++ ("@" : Str) ++ (⟨b.toArray⟩ : Str) := ext_tl (by
      rw [tl_append, tl_append, ey, e, List.append_assoc] <;> rfl)
    rw [ez, partition_app ey (show 64 ∉ tl (⟨a.toArray⟩ : Str) from ha)]
    refine ⟨?_, Nat.le_refl 1, ?_⟩
    all_goals
      dsimp only
      rw [len_tl, len_tl, tl_append, tl_append, List.length_append, List.length_append]
      omega
  · rw [partition_none ey h]
    exact ⟨Nat.le_refl _, Nat.zero_le 1, Nat.zero_le _⟩
section
variable {P : Program} {w : World} {K : PySem.W.Frag} {mg : Str → Option Value} {base : Heap} {f fN fW : Addr} {fd fdN fdW : FuncData}
theorem dec_str {a b : Str} : decide (V.str a = V.str b) = (a == b) := by
  by_cases e : a = b
  · subst e
    simp
  · have n : ¬ V.str a = V.str b := fun z => e (V.str.inj z)
    rw [decide_eq_false n]
    exact (beq_eq_false_iff_ne.mpr e).symm
theorem rd_or {σ : L2.St} {i j : Nat} {lit y z : Str} {H : Hp} {Q : VK} (h1 : σ[i]? = some (some (.str y))) (h2 : σ[j]? = some (some (.str z))) (hz : z.length ≤ 1000000)
    (q : ∀ G, Same H G → Q (.bl ((y == lit) || isName z)) G) : tOrV (tOp rEq (tVar i) (tC (.str lit))) (tCall (spIsName K) [] E0 (tCons (tVar j) tNil)) σ H Q := by
  refine ⟨_, h1, rfl, _, rfl, ?_⟩
  rw [dec_str]
  cases c : (y == lit) with
  | true =>
    have w1 := q H (Same.refl H)
    rw [c, Bool.true_or] at w1
    exact iteT w1
  | false =>
    refine iteF ⟨_, h2, .str z, rfl, any_str hz, fun G s => ?_⟩
    have w1 := q G s
    rw [c, Bool.false_or] at w1
    exact w1
/-! ### is_word -/
def spIsWord : Sp := fun vs H Q _ => ∃ z : Str, vs = [.str z] ∧ z.length ≤ 1000000 ∧ ∀ G, Same H G → Q (.bl (isWord z)) G
theorem sc_isword : FnScope ["text", "head", "at", "tail"] ["text"] (defScope (tp 15)) := ⟨rfl, rfl, rfl, by decide +kernel, rfl, by decide +kernel, by decide +kernel⟩
theorem ok_isword (F : FnT K "is_word" 15 f fd) (T : NTxt K mg) (FN : FnT K "is_name" 7 fN fdN) (gN : mg "is_name" = some (.ref fN)) : FnOk P w K mg base CX0 2 f fd ["text"] spIsWord := by
  have GN : FnOk P w K mg base CX0 1 fN fdN ["thing"] (spIsName K) := ok_isname FN T
  have bN : L2.Binds K fdN ["thing"] [] := FN.bindsN fun _ _ _ _ _ _ us hl => match us, hl with | [_], _ => rfl
  refine F.ok sc_isword (fun vs H Q E h => ?_) (fun cdv A outer s H vs Q E hr h => ⟨_, PSs.nox (
    pss_cons (ps_asg (pe_partition (pv 0) pe_str) (pg_tup rfl (pgs_cons (pg_name (i := 1) sc_isword.nd rfl (Or.inl rfl)) (pgs_cons (pg_name (i := 2) sc_isword.nd rfl (Or.inl rfl)) (pgs_cons (pg_name (i := 3) sc_isword.nd rfl (Or.inl rfl)) pgs_nil)))))
    (pss_one (ps_ret (pe_and (pe_or (pe_cmpR op_eq (pv 1) pe_str (nomark _)) (pe_one (pe_call GN hr rfl gN FN.kp bN .nil pass0 (pa_cons (pv 1) pa_nil))))
      (pe_one (pe_or (pe_cmpR op_eq (pv 2) pe_str (nomark _)) (pe_one (pe_call GN hr rfl gN FN.kp bN .nil pass0 (pa_cons (pv 3) pa_nil)))))))) ), ?_⟩)
  · obtain ⟨z, rfl, _⟩ := h
    rfl
  · obtain ⟨z, rfl, hz, q⟩ := h
    obtain ⟨l1, l2, l3⟩ := part_le z
    refine ⟨_, rfl, ⟨_, rfl⟩, z, _, rfl, rfl, (by decide +kernel), Nat.le_trans hz (by decide), fun p hp => ?_⟩
    have s1 := same_new hp (u := .tup [.str (Txt.partition z "@").1, .str (Txt.partition z "@").2.1, .str (Txt.partition z "@").2.2])
    refine ⟨p, _, rfl, SqT.of upd_same, rfl, _, _, rfl, _, _, rfl, _, _, rfl, rfl, ?_⟩
    unfold isWord at q
    generalize upd H p (.tup [.str (Txt.partition z "@").1, .str (Txt.partition z "@").2.1, .str (Txt.partition z "@").2.2]) = G at s1 ⊢
    generalize Txt.partition z "@" = r at l1 l2 l3 q ⊢
    obtain ⟨head, at_, tail⟩ := r
    dsimp only at l1 l2 l3 q ⊢
    refine rd_or (y := head) (z := head) rfl rfl (by omega) fun G2 s2 => ⟨_, rfl, ?_⟩
    cases c : (head == "there" || isName head) with
    | true =>
      refine iteT (rd_or (y := at_) (z := tail) rfl rfl (by omega) fun G3 s3 => ?_)
      have w2 := q _ ((s1.trans s2).trans s3)
      rw [c, Bool.true_and] at w2
      exact w2
    | false =>
      have w2 := q _ (s1.trans s2)
      rw [c, Bool.false_and] at w2
      exact iteF w2
end
end Fx
set_option maxHeartbeats 2000000
namespace Fx
open PySem PySem.Spec PyProof.Rows L2 TL
section
variable {P : Program} {w : World} {K : PySem.W.Frag} {mg : Str → Option Value} {base : Heap} {f fN fW fC : Addr} {fd fdN fdW fdC : FuncData}
theorem in_val (z : Str) (l : List Str) : (if (false : Bool) = true then !inV (.str z) (l.map V.str) else inV (.str z) (l.map V.str)) = l.any fun y => y == z := by
  rw [if_neg Bool.false_ne_true, inV_strs]
theorem dec_int0 {a b : Int} : decide (V.int a = V.int b) = (a == b) := dec_int
/-! ### can_stand -/
def spCan : Sp := fun vs H Q _ => ∃ (core : Str) (mo ms : Int) (wanted : Bool), vs = [.str core, .int mo, .int ms, .bl wanted] ∧ core.length ≤ 1000000 ∧ ∀ G, Same H G → Q (.bl (canStand core mo ms wanted)) G
theorem sc_can : FnScope ["core", "many_open", "many_shut", "wanted"] ["core", "many_open", "many_shut", "wanted"] (defScope (tp 17)) := ⟨rfl, rfl, rfl, by decide +kernel, rfl, by decide +kernel, by decide +kernel⟩
theorem ok_can (F : FnT K "can_stand" 17 f fd) (T : NTxt K mg) (FN : FnT K "is_name" 7 fN fdN) (gN : mg "is_name" = some (.ref fN)) (FW : FnT K "is_word" 15 fW fdW) (gW : mg "is_word" = some (.ref fW)) :
    FnOk P w K mg base CX0 3 f fd ["core", "many_open", "many_shut", "wanted"] spCan := by
  have GW : FnOk P w K mg base CX0 2 fW fdW ["text"] spIsWord := ok_isword FW T FN gN
  have bW : L2.Binds K fdW ["text"] [] := FW.bindsN fun _ _ _ _ _ _ us hl => match us, hl with | [_], _ => rfl
  obtain ⟨aO, gO, hO⟩ := T.operators
  obtain ⟨aC, gC, hC⟩ := T.constants
  refine F.ok sc_can (fun vs H Q E h => ?_) (fun cdv A outer s H vs Q E hr h => ⟨_, PSs.nox (
    pss_cons (ps_if (pt_cmpR op_eq (pv 0) pe_str (nomark _)) (pss_one (ps_ret (pe_and (pv 3) (pe_one (pe_cmpR op_eq (pv 2) pe_int (nomark _)))))) pss_nil)
    (pss_cons (ps_if (pt_cmpR op_in_seq (pv 0) (pe_glob (v := .ref aO) rfl gO rfl) (by rfl)) (pss_one (ps_ret (pe_and (pe_not (pv 3)) (pe_and (pe_cmpR op_eq (pv 1) pe_int (nomark _)) (pe_one (pe_cmpR op_eq (pv 2) pe_int (nomark _))))))) pss_nil)
    (pss_one (ps_ret (pe_and (pv 3) (pe_one (pe_or (pe_cmpR op_in_seq (pv 0) (pe_glob (v := .ref aC) rfl gC rfl) (by rfl)) (pe_one (pe_call GW hr rfl gW FW.kp bW .nil pass0 (pa_cons (pv 0) pa_nil))))))))) ), ?_⟩)
  · obtain ⟨core, mo, ms, wanted, rfl, _⟩ := h
    rfl
  · obtain ⟨core, mo, ms, wanted, rfl, hz, q⟩ := h
    refine ⟨_, rfl, rfl, _, rfl, ?_⟩
    rw [dec_str]
    unfold canStand at q
    cases c1 : (core == "not") with
    | true =>
      rw [c1] at q
      simp only [if_true] at q
      refine iteT ⟨_, rfl, wanted, rfl, ?_⟩
      cases wanted with
      | true => exact iteT ⟨_, rfl, rfl, by have w1 := q H (Same.refl H); rw [dec_int]; exact w1⟩
      | false => exact iteF (q H (Same.refl H))
    | false =>
      rw [c1] at q
      simp only [Bool.false_eq_true, if_false] at q
      refine iteF ⟨_, rfl, aO, operators.map V.str, rfl, .inr (hO H), rfl, flat_strs _, _, rfl, ?_⟩
      rw [in_val]
      cases c2 : operators.any fun y => y == core with
      | true =>
        rw [c2] at q
        simp only [if_true] at q
        refine iteT ⟨_, rfl, wanted, rfl, _, rfl, ?_⟩
        cases wanted with
        | true => exact iteF (q H (Same.refl H))
        | false =>
          refine iteT ⟨_, rfl, rfl, _, rfl, ?_⟩
          rw [dec_int]
          cases c3 : (mo == 0) with
          | true =>
            rw [c3] at q
            exact iteT ⟨_, rfl, rfl, by have w1 := q H (Same.refl H); rw [dec_int]; exact w1⟩
          | false =>
            rw [c3] at q
            exact iteF (q H (Same.refl H))
      | false =>
        rw [c2] at q
        simp only [Bool.false_eq_true, if_false] at q
        refine iteF ⟨_, rfl, wanted, rfl, ?_⟩
        cases wanted with
        | false => exact iteF (q H (Same.refl H))
        | true =>
          refine iteT ⟨_, rfl, aC, constants.map V.str, rfl, .inr (hC H), rfl, flat_strs _, _, rfl, ?_⟩
          rw [in_val]
          cases c3 : constants.any fun y => y == core with
          | true =>
            rw [c3] at q
            exact iteT (q H (Same.refl H))
          | false =>
            rw [c3] at q
            exact iteF ⟨_, rfl, core, rfl, hz, fun G s => q G s⟩
end
end Fx
set_option maxHeartbeats 2000000
namespace Fx
open PySem PySem.Spec PyProof.Rows L2 TL

/-! ### the mirror of signs_of -/
structure PSt where
  signs : List Str
  depth : Int
  wanted : Bool
def behindOf (p : Str) : Str := Txt.lstripChars p "("
def coreOf (p : Str) : Str := Txt.rstripChars (behindOf p) ")"
def openOf (p : Str) : Int := (p.length : Int) - (behindOf p).length
def shutOf (p : Str) : Int := ((behindOf p).length : Int) - (coreOf p).length
def signsP (p : Str) : List Str := List.replicate (openOf p).toNat ("(" : Str) ++ [coreOf p] ++ List.replicate (shutOf p).toNat (")" : Str)
def stepP (st : PSt) (p : Str) : Option PSt :=
  if decide (st.depth + openOf p - shutOf p < 0) || !canStand (coreOf p) (openOf p) (shutOf p) st.wanted then none
  else some ⟨st.signs ++ signsP p, st.depth + openOf p - shutOf p, operators.any fun y => y == coreOf p⟩
def runP : Option PSt → List Str → Option PSt
  | none, _ => none
  | some st, [] => some st
  | some st, p :: r => runP (stepP st p) r
def start0 : PSt := ⟨[], 0, true⟩
def signsOf (z : Str) : List Str := match runP (some start0) (Txt.split z " ") with
  | none => []
  | some st => if st.wanted || decide (0 < st.depth) then [] else st.signs
def signsV : V → List Str
  | .str z => signsOf z
  | _ => []
theorem runP_none : ∀ l, runP none l = none
  | [] => rfl
  | _ :: _ => rfl
theorem runP_app : ∀ (a b : List Str) (o : Option PSt), runP o (a ++ b) = runP (runP o a) b
  | [], b, none => by rw [runP_none, runP_none, runP_none]
  | [], b, some st => rfl
  | p :: a, b, none => by rw [runP_none, runP_none, runP_none]
  | p :: a, b, some st => by
    show runP (stepP st p) (a ++ b) = _
    rw [runP_app a b] <;> rfl
/-! ### lengths -/
theorem len_behind (p : Str) : (behindOf p).length ≤ p.length := by
  obtain ⟨i, hi, e⟩ := stripBy_left (("(" : Str).cps.contains) p
  unfold behindOf Txt.lstripChars
  rw [e, len_tl, tl_strSub_end, List.length_drop, ← len_tl]
  omega
theorem len_core (p : Str) : (coreOf p).length ≤ (behindOf p).length := by
  obtain ⟨j, hj, e⟩ := stripBy_right ((")" : Str).cps.contains) (behindOf p)
  unfold coreOf Txt.rstripChars
  rw [e, len_tl, tl_strSub, List.drop_zero, List.length_take, ← len_tl]
  omega
theorem len_signsP (p : Str) : (signsP p).length ≤ p.length + 1 := by
  have h1 := len_behind p
  have h2 := len_core p
  unfold signsP openOf shutOf
  rw [List.length_append, List.length_append, List.length_replicate, List.length_replicate, List.length_singleton]
  omega
theorem spl_len (S : List Nat) : ∀ (xs : List Nat) (k : Nat) (acc : List Nat), ∀ p ∈ spl S k acc xs, p.length ≤ acc.length + xs.length
  | [], k, acc, p, hp => by
    rw [spl_nil] at hp
    rw [List.mem_singleton.mp hp]
    exact Nat.le_add_right _ _
  | c :: r, 0, acc, p, hp => by
    cases h : pre S (c :: r) with
    | true =>
      rw [spl_hit h] at hp
      rcases List.mem_cons.mp hp with e | hp
      · rw [e]
        exact Nat.le_add_right _ _
      · have z := spl_len S r (S.length - 1) [] p hp
        rw [List.length_cons]
        simp only [List.length_nil] at z
        omega
    | false =>
      rw [spl_miss h] at hp
      have z := spl_len S r 0 (acc ++ [c]) p hp
      rw [List.length_append, List.length_singleton] at z
      rw [List.length_cons]
      omega
  | c :: r, k + 1, acc, p, hp => by
    have z := spl_len S r k acc p hp
    rw [List.length_cons]
    omega
theorem piece_len (z : Str) : ∀ p ∈ Txt.split z " ", p.length ≤ z.length := by
  intro p hp
  have e := split_spl z " " (by decide +kernel) (kind_ok (by decide +kernel))
  have m : tl p ∈ (Txt.split z " ").map tl := List.mem_map.mpr ⟨p, hp, rfl⟩
  rw [e] at m
  have w1 := spl_len _ _ _ _ _ m
  rw [len_tl, len_tl]
  simpa using w1
theorem runP_len : ∀ (l : List Str) (n : Nat) (st st' : PSt), (∀ p ∈ l, p.length ≤ n) → runP (some st) l = some st' → st'.signs.length ≤ st.signs.length + l.length * (n + 1)
  | [], n, st, st', _, e => by
    cases e
    omega
  | p :: l, n, st, st', h, e => by
    have e2 : runP (stepP st p) l = some st' := e
    cases q : stepP st p with
    | none =>
      rw [q, runP_none] at e2
      cases e2
    | some st2 =>
      rw [q] at e2
      have ih := runP_len l n st2 st' (fun y hy => h y (List.mem_cons_of_mem _ hy)) e2
      have h1 := len_signsP p
      have h2 := h p List.mem_cons_self
      have h3 : st2.signs = st.signs ++ signsP p := by
        unfold stepP at q
        split at q
        · cases q
        · cases q
          rfl
      rw [h3, List.length_append] at ih
      rw [List.length_cons, Nat.add_mul]
      omega

theorem rep_flat (z : Str) (k : Int) : (List.replicate k.toNat [V.str z]).flatten = (List.replicate k.toNat z).map V.str := by
  rw [List.map_replicate]
  induction k.toNat with
  | zero => rfl
  | succ n ih =>
    rw [List.replicate_succ, List.flatten_cons, ih] <;> rfl
theorem rd_rep {H : Hp} {Q : VK} {z : Str} {k : Int} (h0 : 0 ≤ k) (h1 : k ≤ 4000) (q : ∀ p G, Same H G → H p = none → G p = some (.lst ((List.replicate k.toNat z).map V.str)) → Q (.ref p) G) :
    ∀ l, H l = none → rRep (.ref l) (.int k) (upd H l (.lst [.str z])) Q := by
  intro l hl
  have e : (2 : Int) ^ 63 = 9223372036854775808 := by decide
  refine ⟨l, k, [.str z], rfl, rfl, upd_same, by rw [e]; omega, by rw [e]; omega, ?_, fun p hp => ?_⟩
  · show 1 * k.toNat ≤ sizeLine
    have e2 : (4000 : Nat) ≤ sizeLine := by decide
    omega
  · refine q p _ ((same_new hl).trans (same_new hp)) ?_ ?_
    · exact (same_new hl).free hp
    · rw [upd_same, rep_flat]
theorem rd_cat {H : Hp} {Q : VK} {l b : Addr} {xs zs : List Str} (h1 : H l = some (.lst (xs.map V.str))) (h2 : H b = some (.lst (zs.map V.str))) (z : xs.length + zs.length ≤ sizeLine)
    (q : ∀ p G, Same H G → H p = none → G p = some (.lst ((xs ++ zs).map V.str)) → Q (.ref p) G) : rCat (.ref l) (.ref b) H Q := by
  refine ⟨l, b, _, _, rfl, rfl, h1, h2, by rw [List.length_map, List.length_map]; exact z, fun p hp => q p _ (same_new hp) hp ?_⟩
  rw [upd_same, List.map_append]
section
variable {P : Program} {w : World} {K : PySem.W.Frag} {mg : Str → Option Value} {base : Heap} {f fN fW fC : Addr} {fd fdN fdW fdC : FuncData}
/-- a text of at most 4000 signs, or no text -/
def spSigns (K : PySem.W.Frag) : Sp := fun vs H Q _ => ∃ v, vs = [v] ∧ Any K H v ∧ (∀ z, v = .str z → z.length ≤ 3900) ∧ ∀ p G, Same H G → H p = none → G p = some (.lst ((signsV v).map V.str)) → Q (.ref p) G
theorem sc_signs : FnScope ["text", "signs", "depth", "wanted", "piece", "behind", "core", "many_open", "many_shut"] ["text"] (defScope (tp 16)) := ⟨rfl, rfl, rfl, by decide +kernel, rfl, by decide +kernel, by decide +kernel⟩
theorem ok_signs (F : FnT K "signs_of" 16 f fd) (T : NTxt K mg) (FN : FnT K "is_name" 7 fN fdN) (gN : mg "is_name" = some (.ref fN)) (FW : FnT K "is_word" 15 fW fdW) (gW : mg "is_word" = some (.ref fW))
    (FC : FnT K "can_stand" 17 fC fdC) (gC : mg "can_stand" = some (.ref fC)) : FnOk P w K mg base CX0 4 f fd ["text"] (spSigns K) := by
  have GC : FnOk P w K mg base CX0 3 fC fdC ["core", "many_open", "many_shut", "wanted"] spCan := ok_can FC T FN gN FW gW
  have bC : L2.Binds K fdC ["core", "many_open", "many_shut", "wanted"] [] := FC.bindsN fun _ _ _ _ _ _ us hl => match us, hl with | [_, _, _, _], _ => rfl
  obtain ⟨aO, gO, hO⟩ := T.operators
  refine F.ok sc_signs (fun vs H Q E h => ?_) (fun cdv A outer s H vs Q E hr h => ⟨_, PSs.nox (pss_cons (ps_if (pt_not (pt_val (pe_callB call_isi rfl T.isi (by decide +kernel) (pa_cons (pv 0) (pa_cons (pe_bltn (v := .ty "str") rfl T.str (by decide +kernel) rfl) pa_nil))))) (pss_one (ps_ret (pe_lst pa_nil))) pss_nil)
      (pss_cons (ps_set (i := 1) sc_signs.nd rfl (Or.inl rfl) (pe_lst pa_nil))
      (pss_cons (ps_set (i := 2) sc_signs.nd rfl (Or.inl rfl) pe_int)
      (pss_cons (ps_set (i := 3) sc_signs.nd rfl (Or.inl rfl) pe_bl)
      (pss_cons (ps_for PassesOwn.never rfl (pi_list (pe_split (pv 0) pe_str)) (pg_name (i := 4) sc_signs.nd rfl (Or.inl rfl)) (pss_cons (ps_set (i := 5) sc_signs.nd rfl (Or.inl rfl) (pe_bm PySem.F.plainAttrs_str PySem.F.slot_str_lstrip PySem.F.type_str_lstrip mt_lstripChars (pv 4) (pa_cons pe_str pa_nil)))
      (pss_cons (ps_set (i := 6) sc_signs.nd rfl (Or.inl rfl) (pe_bm PySem.F.plainAttrs_str PySem.F.slot_str_rstrip PySem.F.type_str_rstrip mt_rstripChars (pv 5) (pa_cons pe_str pa_nil)))
      (pss_cons (ps_set (i := 7) sc_signs.nd rfl (Or.inl rfl) (pe_op op_sub (pe_callB call_len rfl T.len boot_len (pa_cons (pv 4) pa_nil)) (pe_callB call_len rfl T.len boot_len (pa_cons (pv 5) pa_nil))))
      (pss_cons (ps_set (i := 8) sc_signs.nd rfl (Or.inl rfl) (pe_op op_sub (pe_callB call_len rfl T.len boot_len (pa_cons (pv 5) pa_nil)) (pe_callB call_len rfl T.len boot_len (pa_cons (pv 6) pa_nil))))
      (pss_cons (ps_set (i := 2) sc_signs.nd rfl (Or.inl rfl) (pe_op op_sub (pe_op op_add (pv 2) (pv 7)) (pv 8)))
      (pss_cons (ps_if (PW.pt (pw_or (pt_cmpR op_lt (pv 2) pe_int (nomark _)) (pw_or1 (pt_not (pt_val (pe_call GC hr rfl gC FC.kp bC .nil pass0 (pa_cons (pv 6) (pa_cons (pv 7) (pa_cons (pv 8) (pa_cons (pv 3) pa_nil)))))))))) (pss_one (ps_ret (pe_lst pa_nil))) pss_nil)
      (pss_cons (ps_set (i := 3) sc_signs.nd rfl (Or.inl rfl) (pe_cmpR op_in_seq (pv 6) (pe_glob (v := .ref aO) rfl gO rfl) (by rfl)))
      (pss_one (ps_expr (pe_bm PySem.F.plainAttrs_list PySem.F.slot_list_extend PySem.F.type_list_extend mt_extend (pv 1) (pa_cons (pe_op op_cat (pe_op op_cat (pe_op op_rep (pe_lst (pa_cons pe_str pa_nil)) (pv 7)) (pe_lst (pa_cons (pv 6) pa_nil))) (pe_op op_rep (pe_lst (pa_cons pe_str pa_nil)) (pv 8))) pa_nil))))))))))))
      (pss_one (ps_ret (pe_ifExp (PW.pt (pw_or (pt_val (pv 3)) (pw_or1 (pt_cmpR op_gt (pv 2) pe_int (nomark _))))) (pe_lst pa_nil) (pv 1))))))))), ?_⟩)
  · obtain ⟨v, rfl, _⟩ := h
    rfl
  · obtain ⟨v, rfl, ⟨t, b, ty, kb, hb, _⟩, hz, q⟩ := h
    refine ⟨_, rfl, v, .ty "str", t, .type "str", b, rfl, .ty _, ty, kb, b, rfl, ?_⟩
    cases b with
    | false =>
      have e : signsV v = [] := by
        cases v with
        | str z => exact absurd (hb.mpr ⟨z, rfl⟩) Bool.false_ne_true
        | _ => rfl
      rw [e] at q
      exact iteT ⟨Nat.zero_le _, fun p hp => q p _ (same_new hp) hp upd_same⟩
    | true =>
      obtain ⟨z, rfl⟩ := hb.mp rfl
      have hz1 := hz z rfl
      have line : (16000000 : Nat) ≤ sizeLine := by decide
      refine iteF ⟨Nat.zero_le _, fun l hl => ?_⟩
      refine ⟨_, rfl, ⟨_, rfl⟩, z, _, rfl, rfl, (by decide +kernel), (by omega), fun p hp => ?_⟩
      have hpl : p ≠ l := fun e => by
        rw [e, upd_same] at hp
        cases hp
      have hp0 : H p = none := (same_new hl).free hp
      have pl := piece_len z
      have hn := PyProof.Rows.split_le z " "
      have ed : signsV (.str z) = (match runP (some start0) (Txt.split z " ") with
        | none => []
        | some st => if st.wanted || decide (0 < st.depth) then [] else st.signs) := rfl
      rw [ed] at q
      generalize Txt.split z " " = pcs at pl hn q ⊢
      refine ⟨p, rfl, ⟨_, SqL.of upd_same⟩, for_list (K := K) (a := p) (xs := pcs.map V.str)
        (fun i σ G => ∃ (st : PSt) (o4 o5 o6 o7 o8 : Option V), runP (some start0) (pcs.take i) = some st ∧ σ = [some (.str z), some (.ref l), some (.int st.depth), some (.bl st.wanted), o4, o5, o6, o7, o8] ∧
          Same H G ∧ G l = some (.lst (st.signs.map V.str)) ∧ G p = some (.lst (pcs.map V.str)))
        ⟨start0, none, none, none, none, none, rfl, rfl, (same_new hl).trans (same_new hp), same_new hp _ _ upd_same, upd_same⟩ (fun i σ G _ h => by
          obtain ⟨_, _, _, _, _, _, _, _, _, _, h⟩ := h
          exact SqL.of h) ?_ ?_⟩
      · rintro i x σ G hi ⟨st, o4, o5, o6, o7, o8, hr1, rfl, s1, hl1, hp1⟩
        obtain ⟨pc, hpc, rfl⟩ : ∃ pc, pcs[i]? = some pc ∧ x = V.str pc := by
          rw [List.getElem?_map] at hi
          cases e : pcs[i]? with
          | none =>
            rw [e] at hi
            cases hi
          | some pc =>
            rw [e] at hi
            exact ⟨pc, rfl, (Option.some.inj hi).symm⟩
        have mem : pc ∈ pcs := List.mem_of_getElem? hpc
        have b1 := pl pc mem
        have b2 := len_behind pc
        have b3 := len_core pc
        have bad : stepP st pc = none → runP (some start0) pcs = none := fun hs => by
          have e1 : pcs = pcs.take i ++ pc :: pcs.drop (i + 1) := by
            have hlt := (List.getElem?_eq_some_iff.mp hpc).1
            have e2 := (List.getElem?_eq_some_iff.mp hpc).2
            rw [← e2, List.getElem_cons_drop, List.take_append_drop]
          rw [e1, runP_app, hr1]
          show runP (stepP st pc) _ = none
          rw [hs, runP_none]
        refine ⟨_, rfl, rfl, pc, _, rfl, rfl, by omega, ?_⟩
        refine ⟨_, rfl, rfl, behindOf pc, _, rfl, rfl, by omega, ?_⟩
        refine ⟨_, rfl, _, pc.length, rfl, ⟨by omega, rfl⟩, _, rfl, _, (behindOf pc).length, rfl, ⟨by show (behindOf pc).length ≤ sizeLine; omega, rfl⟩, _, _, rfl, rfl, ?_⟩
        refine ⟨_, rfl, _, (behindOf pc).length, rfl, ⟨by show (behindOf pc).length ≤ sizeLine; omega, rfl⟩, _, rfl, _, (coreOf pc).length, rfl, ⟨by show (coreOf pc).length ≤ sizeLine; omega, rfl⟩, _, _, rfl, rfl, ?_⟩
        refine ⟨_, rfl, _, rfl, _, _, rfl, rfl, _, rfl, _, _, rfl, rfl, ?_⟩
        refine ⟨_, rfl, _, _, rfl, rfl, _, rfl, ?_⟩
        have hO0 : 0 ≤ openOf pc := by unfold openOf; omega
        have hS0 : 0 ≤ shutOf pc := by unfold shutOf; omega
        have hO1 : openOf pc ≤ 4000 := by unfold openOf; omega
        have hS1 : shutOf pc ≤ 4000 := by unfold shutOf; omega
        have qb : runP (some start0) pcs = none → ∀ p G, Same H G → H p = none → G p = some (.lst []) → Q (.ref p) G := by
          intro h
          rw [h] at q
          exact q
        refine ite2 (fun c => ?_) fun c => ?_
        · have c1 : st.depth + openOf pc - shutOf pc < 0 := of_decide_eq_true c
          have none1 := bad (by unfold stepP; rw [decide_eq_true c1] <;> rfl)
          exact iteT ⟨Nat.zero_le _, fun r hr2 => qb none1 r _ (s1.trans (same_new hr2)) (s1.free hr2) upd_same⟩
        · have c1 : ¬ st.depth + openOf pc - shutOf pc < 0 := fun w1 => c (decide_eq_true w1)
          refine ⟨_, rfl, _, rfl, _, rfl, _, rfl, coreOf pc, openOf pc, shutOf pc, st.wanted, rfl, by omega, fun G2 s2 => ⟨_, rfl, ?_⟩⟩
          cases c2 : canStand (coreOf pc) (openOf pc) (shutOf pc) st.wanted with
          | false =>
            have none1 := bad (by unfold stepP; rw [c2, decide_eq_false c1] <;> rfl)
            exact iteT ⟨Nat.zero_le _, fun r hr2 => qb none1 r _ ((s1.trans s2).trans (same_new hr2)) ((s1.trans s2).free hr2) upd_same⟩
          | true =>
            have next : stepP st pc = some ⟨st.signs ++ signsP pc, st.depth + openOf pc - shutOf pc, operators.any fun y => y == coreOf pc⟩ := by
              unfold stepP
              rw [c2, decide_eq_false c1] <;> rfl
            refine iteF ⟨_, rfl, aO, operators.map V.str, rfl, .inr (hO _), rfl, flat_strs _, ?_⟩
            rw [in_val]
            have hl2 := s2 _ _ hl1
            have hp2 := s2 _ _ hp1
            refine ⟨_, rfl, .inl ⟨rfl, _, SqL.of hl2⟩, (by show 1 ≤ sizeLine; decide), fun l1 n1 => ⟨_, rfl, rd_rep hO0 hO1 (fun p1 G3 s3 m3 e3 => ?_) l1 n1⟩⟩
            refine ⟨_, rfl, (by show 1 ≤ sizeLine; decide), fun l2 n2 => ?_⟩
            have z1 : (openOf pc).toNat ≤ 4000 := by omega
            have z2 : (shutOf pc).toNat ≤ 4000 := by omega
            refine rd_cat (zs := [coreOf pc]) (same_new n2 _ _ e3) upd_same (by rw [List.length_replicate]; show (openOf pc).toNat + 1 ≤ sizeLine; omega) (fun p2 G4 s4 m4 e4 => ?_)
            refine ⟨(by show 1 ≤ sizeLine; decide), fun l3 n3 => ⟨_, rfl, rd_rep hS0 hS1 (fun p3 G5 s5 m5 e5 => ?_) l3 n3⟩⟩
            have s35 := s3.trans ((same_new n2 (u := .lst [.str (coreOf pc)])).trans (s4.trans s5))
            have len1 : (List.replicate (openOf pc).toNat ("(" : Str) ++ [coreOf pc]).length + (List.replicate (shutOf pc).toNat (")" : Str)).length ≤ sizeLine := by
              rw [List.length_append, List.length_replicate, List.length_replicate, List.length_singleton]
              omega
            refine rd_cat (s5 _ _ e4) e5 len1 (fun p4 G6 s6 m6 e6 => ?_)
            have s26 := (s2.trans s35).trans s6
            have hl6 := s35.trans s6 _ _ hl2
            have lens : st.signs.length ≤ i * (z.length + 1) := by
              have w1 := runP_len (pcs.take i) z.length start0 st (fun y hy => pl y (List.mem_of_mem_take hy)) hr1
              have w2 : start0.signs.length = 0 := rfl
              have w3 : (pcs.take i).length * (z.length + 1) ≤ i * (z.length + 1) := Nat.mul_le_mul (List.length_take_le _ _) (Nat.le_refl _)
              omega
            have li : i < pcs.length := (List.getElem?_eq_some_iff.mp hpc).1
            have lens2 : i * (z.length + 1) ≤ 3901 * 3901 := Nat.mul_le_mul (by omega) (by omega)
            have lenp := len_signsP pc
            refine ⟨l, p4, _, _, rfl, rfl, hl6, e6, ?_, ?_⟩
            · rw [List.length_map, List.length_map]
              show st.signs.length + (signsP pc).length ≤ sizeLine
              omega
            · refine ⟨⟨st.signs ++ signsP pc, st.depth + openOf pc - shutOf pc, operators.any fun y => y == coreOf pc⟩, _, _, _, _, _, ?_, rfl, ?_, ?_, ?_⟩
              · rw [take_snoc hpc, runP_app, hr1]
                show runP (stepP st pc) [] = _
                rw [next] <;> rfl
              · intro b o hb2
                rw [upd_ne (ne_of_none hb2 hl)]
                exact (s1.trans s26) _ _ hb2
              · rw [upd_same]
                show some (HO.lst (List.map V.str st.signs ++ List.map V.str (signsP pc))) = some (HO.lst (List.map V.str (st.signs ++ signsP pc)))
                rw [List.map_append]
              · rw [upd_ne hpl]
                exact s26 _ _ hp1
      · rintro σ G ⟨st, o4, o5, o6, o7, o8, hr1, rfl, s1, hl1, hp1⟩
        rw [List.length_map, List.take_length] at hr1
        rw [hr1] at q
        dsimp only at q
        refine ⟨_, rfl, st.wanted, rfl, ?_⟩
        cases c1 : st.wanted with
        | true =>
          rw [c1] at q
          exact iteT (iteT ⟨Nat.zero_le _, fun r hr2 => q r _ (s1.trans (same_new hr2)) (s1.free hr2) upd_same⟩)
        | false =>
          rw [c1, Bool.false_or] at q
          refine iteF ⟨_, rfl, _, _, rfl, rfl, _, rfl, ?_⟩
          refine ite2 (fun c => ?_) fun c => ?_
          · have c2 : decide (0 < st.depth) = true := c
            rw [c2] at q
            exact ⟨Nat.zero_le _, fun r hr2 => q r _ (s1.trans (same_new hr2)) (s1.free hr2) upd_same⟩
          · have c2 : ¬ decide (0 < st.depth) = true := c
            rw [if_neg c2] at q
            exact ⟨_, rfl, q l _ s1 hl hl1⟩
end
end Fx
set_option maxHeartbeats 2000000
namespace Fx
open PySem PySem.Spec PyProof.Rows L2 TL

/-! ### the mirror of code_of: the stack has its top first -/
def rank (s : Str) : Int := if s == "(" then 0 else if s == "or" then 1 else if s == "and" then 2 else 3
def popTo : List Str → List Str × List Str
  | [] => ([], [])
  | s :: r => if s == "(" then ([], s :: r) else (s :: (popTo r).1, (popTo r).2)
def popGe (k : Int) : List Str → List Str × List Str
  | [] => ([], [])
  | s :: r => if decide (k ≤ rank s) then (s :: (popGe k r).1, (popGe k r).2) else ([], s :: r)
def stepC (cs : List Str × List Str) (s : Str) : List Str × List Str :=
  if s == "(" || s == "not" then (cs.1, s :: cs.2)
  else if s == ")" then (cs.1 ++ (popTo cs.2).1, (popTo cs.2).2.tail)
  else if operators.any fun y => y == s then (cs.1 ++ (popGe (rank s) cs.2).1, s :: (popGe (rank s) cs.2).2)
  else (cs.1 ++ [s], cs.2)
def runC (l : List Str) : List Str × List Str := l.foldl stepC ([], [])
def codeOf (l : List Str) : List Str := (runC l).1 ++ (runC l).2
/-- what stands on the stack -/
def isOp (s : Str) : Bool := s == "(" || (s == "or" || (s == "and" || s == "not"))
def stackOk (l : List Str) : Prop := ∀ s ∈ l, isOp s = true
/-- each bracket that shuts finds one that is open -/
def Good (l : List Str) : Prop := ∀ (i : Nat), l[i]? = some (")" : Str) → ("(" : Str) ∈ (runC (l.take i)).2
theorem popTo_app : ∀ l, (popTo l).1 ++ (popTo l).2 = l
  | [] => rfl
  | s :: r => by
    unfold popTo
    split
    · rfl
    · show s :: ((popTo r).1 ++ (popTo r).2) = s :: r
      rw [popTo_app r]
theorem popTo_head : ∀ l, ("(" : Str) ∈ l → ∃ r, (popTo l).2 = ("(" : Str) :: r
  | [], h => by cases h
  | s :: r, h => by
    unfold popTo
    by_cases e : (s == ("(" : Str)) = true
    · rw [if_pos e]
      exact ⟨r, by rw [eq_of_beq e]⟩
    · rw [if_neg e]
      have e2 : s ≠ "(" := fun z => e (by rw [z]; simp)
      rcases List.mem_cons.mp h with z | z
      · exact absurd z.symm e2
      · exact popTo_head r z
theorem popTo_no : ∀ l, ∀ s ∈ (popTo l).1, s ≠ "("
  | [], s, h => by cases h
  | a :: r, s, h => by
    unfold popTo at h
    by_cases e : (a == ("(" : Str)) = true
    · rw [if_pos e] at h
      cases h
    · rw [if_neg e] at h
      rcases List.mem_cons.mp h with z | z
      · intro w1
        rw [z] at w1
        exact e (by rw [w1]; simp)
      · exact popTo_no r s z
theorem popGe_app (k : Int) : ∀ l, (popGe k l).1 ++ (popGe k l).2 = l
  | [] => rfl
  | s :: r => by
    unfold popGe
    split
    · show s :: ((popGe k r).1 ++ (popGe k r).2) = s :: r
      rw [popGe_app k r]
    · rfl
theorem ops_isOp {s : Str} (h : (operators.any fun y => y == s) = true) : isOp s = true := by
  obtain ⟨y, hy, e⟩ := List.any_eq_true.mp h
  have e2 := eq_of_beq e
  subst e2
  have all : ∀ y ∈ operators, isOp y = true := by decide +kernel
  exact all _ hy
theorem stack_step {cs : List Str × List Str} {s : Str} (h : stackOk cs.2) : stackOk (stepC cs s).2 := by
  unfold stepC
  split
  · rename_i h1
    intro y hy
    rcases List.mem_cons.mp hy with e | e
    · rw [e]
      unfold isOp
      simp only [Bool.or_eq_true] at h1 ⊢
      rcases h1 with z | z
      · exact .inl z
      · exact .inr (.inr (.inr z))
    · exact h y e
  · split
    · intro y hy
      refine h y ?_
      rw [← popTo_app cs.2]
      exact List.mem_append_right _ (List.mem_of_mem_tail hy)
    · split
      · rename_i h3
        intro y hy
        rcases List.mem_cons.mp hy with e | e
        · rw [e]
          exact ops_isOp h3
        · refine h y ?_
          rw [← popGe_app (rank s) cs.2]
          exact List.mem_append_right _ e
      · exact h
theorem runC_snoc (l : List Str) (s : Str) : runC (l ++ [s]) = stepC (runC l) s := by
  unfold runC
  rw [List.foldl_append] <;> rfl
theorem fold_stack : ∀ (l : List Str) (cs : List Str × List Str), stackOk cs.2 → stackOk (l.foldl stepC cs).2
  | [], _, h => h
  | _ :: l, _, h => fold_stack l _ (stack_step h)
theorem runC_stack (l : List Str) : stackOk (runC l).2 := fold_stack l _ fun s h => by cases h
theorem len_step (cs : List Str × List Str) (s : Str) : (stepC cs s).1.length + (stepC cs s).2.length ≤ cs.1.length + cs.2.length + 1 := by
  have h1 := congrArg List.length (popTo_app cs.2)
  have h2 := congrArg List.length (popGe_app (rank s) cs.2)
  rw [List.length_append] at h1 h2
  unfold stepC
  split
  · simp only [List.length_cons]; omega
  · split
    · simp only [List.length_append, List.length_tail]; omega
    · split
      · simp only [List.length_append, List.length_cons]; omega
      · simp only [List.length_append, List.length_cons, List.length_nil]; omega
theorem fold_len : ∀ (l : List Str) (cs : List Str × List Str), (l.foldl stepC cs).1.length + (l.foldl stepC cs).2.length ≤ cs.1.length + cs.2.length + l.length
  | [], _ => Nat.le_refl _
  | s :: l, cs => by
    have h1 := fold_len l (stepC cs s)
    have h2 := len_step cs s
    rw [List.length_cons]
    show (l.foldl stepC (stepC cs s)).1.length + (l.foldl stepC (stepC cs s)).2.length ≤ _
    omega
theorem runC_len (l : List Str) : (runC l).1.length + (runC l).2.length ≤ l.length := by
  have h := fold_len l ([], [])
  simp only [List.length_nil] at h
  show (l.foldl stepC ([], [])).1.length + (l.foldl stepC ([], [])).2.length ≤ _
  omega

theorem ix_kd {X : Cx} {d : Addr} {es : Array DictEntry} {n : Nat} (D : KDict X.K X.w d es n) :
    IxR X (fun x y H Q => ∃ (z : Str) (u : Value) (v : V), x = .ref d ∧ y = .str z ∧ PySem.W.nsIn X.K d z = some (some u) ∧ RelV v u ∧ Q v H) := by
  intro value slice pins s σ H x y v u Q I rx ry h hs
  have h2 := h
  obtain ⟨z, u0, v0, rfl, rfl, _⟩ := h2
  have key := op_item_kd D pins s σ H (.ref d) (.str z) v u Q I rx ry h
  cases rx
  exact tail_any (kd_type D I) slot_dict_getitem.lookup key hs
theorem rev_map (s : Str) (r : List Str) : ((s :: r).reverse.map V.str) = r.reverse.map V.str ++ [V.str s] := by
  rw [List.reverse_cons, List.map_append] <;> rfl
theorem rd_appS {H0 G : Hp} {l : Addr} {xs : List Str} {y : Str} {Qd : Hp → Prop} (hl : H0 l = none) (s : Same H0 G) (h : G l = some (.lst (xs.map V.str))) (z : xs.length < sizeLine)
    (k : ∀ G', Same H0 G' → G' l = some (.lst ((xs ++ [y]).map V.str)) → (∀ b, b ≠ l → G' b = G b) → Qd G') : rAppend (.ref l) [.str y] G (fun _ H => Qd H) := by
  refine ⟨l, _, _, rfl, rfl, h, by rw [List.length_map]; exact z, k _ ?_ ?_ fun b hb => upd_ne hb⟩
  · intro b u hb
    rw [upd_ne (ne_of_none hb hl)]
    exact s b u hb
  · rw [upd_same, List.map_append] <;> rfl
theorem rd_popS {H0 G : Hp} {l : Addr} {s : Str} {r : List Str} {Q : VK} (hl : H0 l = none) (sm : Same H0 G) (h : G l = some (.lst ((s :: r).reverse.map V.str)))
    (k : ∀ G', Same H0 G' → G' l = some (.lst (r.reverse.map V.str)) → (∀ b, b ≠ l → G' b = G b) → Q (.str s) G') : rPop (.ref l) [] G Q := by
  refine ⟨l, _, .str s, rfl, rfl, h, ?_, k _ ?_ ?_ fun b hb => upd_ne hb⟩
  · rw [rev_map]
    simp
  · intro b u hb
    rw [upd_ne (ne_of_none hb hl)]
    exact sm b u hb
  · rw [upd_same, rev_map, List.dropLast_concat]
theorem top_at (s : Str) (r : List Str) : atI ((s :: r).reverse.map V.str) (-1) = some (.str s) := by
  rw [rev_map]
  exact atI_last _ _
structure CTxt (K : PySem.W.Frag) (w : World) (mg : Str → Option Value) : Prop where
  n : NTxt K mg
  ranks : ∃ d es n, mg "RANKS" = some (.ref d) ∧ KDict K w d es n ∧ ∀ s, isOp s = true → ∃ t, PySem.W.nsIn K d s = some (some (.int (rank s) t))
  tuple : mg "tuple" = none
section
variable {P : Program} {w : World} {K : PySem.W.Frag} {mg : Str → Option Value} {base : Heap} {f : Addr} {fd : FuncData}
def spCode (K : PySem.W.Frag) : Sp := fun vs H Q _ => ∃ (a : Addr) (l : List Str), vs = [.ref a] ∧ SqL K H a (l.map V.str) ∧ l.length ≤ 16000000 ∧ Good l ∧
  ∀ p G, Same H G → H p = none → G p = some (.tup ((codeOf l).map V.str)) → Q (.ref p) G
theorem sc_code : FnScope ["signs", "code", "waiting", "sign"] ["signs"] (defScope (tp 18)) := ⟨rfl, rfl, rfl, by decide +kernel, rfl, by decide +kernel, by decide +kernel⟩
theorem ok_code (F : FnT K "code_of" 18 f fd) (T : CTxt K w mg) : FnOk P w K mg base CX0 1 f fd ["signs"] (spCode K) := by
  obtain ⟨aO, gO, hO⟩ := T.n.operators
  obtain ⟨aR, es, n, gR, DR, hR⟩ := T.ranks
  refine F.ok sc_code (fun vs H Q E h => ?_) (fun cdv A outer s H vs Q E hr h => ⟨_, PSs.nox (pss_cons (ps_set (i := 1) sc_code.nd rfl (Or.inl rfl) (pe_lst pa_nil))
      (pss_cons (ps_set (i := 2) sc_code.nd rfl (Or.inl rfl) (pe_lst pa_nil))
      (pss_cons (ps_for PassesOwn.never rfl (pi_list (pv 0)) (pg_name (i := 3) sc_code.nd rfl (Or.inl rfl)) (pss_one (ps_if (PW.pt (pw_or (pt_cmpR op_eq (pv 3) pe_str (nomark _)) (pw_or1 (pt_cmpR op_eq (pv 3) pe_str (nomark _))))) (pss_one (ps_expr (pe_bm PySem.F.plainAttrs_list PySem.F.slot_list_append PySem.F.type_list_append mt_append (pv 2) (pa_cons (pv 3) pa_nil)))) (pss_one (ps_if (pt_cmpR op_eq (pv 3) pe_str (nomark _)) (pss_cons (ps_while PassesOwn.never (pt_cmpR op_ne (pe_ix ix_list (pv 2) (pe_un un_neg pe_int) (fun _ _ => rfl)) pe_str (nomark _)) (pss_one (ps_expr (pe_bm PySem.F.plainAttrs_list PySem.F.slot_list_append PySem.F.type_list_append mt_append (pv 1) (pa_cons (pe_bm0 PySem.F.plainAttrs_list PySem.F.slot_list_pop PySem.F.type_list_pop mt_pop (pv 2)) pa_nil)))))
      (pss_one (ps_expr (pe_bm0 PySem.F.plainAttrs_list PySem.F.slot_list_pop PySem.F.type_list_pop mt_pop (pv 2))))) (pss_one (ps_if (pt_cmpR op_in_seq (pv 3) (pe_glob (v := .ref aO) rfl gO rfl) (by rfl)) (pss_cons (ps_while PassesOwn.never (PW.pt (pw_and (pt_truth (pv 2) (by intro _; rfl)) (pw_and1 (pt_cmpR op_ge (pe_ix (ix_kd DR) (pe_glob (v := .ref aR) rfl gR rfl) (pe_ix ix_list (pv 2) (pe_un un_neg pe_int) (fun _ _ => rfl)) (fun _ _ => rfl)) (pe_ix (ix_kd DR) (pe_glob (v := .ref aR) rfl gR rfl) (pv 3) (fun _ _ => rfl)) (nomark _))))) (pss_one (ps_expr (pe_bm PySem.F.plainAttrs_list PySem.F.slot_list_append PySem.F.type_list_append mt_append (pv 1) (pa_cons (pe_bm0 PySem.F.plainAttrs_list PySem.F.slot_list_pop PySem.F.type_list_pop mt_pop (pv 2)) pa_nil)))))
      (pss_one (ps_expr (pe_bm PySem.F.plainAttrs_list PySem.F.slot_list_append PySem.F.type_list_append mt_append (pv 2) (pa_cons (pv 3) pa_nil))))) (pss_one (ps_expr (pe_bm PySem.F.plainAttrs_list PySem.F.slot_list_append PySem.F.type_list_append mt_append (pv 1) (pa_cons (pv 3) pa_nil)))))))))))
      (pss_one (ps_ret (pe_callTy call_tuple_of rfl T.tuple (by decide +kernel) (pa_cons (pe_op op_cat (pv 1) (pe_revL (pv 2))) pa_nil))))))), ?_⟩)
  · obtain ⟨a, l, rfl, _⟩ := h
    rfl
  · obtain ⟨a, l, rfl, hs, hlen, good, q⟩ := h
    refine ⟨Nat.zero_le _, fun c hc => ⟨Nat.zero_le _, fun wt hw => ?_⟩⟩
    have cw : wt ≠ c := fun e => by
      rw [e, upd_same] at hw
      cases hw
    have hw0 : H wt = none := (same_new hc).free hw
    have line : (16000000 : Nat) < sizeLine := by decide
    have s0 := (same_new hc (u := .lst [])).trans (same_new hw (u := .lst []))
    refine ⟨_, rfl, a, rfl, ⟨_, s0.seq hs⟩, for_list (K := K) (a := a) (xs := l.map V.str)
      (fun i σ G => ∃ o3, σ = [some (.ref a), some (.ref c), some (.ref wt), o3] ∧ Same H G ∧ G c = some (.lst ((runC (l.take i)).1.map V.str)) ∧ G wt = some (.lst ((runC (l.take i)).2.reverse.map V.str)))
      ⟨none, rfl, s0, same_new hw _ _ upd_same, upd_same⟩ (fun i σ G _ h => by
        obtain ⟨_, _, h, _⟩ := h
        exact h.seq hs) ?_ ?_⟩
    · rintro i x σ G hi ⟨o3, rfl, s1, gc, gw⟩
      obtain ⟨s, hsi, rfl⟩ : ∃ s, l[i]? = some s ∧ x = V.str s := by
        rw [List.getElem?_map] at hi
        cases e : l[i]? with
        | none =>
          rw [e] at hi
          cases hi
        | some s =>
          rw [e] at hi
          exact ⟨s, rfl, (Option.some.inj hi).symm⟩
      have hnext : runC (l.take (i + 1)) = stepC (runC (l.take i)) s := by rw [take_snoc hsi, runC_snoc]
      have hst := runC_stack (l.take i)
      have hln := runC_len (l.take i)
      have hti := List.length_take_le i l
      have hil : i < l.length := (List.getElem?_eq_some_iff.mp hsi).1
      have hgood := good i
      rw [hsi] at hgood
      have done : ∀ (G' : Hp), Same H G' → G' c = some (.lst ((stepC (runC (l.take i)) s).1.map V.str)) → G' wt = some (.lst ((stepC (runC (l.take i)) s).2.reverse.map V.str)) →
          ∃ o3, [some (.ref a), some (.ref c), some (.ref wt), some (.str s)] = [some (V.ref a), some (.ref c), some (.ref wt), o3] ∧ Same H G' ∧ G' c = some (.lst ((runC (l.take (i + 1))).1.map V.str)) ∧ G' wt = some (.lst ((runC (l.take (i + 1))).2.reverse.map V.str)) := by
        intro G' h1 h2 h3
        rw [hnext]
        exact ⟨_, rfl, h1, h2, h3⟩
      generalize hcs : runC (l.take i) = cs at gc gw hst hln hgood done
      clear hnext
      -- ( or not
      refine ⟨_, rfl, rfl, _, rfl, ?_⟩
      rw [dec_str]
      have pushW : ∀ (hx : (s == "(" || s == "not") = true), rAppend (.ref wt) [.str s] G (fun _ H' => ∃ o3, [some (.ref a), some (.ref c), some (.ref wt), some (.str s)] = [some (V.ref a), some (.ref c), some (.ref wt), o3] ∧ Same H H' ∧ H' c = some (.lst ((runC (l.take (i + 1))).1.map V.str)) ∧ H' wt = some (.lst ((runC (l.take (i + 1))).2.reverse.map V.str))) := by
        intro hx
        refine rd_appS (xs := cs.2.reverse) hw0 s1 gw (by rw [List.length_reverse]; omega) fun G' h1 h2 h3 => ?_
        have e : stepC cs s = (cs.1, s :: cs.2) := by
          unfold stepC
          rw [if_pos hx]
        refine done G' h1 ?_ ?_
        · rw [e, h3 c (Ne.symm cw)]
          exact gc
        · rw [e, h2, List.reverse_cons]
      cases c1 : (s == ("(" : Str)) with
      | true =>
        refine iteT (iteT ?_)
        exact ⟨_, rfl, .inl ⟨rfl, _, SqL.of gw⟩, _, rfl, pushW (by rw [c1] <;> rfl)⟩
      | false =>
        refine iteF ⟨_, rfl, rfl, _, rfl, ?_⟩
        rw [dec_str]
        cases c2 : (s == ("not" : Str)) with
        | true =>
          refine iteT ?_
          exact ⟨_, rfl, .inl ⟨rfl, _, SqL.of gw⟩, _, rfl, pushW (by rw [c1, c2] <;> rfl)⟩
        | false =>
          clear pushW
          refine iteF ⟨_, rfl, rfl, _, rfl, ?_⟩
          rw [dec_str]
          have e1 : (s == ("(" : Str) || s == ("not" : Str)) = false := by rw [c1, c2] <;> rfl
          cases c3 : (s == (")" : Str)) with
          | true =>
            have es : s = ")" := eq_of_beq c3
            have hmem := hgood (by rw [es])
            have e : stepC cs s = (cs.1 ++ (popTo cs.2).1, (popTo cs.2).2.tail) := by
              unfold stepC
              rw [e1, if_neg Bool.false_ne_true, if_pos c3]
            rw [e] at done
            refine iteT ?_
            refine while_by (fun σ G' => ∃ rest code', σ = [some (.ref a), some (.ref c), some (.ref wt), some (.str s)] ∧ ("(" : Str) ∈ rest ∧ code' ++ (popTo rest).1 = cs.1 ++ (popTo cs.2).1 ∧ (popTo rest).2 = (popTo cs.2).2 ∧ code'.length + rest.length ≤ l.length ∧
                Same H G' ∧ G' c = some (.lst (code'.map V.str)) ∧ G' wt = some (.lst (rest.reverse.map V.str))) (fun _ G' => match G' wt with | some (.lst xs) => xs.length | _ => 0)
              ⟨cs.2, cs.1, rfl, hmem, rfl, rfl, by omega, s1, gc, gw⟩ ?_ ?_
            · rintro σ G' ⟨rest, code', rfl, hm, h1, h2, hl2, s2, gc2, gw2⟩
              cases rest with
              | nil => cases hm
              | cons x r =>
                refine ⟨_, rfl, 1, rfl, wt, _, -1, .str x, rfl, rfl, SqL.of gw2, top_at x r, rfl, _, rfl, ?_⟩
                rw [dec_str]
                cases hx : (x == ("(" : Str)) with
                | true =>
                  have ep : popTo (x :: r) = ([], x :: r) := by
                    unfold popTo
                    rw [if_pos hx]
                  rw [ep] at h1 h2
                  refine iteF ⟨_, rfl, .inl ⟨rfl, _, SqL.of gw2⟩, rd_popS hw0 s2 gw2 fun G3 h3 h4 h5 => done G3 h3 ?_ ?_⟩
                  · rw [h5 c (Ne.symm cw), gc2, ← h1, List.append_nil]
                  · rw [h4, ← h2] <;> rfl
                | false =>
                  have ep : popTo (x :: r) = (x :: (popTo r).1, (popTo r).2) := by
                    show (if (x == ("(" : Str)) = true then _ else _) = _
                    rw [hx, if_neg Bool.false_ne_true]
                  rw [ep] at h1 h2
                  have hx2 : ("(" : Str) ∈ r := by
                    rcases List.mem_cons.mp hm with z | z
                    · rw [← z] at hx
                      simp at hx
                    · exact z
                  refine iteT ?_
                  exact ⟨_, rfl, .inl ⟨rfl, _, SqL.of gc2⟩, _, rfl, .inl ⟨rfl, _, SqL.of gw2⟩, rd_popS hw0 s2 gw2 fun G3 h3 h4 h5 => rd_appS (xs := code') hc h3 (by rw [h5 c (Ne.symm cw)]; exact gc2) (by rw [List.length_cons] at hl2; omega)
                    fun G4 h6 h7 h8 => ⟨⟨r, code' ++ [x], rfl, hx2, by rw [List.append_assoc]; exact h1, h2, by rw [List.length_append]; rw [List.length_cons] at hl2; show code'.length + 1 + r.length ≤ _; omega, h6, h7, by rw [h8 wt cw]; exact h4⟩, by
                      rw [h8 wt cw, h4, gw2, rev_map]
                      show (r.reverse.map V.str).length < (r.reverse.map V.str ++ [V.str x]).length
                      rw [List.length_append, List.length_singleton]
                      omega⟩⟩
            · rintro σ H Q Q' k ⟨x, hx, i, hi, p, xs, j, v, e1, e2, e3, e4, hs, b, e5, q⟩
              exact ⟨x, hx, i, hi, p, xs, j, v, e1, e2, e3, e4, hs, b, e5, k _ _ q⟩
          | false =>
            refine iteF ?_
            refine ⟨_, rfl, aO, operators.map V.str, rfl, .inr (hO _), rfl, flat_strs _, _, rfl, ?_⟩
            rw [in_val]
            cases c4 : operators.any fun y => y == s with
            | false =>
              have e : stepC cs s = (cs.1 ++ [s], cs.2) := by
                unfold stepC
                rw [e1, c3, c4] <;> rfl
              rw [e] at done
              exact iteF ⟨_, rfl, .inl ⟨rfl, _, SqL.of gc⟩, _, rfl, rd_appS (xs := cs.1) hc s1 gc (by omega) fun G' h1 h2 h3 => done G' h1 h2 (by rw [h3 wt cw]; exact gw)⟩
            | true =>
              have e : stepC cs s = (cs.1 ++ (popGe (rank s) cs.2).1, s :: (popGe (rank s) cs.2).2) := by
                unfold stepC
                rw [e1, c3, c4] <;> rfl
              rw [e] at done
              obtain ⟨tS, nS⟩ := hR s (ops_isOp c4)
              refine iteT ?_
              have fin : ∀ (rest code' : List Str) (G' : Hp), (popGe (rank s) rest) = ([], rest) → code' ++ (popGe (rank s) rest).1 = cs.1 ++ (popGe (rank s) cs.2).1 → (popGe (rank s) rest).2 = (popGe (rank s) cs.2).2 →
                  code'.length + rest.length ≤ l.length → Same H G' → G' c = some (.lst (code'.map V.str)) → G' wt = some (.lst (rest.reverse.map V.str)) →
                  rAppend (.ref wt) [.str s] G' (fun _ H' => ∃ o3, [some (.ref a), some (.ref c), some (.ref wt), some (.str s)] = [some (V.ref a), some (.ref c), some (.ref wt), o3] ∧ Same H H' ∧ H' c = some (.lst ((runC (l.take (i + 1))).1.map V.str)) ∧ H' wt = some (.lst ((runC (l.take (i + 1))).2.reverse.map V.str))) := by
                intro rest code' G' hp h1 h2 hl2 s2 gc2 gw2
                rw [hp] at h1 h2
                refine rd_appS (xs := rest.reverse) hw0 s2 gw2 (by rw [List.length_reverse]; omega) fun G3 h3 h4 h5 => done G3 h3 ?_ ?_
                · rw [h5 c (Ne.symm cw), gc2, ← h1, List.append_nil]
                · rw [h4, ← h2, List.reverse_cons]
              refine while_by (fun σ G' => ∃ rest code', σ = [some (.ref a), some (.ref c), some (.ref wt), some (.str s)] ∧ stackOk rest ∧ code' ++ (popGe (rank s) rest).1 = cs.1 ++ (popGe (rank s) cs.2).1 ∧ (popGe (rank s) rest).2 = (popGe (rank s) cs.2).2 ∧ code'.length + rest.length ≤ l.length ∧
                Same H G' ∧ G' c = some (.lst (code'.map V.str)) ∧ G' wt = some (.lst (rest.reverse.map V.str))) (fun _ G' => match G' wt with | some (.lst xs) => xs.length | _ => 0)
                ⟨cs.2, cs.1, rfl, hst, rfl, rfl, by omega, s1, gc, gw⟩ ?_ ?_
              · rintro σ G' ⟨rest, code', rfl, hm, h1, h2, hl2, s2, gc2, gw2⟩
                cases rest with
                | nil => exact ⟨_, rfl, false, .inl ⟨_, SqL.of gw2, rfl⟩, iteF (iteF ⟨_, rfl, .inl ⟨rfl, _, SqL.of gw2⟩, _, rfl, fin [] code' G' rfl h1 h2 hl2 s2 gc2 gw2⟩)⟩
                | cons x r =>
                  obtain ⟨tX, nX⟩ := hR x (hm x List.mem_cons_self)
                  refine ⟨_, rfl, true, .inl ⟨_, SqL.of gw2, by rw [rev_map]; simp⟩, iteT ?_⟩
                  refine ⟨_, rfl, 1, rfl, wt, _, -1, .str x, rfl, rfl, SqL.of gw2, top_at x r, x, _, .int (rank x), rfl, rfl, nX, ⟨_, rfl⟩, _, rfl, s, _, .int (rank s), rfl, rfl, nS, ⟨_, rfl⟩, _, _, rfl, rfl, _, rfl, ?_⟩
                  cases hx : decide (rank s ≤ rank x) with
                  | false =>
                    have ep : popGe (rank s) (x :: r) = ([], x :: r) := by
                      unfold popGe
                      rw [hx] <;> rfl
                    exact iteF ⟨_, rfl, .inl ⟨rfl, _, SqL.of gw2⟩, _, rfl, fin (x :: r) code' G' ep h1 h2 hl2 s2 gc2 gw2⟩
                  | true =>
                    have ep : popGe (rank s) (x :: r) = (x :: (popGe (rank s) r).1, (popGe (rank s) r).2) := by
                      show (if decide (rank s ≤ rank x) = true then _ else _) = _
                      rw [hx, if_pos rfl]
                    rw [ep] at h1 h2
                    refine iteT ?_
                    exact ⟨_, rfl, .inl ⟨rfl, _, SqL.of gc2⟩, _, rfl, .inl ⟨rfl, _, SqL.of gw2⟩, rd_popS hw0 s2 gw2 fun G3 h3 h4 h5 => rd_appS (xs := code') hc h3 (by rw [h5 c (Ne.symm cw)]; exact gc2) (by rw [List.length_cons] at hl2; omega)
                    fun G4 h6 h7 h8 => ⟨⟨r, code' ++ [x], rfl, fun y hy => hm y (List.mem_cons_of_mem _ hy), by rw [List.append_assoc]; exact h1, h2, by rw [List.length_append]; rw [List.length_cons] at hl2; show code'.length + 1 + r.length ≤ _; omega, h6, h7, by rw [h8 wt cw]; exact h4⟩, by
                      rw [h8 wt cw, h4, gw2, rev_map]
                      show (r.reverse.map V.str).length < (r.reverse.map V.str ++ [V.str x]).length
                      rw [List.length_append, List.length_singleton]
                      omega⟩⟩
              · rintro σ H Q Q' k ⟨x, hx, b, hb, q⟩
                refine ⟨x, hx, b, hb, ?_⟩
                cases b with
                | false =>
                  rw [if_neg Bool.false_ne_true] at q ⊢
                  exact k _ _ q
                | true =>
                  rw [if_pos rfl] at q ⊢
                  obtain ⟨x1, h1, i, hi, p, xs, j, v, e1, e2, e3, e4, z, u, v1, e5, e6, e7, e8, x2, h2, z2, u2, v2, e9, e10, e11, e12, n1, n2, e13, e14, b, e15, q⟩ := q
                  exact ⟨x1, h1, i, hi, p, xs, j, v, e1, e2, e3, e4, z, u, v1, e5, e6, e7, e8, x2, h2, z2, u2, v2, e9, e10, e11, e12, n1, n2, e13, e14, b, e15, k _ _ q⟩
    · rintro σ G ⟨o3, rfl, s1, gc, gw⟩
      rw [List.length_map, List.take_length] at gc gw
      have hln := runC_len l
      refine ⟨_, rfl, _, rfl, wt, _, rfl, SqL.of gw, fun p hp => ?_⟩
      have e : (upd G p (.lst ((runC l).2.reverse.map V.str).reverse)) p = some (.lst ((runC l).2.map V.str)) := by
        rw [upd_same, List.map_reverse, List.reverse_reverse]
      refine rd_cat (xs := (runC l).1) (same_new hp _ _ gc) e (by omega) fun p2 G2 s2 n2 e2 => ⟨p2, _, rfl, .inl ⟨SqL.of e2, fun t ht => q t _ ?_ ?_ upd_same⟩⟩
      · exact (s1.trans (same_new hp)).trans (s2.trans (same_new ht))
      · exact (s1.trans ((same_new hp).trans s2)).free ht
end
end Fx
set_option maxHeartbeats 2000000
namespace Fx
open PySem PySem.Spec PyProof.Rows L2 TL

/-! ### trees and their texts -/
inductive Fm where
  | leaf (s : Str)
  | neg (t : Fm)
  | bin (s : Str) (a b : Fm)
def post : Fm → List Str
  | .leaf s => [s]
  | .neg t => post t ++ [("not" : Str)]
  | .bin s a b => post a ++ post b ++ [s]
def isOper (s : Str) : Bool := operators.any fun y => y == s
def WF : Fm → Prop
  | .leaf s => isOper s = false
  | .neg t => WF t
  | .bin s a b => (s = "and" ∨ s = "or") ∧ WF a ∧ WF b
def brk (x : Str × Int) (k : Int) : Str := if decide (x.2 < k) then Str.empty ++ ("(" : Str) ++ x.1 ++ (")" : Str) else x.1
def negT (x : Str × Int) : Str × Int := (Str.empty ++ ("not" : Str) ++ (" " : Str) ++ brk x 3, 3)
def binT (s : Str) (x y : Str × Int) : Str × Int := (Str.empty ++ brk x (rank s) ++ (" " : Str) ++ (Str.empty ++ s ++ (" " : Str) ++ brk y (rank s)), rank s)
def trT : Fm → Str × Int
  | .leaf s => (s, 4)
  | .neg t => negT (trT t)
  | .bin s a b => binT s (trT a) (trT b)
/-- one sign of a code, the stack with its top first -/
def stepT (st : List (Str × Int)) (s : Str) : List (Str × Int) :=
  if isOper s then (if s == "not" then (match st with | x :: r => negT x :: r | [] => []) else (match st with | y :: x :: r => binT s x y :: r | _ => [])) else (s, 4) :: st
/-- the code asks of the stack what is there -/
def need (s : Str) : Nat := if isOper s then (if s == "not" then 1 else 2) else 0
def Fits : List Str → Nat → Prop
  | [], n => n = 1
  | s :: r, n => need s ≤ n ∧ Fits r (n + 1 - need s)
theorem not_bin {s : Str} (h : s = "and" ∨ s = "or") : isOper s = true ∧ (s == ("not" : Str)) = false := by
  rcases h with rfl | rfl <;> exact ⟨by decide +kernel, by decide +kernel⟩
theorem fold_post : ∀ (t : Fm) (st : List (Str × Int)), WF t → (post t).foldl stepT st = trT t :: st
  | .leaf s, st, h => by
    show stepT st s = _
    unfold stepT
    rw [show isOper s = false from h] <;> rfl
  | .neg t, st, h => by
    show (post t ++ [("not" : Str)]).foldl stepT st = _
    rw [List.foldl_append, fold_post t st h] <;> rfl
  | .bin s a b, st, h => by
    obtain ⟨hs, ha, hb⟩ := h
    obtain ⟨h1, h2⟩ := not_bin hs
    show (post a ++ post b ++ [s]).foldl stepT st = _
    rw [List.foldl_append, List.foldl_append, fold_post a st ha, fold_post b _ hb]
    show stepT (trT b :: trT a :: st) s = _
    unfold stepT
    rw [h1, h2] <;> rfl
theorem fits_app : ∀ (t : Fm) (l : List Str) (n : Nat), WF t → Fits l (n + 1) → Fits (post t ++ l) n
  | .leaf s, l, n, h, q => by
    have e : need s = 0 := by
      unfold need
      rw [show isOper s = false from h] <;> rfl
    show need s ≤ n ∧ Fits l (n + 1 - need s)
    rw [e]
    exact ⟨Nat.zero_le _, q⟩
  | .neg t, l, n, h, q => by
    show Fits ((post t ++ [("not" : Str)]) ++ l) n
    rw [List.append_assoc]
    refine fits_app t _ n h ?_
    have e : need ("not" : Str) = 1 := by decide +kernel
    show need ("not" : Str) ≤ n + 1 ∧ Fits l (n + 1 + 1 - need ("not" : Str))
    rw [e]
    exact ⟨by omega, by rw [show n + 1 + 1 - 1 = n + 1 by omega]; exact q⟩
  | .bin s a b, l, n, h, q => by
    obtain ⟨hs, ha, hb⟩ := h
    obtain ⟨h1, h2⟩ := not_bin hs
    have e : need s = 2 := by
      unfold need
      rw [h1, h2] <;> rfl
    show Fits ((post a ++ post b ++ [s]) ++ l) n
    rw [List.append_assoc, List.append_assoc]
    refine fits_app a _ n ha (fits_app b _ (n + 1) hb ?_)
    show need s ≤ n + 1 + 1 ∧ Fits l (n + 1 + 1 + 1 - need s)
    rw [e]
    exact ⟨by omega, by rw [show n + 1 + 1 + 1 - 2 = n + 1 by omega]; exact q⟩
theorem fits_post (t : Fm) (h : WF t) : Fits (post t) 0 := by
  have z := fits_app t [] 0 h rfl
  rw [List.append_nil] at z
  exact z
/-! ### sizes -/
def wt (l : List Str) : Nat := (l.map fun s => s.length + 6).sum
def size (st : List (Str × Int)) : Nat := (st.map fun x => x.1.length).sum
theorem len_app (a b : Str) : (a ++ b).length = a.length + b.length := by
  rw [len_tl, len_tl, len_tl, tl_append, List.length_append]
theorem len_brk (x : Str × Int) (k : Int) : (brk x k).length ≤ x.1.length + 2 := by
  unfold brk
  split
  · rw [len_app, len_app, len_app]
    show 0 + 1 + x.1.length + 1 ≤ _
    omega
  · omega
theorem size_step (st : List (Str × Int)) (s : Str) : size (stepT st s) ≤ size st + s.length + 6 := by
  unfold stepT
  cases h1 : isOper s with
  | false =>
    show s.length + size st ≤ _
    omega
  | true =>
    cases h2 : s == ("not" : Str) with
    | true =>
      cases st with
      | nil => exact Nat.zero_le _
      | cons x r =>
        have h := len_brk x 3
        show (negT x).1.length + size r ≤ x.1.length + size r + s.length + 6
        unfold negT
        rw [len_app, len_app, len_app]
        have e : s.length = 3 := by rw [eq_of_beq h2] <;> rfl
        show 0 + 3 + 1 + (brk x 3).length + size r ≤ _
        omega
    | false =>
      cases st with
      | nil => exact Nat.zero_le _
      | cons y r =>
        cases r with
        | nil => exact Nat.zero_le _
        | cons x r =>
          have hx := len_brk x (rank s)
          have hy := len_brk y (rank s)
          show (binT s x y).1.length + size r ≤ y.1.length + (x.1.length + size r) + s.length + 6
          unfold binT
          rw [len_app, len_app, len_app, len_app, len_app, len_app]
          show 0 + (brk x (rank s)).length + 1 + (0 + s.length + 1 + (brk y (rank s)).length) + size r ≤ _
          omega
theorem size_fold : ∀ (l : List Str) (st : List (Str × Int)), size (l.foldl stepT st) ≤ size st + wt l
  | [], _ => Nat.le_refl _
  | s :: l, st => by
    have h1 := size_fold l (stepT st s)
    have h2 := size_step st s
    show size (l.foldl stepT (stepT st s)) ≤ size st + (s.length + 6 + wt l)
    omega
theorem wt_take (l : List Str) (i : Nat) : wt (l.take i) ≤ wt l := by
  have e : wt l = wt (l.take i) + wt (l.drop i) := by
    unfold wt
    rw [← List.sum_append, ← List.map_append, List.take_append_drop]
  omega
/-! ### the rows: top first -/
def RowsAt (G : Hp) : List V → List (Str × Int) → Prop
  | [], [] => True
  | x :: xs, y :: ys => (∃ a, x = .ref a ∧ G a = some (.tup [.str y.1, .int y.2])) ∧ RowsAt G xs ys
  | _, _ => False
theorem RowsAt.len {G : Hp} : ∀ {xs : List V} {ys : List (Str × Int)}, RowsAt G xs ys → xs.length = ys.length
  | [], [], _ => rfl
  | _ :: _, _ :: _, h => by rw [List.length_cons, List.length_cons, RowsAt.len h.2]
  | [], _ :: _, h => h.elim
  | _ :: _, [], h => h.elim
theorem RowsAt.same {G G' : Hp} (s : Same G G') : ∀ {xs : List V} {ys : List (Str × Int)}, RowsAt G xs ys → RowsAt G' xs ys
  | [], [], _ => trivial
  | _ :: _, _ :: _, ⟨⟨a, e, h⟩, r⟩ => ⟨⟨a, e, s _ _ h⟩, RowsAt.same s r⟩
  | [], _ :: _, h => h.elim
  | _ :: _, [], h => h.elim
theorem RowsAt.move {G G' : Hp} {l : Addr} {zs : List V} (hl : G l = some (.lst zs)) (k : ∀ b, b ≠ l → G' b = G b) : ∀ {xs : List V} {ys : List (Str × Int)}, RowsAt G xs ys → RowsAt G' xs ys
  | [], [], _ => trivial
  | _ :: _, _ :: _, ⟨⟨a, e, h⟩, r⟩ => ⟨⟨a, e, by
      have ne : a ≠ l := ne_of h hl (by intro z; cases z)
      rw [k a ne]
      exact h⟩, RowsAt.move hl k r⟩
  | [], _ :: _, h => h.elim
  | _ :: _, [], h => h.elim
theorem rd_popV {H0 G : Hp} {l : Addr} {x : V} {xs : List V} {Q : VK} (hl : H0 l = none) (sm : Same H0 G) (h : G l = some (.lst (x :: xs).reverse))
    (k : ∀ G', Same H0 G' → G' l = some (.lst xs.reverse) → (∀ b, b ≠ l → G' b = G b) → Q x G') : rPop (.ref l) [] G Q := by
  rw [List.reverse_cons] at h
  refine ⟨l, _, x, rfl, rfl, h, ?_, k _ ?_ ?_ fun b hb => upd_ne hb⟩
  · simp
  · intro b u hb
    rw [upd_ne (ne_of_none hb hl)]
    exact sm b u hb
  · rw [upd_same, List.dropLast_concat]
theorem rd_appV {H0 G : Hp} {l : Addr} {xs : List V} {y : V} {Qd : Hp → Prop} (hl : H0 l = none) (s : Same H0 G) (h : G l = some (.lst xs.reverse)) (z : xs.length < sizeLine)
    (k : ∀ G', Same H0 G' → G' l = some (.lst (y :: xs).reverse) → (∀ b, b ≠ l → G' b = G b) → Qd G') : rAppend (.ref l) [y] G (fun _ H => Qd H) := by
  refine ⟨l, _, _, rfl, rfl, h, by rw [List.length_reverse]; exact z, k _ ?_ ?_ fun b hb => upd_ne hb⟩
  · intro b u hb
    rw [upd_ne (ne_of_none hb hl)]
    exact s b u hb
  · rw [upd_same, List.reverse_cons]
theorem notin_val (z : Str) (l : List Str) : (if (true : Bool) = true then !inV (.str z) (l.map V.str) else inV (.str z) (l.map V.str)) = !(l.any fun y => y == z) := by
  rw [if_pos rfl, inV_strs]
theorem len_stepT {st : List (Str × Int)} {s : Str} (h : need s ≤ st.length) : (stepT st s).length = st.length + 1 - need s := by
  unfold need at h ⊢
  unfold stepT
  cases h1 : isOper s with
  | false => rfl
  | true =>
    rw [h1] at h
    cases h2 : s == ("not" : Str) with
    | true =>
      rw [h2] at h
      cases st with
      | nil => exact absurd h (by decide)
      | cons x r => show (negT x :: r).length = (x :: r).length + 1 - 1; simp
    | false =>
      rw [h2] at h
      cases st with
      | nil => exact absurd h (by decide)
      | cons y r =>
        cases r with
        | nil => exact absurd h (by show ¬ (2 ≤ 1); decide)
        | cons x r => show (binT s x y :: r).length = (y :: x :: r).length + 1 - 2; simp
section
variable {P : Program} {w : World} {K : PySem.W.Frag} {mg : Str → Option Value} {base : Heap} {f fB : Addr} {fd fdB : FuncData}
/-! ### bracketed -/
def spBrk (K : PySem.W.Frag) : Sp := fun vs H Q _ => ∃ (a : Addr) (x : Str × Int) (k : Int), vs = [.ref a, .int k] ∧ SqT K H a [.str x.1, .int x.2] ∧ x.1.length ≤ 16000000 ∧ ∀ G, Same H G → Q (.str (brk x k)) G
theorem sc_brk : FnScope ["row", "rank", "text", "own"] ["row", "rank"] (defScope (tp 20)) := ⟨rfl, rfl, rfl, by decide +kernel, rfl, by decide +kernel, by decide +kernel⟩
theorem ok_brk (F : FnT K "bracketed" 20 f fd) : FnOk P w K mg base CX0 1 f fd ["row", "rank"] (spBrk K) := by
  refine F.ok sc_brk (fun vs H Q E h => ?_) (fun cdv A outer s H vs Q E hr h => ⟨_, PSs.nox (pss_cons (ps_asg (pv 0) (pg_tup rfl (pgs_cons (pg_name (i := 2) sc_brk.nd rfl (Or.inl rfl)) (pgs_cons (pg_name (i := 3) sc_brk.nd rfl (Or.inl rfl)) pgs_nil))))
      (pss_one (ps_ret (pe_ifExp (pt_cmpR op_lt (pv 3) (pv 1) (nomark _)) (pe_joined (PJ.cons pe_str (PJ.cons (pe_fmt (pv 2)) (PJ.cons pe_str PJ.nil)))) (pv 2))))), ?_⟩)
  · obtain ⟨a, x, k, rfl, _⟩ := h
    rfl
  · obtain ⟨a, x, k, rfl, hs, hl, q⟩ := h
    have line : (16000010 : Nat) ≤ sizeLine := by decide
    refine ⟨_, rfl, a, _, rfl, hs, rfl, _, _, rfl, _, _, rfl, rfl, ?_⟩
    have w1 := q H (Same.refl H)
    unfold brk at w1
    refine ⟨_, rfl, _, rfl, _, _, rfl, rfl, _, rfl, ?_⟩
    cases c : decide (x.2 < k) with
    | false =>
      rw [c, if_neg Bool.false_ne_true] at w1
      exact iteF ⟨_, rfl, w1⟩
    | true =>
      rw [c, if_pos rfl] at w1
      refine iteT ⟨_, rfl, ?_, _, rfl, .inl ⟨x.1, rfl, by omega, x.1, rfl, ?_, _, rfl, ?_, w1⟩⟩
      · decide
      · rw [len_app, len_app]
        show 0 + 1 + x.1.length ≤ _
        omega
      · rw [len_app, len_app, len_app]
        show 0 + 1 + x.1.length + 1 ≤ _
        omega
/-! ### text_of -/
structure TTxt (K : PySem.W.Frag) (w : World) (mg : Str → Option Value) : Prop where
  c : CTxt K w mg
  rw : ∃ t, mg "RANK_OF_WORDS" = some (.int 4 t)
def spText (K : PySem.W.Frag) : Sp := fun vs H Q _ => ∃ (a : Addr) (t : Fm), vs = [.ref a] ∧ SqT K H a ((post t).map V.str) ∧ WF t ∧ wt (post t) ≤ 4000000 ∧ ∀ G, Same H G → Q (.str (trT t).1) G
theorem sc_text : FnScope ["code", "rows", "sign", "rank", "text"] ["code"] (defScope (tp 19)) := ⟨rfl, rfl, rfl, by decide +kernel, rfl, by decide +kernel, by decide +kernel⟩
theorem ok_text (F : FnT K "text_of" 19 f fd) (T : TTxt K w mg) (FB : FnT K "bracketed" 20 fB fdB) (gB : mg "bracketed" = some (.ref fB)) : FnOk P w K mg base CX0 2 f fd ["code"] (spText K) := by
  have GB : FnOk P w K mg base CX0 1 fB fdB ["row", "rank"] (spBrk K) := ok_brk FB
  have bB : L2.Binds K fdB ["row", "rank"] [] := FB.bindsN fun _ _ _ _ _ _ us hl => match us, hl with | [_, _], _ => rfl
  obtain ⟨aO, gO, hO⟩ := T.c.n.operators
  obtain ⟨aR, es, n, gR, DR, hR⟩ := T.c.ranks
  obtain ⟨tK, gK⟩ := T.rw
  refine F.ok sc_text (fun vs H Q E h => ?_) (fun cdv A outer s H vs Q E hr h => ⟨_, PSs.nox (pss_cons (ps_set (i := 1) sc_text.nd rfl (Or.inl rfl) (pe_lst pa_nil))
      (pss_cons (ps_for PassesOwn.never rfl (pi_tup (pv 0)) (pg_name (i := 2) sc_text.nd rfl (Or.inl rfl)) (pss_cons (ps_if (pt_cmpR op_notIn_seq (pv 2) (pe_glob (v := .ref aO) rfl gO rfl) (by rfl)) (pss_cons (ps_expr (pe_bm PySem.F.plainAttrs_list PySem.F.slot_list_append PySem.F.type_list_append mt_append (pv 1) (pa_cons (pe_tup (pa_cons (pv 2) (pa_cons (pe_glob (v := .int 4) rfl gK ⟨_, rfl⟩) pa_nil))) pa_nil)))
      (pss_one (ps_continue))) pss_nil)
      (pss_cons (ps_set (i := 3) sc_text.nd rfl (Or.inl rfl) (pe_ix (ix_kd DR) (pe_glob (v := .ref aR) rfl gR rfl) (pv 2) (fun _ _ => rfl)))
      (pss_cons (ps_set (i := 4) sc_text.nd rfl (Or.inl rfl) (pe_joined (PJ.cons (pe_fmt (pv 2)) (PJ.cons pe_str (PJ.cons (pe_fmt (pe_call GB hr rfl gB FB.kp bB .nil pass0 (pa_cons (pe_bm0 PySem.F.plainAttrs_list PySem.F.slot_list_pop PySem.F.type_list_pop mt_pop (pv 1)) (pa_cons (pv 3) pa_nil)))) PJ.nil)))))
      (pss_cons (ps_if (pt_cmpR op_ne (pv 2) pe_str (nomark _)) (pss_one (ps_set (i := 4) sc_text.nd rfl (Or.inl rfl) (pe_joined (PJ.cons (pe_fmt (pe_call GB hr rfl gB FB.kp bB .nil pass0 (pa_cons (pe_bm0 PySem.F.plainAttrs_list PySem.F.slot_list_pop PySem.F.type_list_pop mt_pop (pv 1)) (pa_cons (pv 3) pa_nil)))) (PJ.cons pe_str (PJ.cons (pe_fmt (pv 4)) PJ.nil)))))) pss_nil)
      (pss_one (ps_expr (pe_bm PySem.F.plainAttrs_list PySem.F.slot_list_append PySem.F.type_list_append mt_append (pv 1) (pa_cons (pe_tup (pa_cons (pv 4) (pa_cons (pv 3) pa_nil))) pa_nil)))))))))
      (pss_one (ps_ret (pe_ix ix_tup (pe_ix ix_list (pv 1) pe_int (fun _ _ => rfl)) pe_int (fun _ _ => rfl)))))), ?_⟩)
  · obtain ⟨a, t, rfl, _⟩ := h
    rfl
  · obtain ⟨a, t, rfl, hs, wf, hw, q⟩ := h
    have line : (16000010 : Nat) ≤ sizeLine := by decide
    have hf := fits_post t wf
    have hfold := fold_post t [] wf
    generalize post t = code at hs hw hf hfold
    refine ⟨Nat.zero_le _, fun rw_ hrw => ?_⟩
    have s0 := same_new hrw (u := .lst [])
    have seqT : ∀ G, Same H G → SqT K G a (code.map V.str) := fun G sm => by
      rcases hs with (h | ⟨o, h⟩) | h
      · exact .inl (.inl (sm _ _ h))
      · exact .inl (.inr ⟨o, sm _ _ h⟩)
      · exact .inr h
    refine ⟨_, rfl, a, rfl, ⟨_, seqT _ s0⟩, for_tup (K := K) (a := a) (xs := code.map V.str)
      (fun i σ G => ∃ st xs o2 o3 o4, st = (code.take i).foldl stepT [] ∧ σ = [some (.ref a), some (.ref rw_), o2, o3, o4] ∧ Same H G ∧ G rw_ = some (.lst (List.reverse xs)) ∧ RowsAt G xs st ∧ Fits (code.drop i) st.length)
      ⟨[], [], none, none, none, rfl, rfl, s0, upd_same, trivial, hf⟩ (fun i σ G _ h => by
        obtain ⟨_, _, _, _, _, _, _, h, _⟩ := h
        exact seqT G h) ?_ ?_⟩
    · rintro i x σ G hi ⟨st, xs, o2, o3, o4, hst, rfl, s1, gr, rows, fits⟩
      obtain ⟨s, hsi, rfl⟩ : ∃ s, code[i]? = some s ∧ x = V.str s := by
        rw [List.getElem?_map] at hi
        cases e : code[i]? with
        | none =>
          rw [e] at hi
          cases hi
        | some s =>
          rw [e] at hi
          exact ⟨s, rfl, (Option.some.inj hi).symm⟩
      have hlt := (List.getElem?_eq_some_iff.mp hsi).1
      have edrop : code.drop i = s :: code.drop (i + 1) := by
        rw [List.drop_eq_getElem_cons hlt, (List.getElem?_eq_some_iff.mp hsi).2]
      rw [edrop] at fits
      obtain ⟨f1, f2⟩ := fits
      have hnext : (code.take (i + 1)).foldl stepT [] = stepT st s := by
        rw [take_snoc hsi, List.foldl_append, ← hst] <;> rfl
      have hsize : size st ≤ 4000000 := by
        have w1 := size_fold (code.take i) []
        rw [← hst] at w1
        have w2 := wt_take code i
        have w3 : size [] = 0 := rfl
        omega
      have hslen : s.length ≤ 4000000 := by
        have w2 := wt_take code (i + 1)
        rw [take_snoc hsi] at w2
        have w3 : wt (code.take i ++ [s]) = wt (code.take i) + (s.length + 6) := by
          unfold wt
          rw [List.map_append, List.sum_append] <;> rfl
        omega
      have hxl := rows.len
      have hstl : st.length ≤ code.length := by
        have key : ∀ (l : List Str) (q : List (Str × Int)), (l.foldl stepT q).length ≤ q.length + l.length := by
          intro l
          induction l with
          | nil => intro q; exact Nat.le_refl _
          | cons y l ih =>
            intro q
            have w1 := ih (stepT q y)
            have w2 : (stepT q y).length ≤ q.length + 1 := by
              unfold stepT
              split
              · split
                · split <;> simp
                · split <;> simp
              · simp
            show (l.foldl stepT (stepT q y)).length ≤ q.length + (l.length + 1)
            omega
        have w1 := key (code.take i) []
        rw [← hst] at w1
        have w2 := List.length_take_le i code
        simp only [List.length_nil] at w1
        have w3 := List.length_take_le' i code
        omega
      have hcl : code.length ≤ 4000000 := by
        have key : ∀ l : List Str, l.length ≤ wt l := by
          intro l
          induction l with
          | nil => exact Nat.le_refl _
          | cons y l ih =>
            show l.length + 1 ≤ y.length + 6 + wt l
            omega
        have w1 := key code
        omega
      have f3 : Fits (code.drop (i + 1)) (stepT st s).length := by
        rw [len_stepT f1]
        exact f2
      have done : ∀ (G' : Hp) (p : V) (zs : List V) (o3 o4 : Option V), Same H G' → G' rw_ = some (.lst (List.reverse zs)) → RowsAt G' zs (stepT st s) →
          ∃ st xs o2 o3' o4', st = (code.take (i + 1)).foldl stepT [] ∧ [some (.ref a), some (.ref rw_), some (.str s), o3, o4] = [some (V.ref a), some (.ref rw_), o2, o3', o4'] ∧ Same H G' ∧ G' rw_ = some (.lst (List.reverse xs)) ∧ RowsAt G' xs st ∧ Fits (code.drop (i + 1)) st.length := by
        intro G' p zs o3 o4 h1 h2 h3
        exact ⟨stepT st s, zs, _, _, _, hnext.symm, rfl, h1, h2, h3, f3⟩
      refine ⟨_, rfl, aO, operators.map V.str, rfl, .inr (hO _), rfl, flat_strs _, _, rfl, ?_⟩
      rw [notin_val]
      cases c1 : operators.any fun y => y == s with
      | false =>
        have est : stepT st s = (s, 4) :: st := by
          unfold stepT
          rw [show isOper s = false from c1] <;> rfl
        refine iteT ⟨_, rfl, .inl ⟨rfl, _, SqL.of gr⟩, _, rfl, (by show 2 ≤ sizeLine; decide), fun p hp => ?_⟩
        refine rd_appV hrw (s1.trans (same_new hp)) (same_new hp _ _ gr) (by omega) fun G' h1 h2 h3 => ?_
        refine done G' (.ref p) _ _ _ h1 h2 ?_
        rw [est]
        refine ⟨⟨p, rfl, ?_⟩, (rows.same (same_new hp)).move (same_new hp _ _ gr) h3⟩
        have ne : p ≠ rw_ := fun e => by rw [e, gr] at hp; cases hp
        rw [h3 p ne, upd_same]
      | true =>
        obtain ⟨tS, nS⟩ := hR s (ops_isOp c1)
        refine iteF ⟨_, rfl, s, _, .int (rank s), rfl, rfl, nS, ⟨_, rfl⟩, ?_⟩
        have need1 : 1 ≤ st.length := by
          unfold need at f1
          rw [show isOper s = true from c1] at f1
          cases h2 : s == ("not" : Str) with
          | true => rw [h2] at f1; exact f1
          | false => rw [h2] at f1; exact Nat.le_trans (by decide) f1
        obtain ⟨y, ys, rfl⟩ : ∃ y ys, st = y :: ys := by
          cases st with
          | nil => exact absurd need1 (by decide)
          | cons y ys => exact ⟨y, ys, rfl⟩
        cases xs with
        | nil => exact rows.elim
        | cons x1 xs1 =>
          obtain ⟨⟨a1, rfl, ha1⟩, rows1⟩ := rows
          have lb := len_brk y (rank s)
          have sy : y.1.length + size ys ≤ 4000000 := hsize
          refine ⟨_, rfl, .inl ⟨s, rfl, by omega, s, rfl, by rw [len_app]; show 0 + s.length ≤ _; omega, _, rfl, by rw [len_app, len_app]; show 0 + s.length + 1 ≤ _; omega, ?_⟩⟩
          refine ⟨_, rfl, .inl ⟨rfl, _, SqL.of gr⟩, rd_popV hrw s1 gr fun G1 h1 h2 h3 => ?_⟩
          have ga1 : G1 a1 = some (.tup [.str y.1, .int y.2]) := by
            rw [h3 a1 (ne_of ha1 gr (by intro z; cases z))]
            exact ha1
          refine ⟨_, rfl, a1, y, rank s, rfl, SqT.of ga1, by omega, fun G2 s2 => .inl ⟨_, rfl, by omega, _, rfl, by rw [len_app, len_app, len_app]; show 0 + s.length + 1 + (brk y (rank s)).length ≤ _; omega, ?_⟩⟩
          have rows2 := (rows1.move gr h3).same s2
          have gr2 := s2 _ _ h2
          have s12 := h1.trans s2
          refine ⟨_, rfl, rfl, _, rfl, ?_⟩
          rw [dec_str]
          have finish : ∀ (T : Str) (zs : List V) (ys2 : List (Str × Int)) (G3 : Hp), Same H G3 → G3 rw_ = some (.lst (List.reverse zs)) → RowsAt G3 zs ys2 → zs.length ≤ 4000000 → stepT (y :: ys) s = (T, rank s) :: ys2 →
              ∀ p, G3 p = none → rAppend (.ref rw_) [.ref p] (upd G3 p (.tup [.str T, .int (rank s)])) (fun _ G' => ∃ st xs o2 o3' o4', st = (code.take (i + 1)).foldl stepT [] ∧ [some (.ref a), some (.ref rw_), some (.str s), some (.int (rank s)), some (.str T)] = [some (V.ref a), some (.ref rw_), o2, o3', o4'] ∧ Same H G' ∧ G' rw_ = some (.lst (List.reverse xs)) ∧ RowsAt G' xs st ∧ Fits (code.drop (i + 1)) st.length) := by
            intro T zs ys2 G3 k1 k2 k3 k4 k5 p hp
            refine rd_appV hrw (k1.trans (same_new hp)) (same_new hp _ _ k2) (by omega) fun G' h1 h2 h3 => ?_
            refine done G' (.ref p) _ _ _ h1 h2 ?_
            rw [k5]
            refine ⟨⟨p, rfl, ?_⟩, (k3.same (same_new hp)).move (same_new hp _ _ k2) h3⟩
            have ne : p ≠ rw_ := fun e => by rw [e, k2] at hp; cases hp
            rw [h3 p ne, upd_same]
          cases c2 : (s == ("not" : Str)) with
          | true =>
            have es : s = "not" := eq_of_beq c2
            have est : stepT (y :: ys) s = (Str.empty ++ s ++ (" " : Str) ++ brk y (rank s), rank s) :: ys := by
              rw [es] <;> rfl
            refine iteF ⟨_, rfl, .inl ⟨rfl, _, SqL.of gr2⟩, _, rfl, _, rfl, (by show 2 ≤ sizeLine; decide), fun p hp => ?_⟩
            have l1 := rows2.len
            exact finish _ _ _ _ s12 gr2 rows2 (by rw [List.length_cons] at hstl; omega) est p hp
          | false =>
            have need2 : 1 ≤ ys.length := by
              unfold need at f1
              rw [show isOper s = true from c1, c2] at f1
              have : 2 ≤ ys.length + 1 := f1
              omega
            obtain ⟨x, r, rfl⟩ : ∃ x r, ys = x :: r := by
              cases ys with
              | nil => exact absurd need2 (by decide)
              | cons y ys => exact ⟨y, ys, rfl⟩
            have est : stepT (y :: x :: r) s = (Str.empty ++ brk x (rank s) ++ (" " : Str) ++ (Str.empty ++ s ++ (" " : Str) ++ brk y (rank s)), rank s) :: r := by
              unfold stepT
              rw [show isOper s = true from c1, c2] <;> rfl
            cases xs1 with
            | nil => exact rows2.elim
            | cons x2 xs2 =>
              obtain ⟨⟨a2, rfl, ha2⟩, rows3⟩ := rows2
              have lb2 := len_brk x (rank s)
              have sy2 : y.1.length + (x.1.length + size r) ≤ 4000000 := hsize
              refine iteT ?_
              refine ⟨_, rfl, .inl ⟨rfl, _, SqL.of gr2⟩, rd_popV hrw s12 gr2 fun G3 h4 h5 h6 => ?_⟩
              have ga2 : G3 a2 = some (.tup [.str x.1, .int x.2]) := by
                rw [h6 a2 (ne_of ha2 gr2 (by intro z; cases z))]
                exact ha2
              have lt : (Str.empty ++ s ++ (" " : Str) ++ brk y (rank s)).length = s.length + 1 + (brk y (rank s)).length := by
                rw [len_app, len_app, len_app]
                show 0 + s.length + 1 + _ = _
                omega
              have lx : (Str.empty ++ brk x (rank s)).length = (brk x (rank s)).length := by
                rw [len_app]
                show 0 + _ = _
                omega
              refine ⟨_, rfl, a2, x, rank s, rfl, SqT.of ga2, by omega, fun G4 s4 => .inl ⟨_, rfl, by omega, _, rfl, by rw [lx]; omega, _, rfl, by rw [len_app, lx]; show (brk x (rank s)).length + 1 ≤ _; omega, ?_⟩⟩
              refine ⟨_, rfl, .inl ⟨_, rfl, by rw [lt]; omega, _, rfl, by rw [len_app, len_app, lx, lt]; show (brk x (rank s)).length + 1 + _ ≤ _; omega, ?_⟩⟩
              have rows4 := (rows3.move gr2 h6).same s4
              have gr4 := s4 _ _ h5
              refine ⟨_, rfl, .inl ⟨rfl, _, SqL.of gr4⟩, _, rfl, _, rfl, (by show 2 ≤ sizeLine; decide), fun p hp => ?_⟩
              have l1 := rows4.len
              exact finish _ _ _ _ (h4.trans s4) gr4 rows4 (by rw [List.length_cons, List.length_cons] at hstl; omega) est p hp
    · rintro σ G ⟨st, xs, o2, o3, o4, hst, rfl, s1, gr, rows, fits⟩
      rw [List.length_map, List.take_length, hfold] at hst
      subst hst
      cases xs with
      | nil => exact rows.elim
      | cons x xs =>
        cases xs with
        | cons y ys => exact rows.2.elim
        | nil =>
          obtain ⟨⟨p, rfl, hp⟩, _⟩ := rows
          refine ⟨_, rfl, rw_, _, 0, .ref p, rfl, rfl, SqL.of gr, rfl, p, _, 0, .str (trT t).1, rfl, rfl, SqT.of hp, rfl, q G s1⟩
end
end Fx
set_option maxHeartbeats 2000000
namespace Fx
open PySem PySem.Spec PyProof.Rows L2 TL

/-! ### Formula objects -/
/-- at a: a Formula whose code is l -/
def FmAt (H : Hp) (C a : Addr) (l : List Str) : Prop := ∃ dx p, H a = some (.ins C dx [("code", .ref p)]) ∧ H p = some (.tup (l.map V.str))
theorem FmAt.same {H G : Hp} {C a : Addr} {l : List Str} (s : Same H G) (h : FmAt H C a l) : FmAt G C a l := by
  obtain ⟨dx, p, h1, h2⟩ := h
  exact ⟨dx, p, s _ _ h1, s _ _ h2⟩
structure FCls (K : PySem.W.Frag) (C : Addr) : Prop where
  cl : Cls K C
  nc : NoAttr K C "code"
/-! ### words_of -/
def isConst (s : Str) : Bool := constants.any fun y => y == s
def addWord (acc : List Str) (s : Str) : List Str := if !isOper s && (!isConst s && !(acc.any fun y => y == s)) then acc ++ [s] else acc
def wordsOf (l : List Str) : List Str := l.foldl addWord []
theorem words_len : ∀ (l acc : List Str), (l.foldl addWord acc).length ≤ acc.length + l.length
  | [], _ => Nat.le_refl _
  | s :: l, acc => by
    have h1 := words_len l (addWord acc s)
    have h2 : (addWord acc s).length ≤ acc.length + 1 := by
      unfold addWord
      split
      · rw [List.length_append, List.length_singleton]
        exact Nat.le_refl _
      · omega
    show (l.foldl addWord (addWord acc s)).length ≤ acc.length + (l.length + 1)
    omega
def FmsAt (H : Hp) (C : Addr) : List V → List (List Str) → Prop
  | [], [] => True
  | x :: xs, l :: ls => (∃ a, x = .ref a ∧ FmAt H C a l) ∧ FmsAt H C xs ls
  | _, _ => False
theorem FmsAt.same {H G : Hp} {C : Addr} (s : Same H G) : ∀ {xs : List V} {ls : List (List Str)}, FmsAt H C xs ls → FmsAt G C xs ls
  | [], [], _ => trivial
  | _ :: _, _ :: _, ⟨⟨a, e, h⟩, r⟩ => ⟨⟨a, e, h.same s⟩, FmsAt.same s r⟩
  | [], _ :: _, h => h.elim
  | _ :: _, [], h => h.elim
theorem FmsAt.at {H : Hp} {C : Addr} : ∀ {xs : List V} {ls : List (List Str)} {i : Nat} {x : V}, FmsAt H C xs ls → xs[i]? = some x → ∃ a l, x = .ref a ∧ ls[i]? = some l ∧ FmAt H C a l
  | [], _, _, _, _, e => by simp at e
  | x :: xs, l :: ls, 0, y, ⟨⟨a, e1, h⟩, _⟩, e => by
    have e2 : x = y := by simpa using e
    subst e2
    exact ⟨a, l, e1, rfl, h⟩
  | x :: xs, l :: ls, i + 1, y, ⟨_, r⟩, e => by
    have e2 : xs[i]? = some y := by simpa using e
    obtain ⟨a, m, h1, h2, h3⟩ := FmsAt.at r e2
    exact ⟨a, m, h1, by simpa using h2, h3⟩
  | _ :: _, [], _, _, h, _ => h.elim
theorem FmsAt.len {H : Hp} {C : Addr} : ∀ {xs : List V} {ls : List (List Str)}, FmsAt H C xs ls → xs.length = ls.length
  | [], [], _ => rfl
  | _ :: _, _ :: _, h => by rw [List.length_cons, List.length_cons, FmsAt.len h.2]
  | [], _ :: _, h => h.elim
  | _ :: _, [], h => h.elim
section
variable {P : Program} {w : World} {K : PySem.W.Frag} {mg : Str → Option Value} {base : Heap} {f C : Addr} {fd : FuncData}
def spWords (K : PySem.W.Frag) (C : Addr) : Sp := fun vs H Q _ => ∃ (a : Addr) (xs : List V) (ls : List (List Str)), vs = [.ref a] ∧ SqL K H a xs ∧ FmsAt H C xs ls ∧ ls.flatten.length ≤ 4000000 ∧
  ∀ p G, Same H G → H p = none → G p = some (.lst ((wordsOf ls.flatten).map V.str)) → Q (.ref p) G
theorem sc_words : FnScope ["formulas", "words", "formula", "sign"] ["formulas"] (defScope (tp 21)) := ⟨rfl, rfl, rfl, by decide +kernel, rfl, by decide +kernel, by decide +kernel⟩
theorem ok_words (F : FnT K "words_of" 21 f fd) (T : NTxt K mg) (X : FCls K C) : FnOk P w K mg base CX0 1 f fd ["formulas"] (spWords K C) := by
  obtain ⟨aO, gO, hO⟩ := T.operators
  obtain ⟨aC, gC, hC⟩ := T.constants
  refine F.ok sc_words (fun vs H Q E h => ?_) (fun cdv A outer s H vs Q E hr h => ⟨_, PSs.nox (pss_cons (ps_set (i := 1) sc_words.nd rfl (Or.inl rfl) (pe_lst pa_nil))
      (pss_cons (ps_for PassesOwn.never rfl (pi_list (pv 0)) (pg_name (i := 2) sc_words.nd rfl (Or.inl rfl)) (pss_one (ps_for PassesOwn.never rfl (pi_tup (pe_fld (pv 2) rfl)) (pg_name (i := 3) sc_words.nd rfl (Or.inl rfl)) (pss_one (ps_if (PW.pt (pw_and (pt_cmpR op_notIn_seq (pv 3) (pe_glob (v := .ref aO) rfl gO rfl) (by rfl)) (pw_and (pt_cmpR op_notIn_seq (pv 3) (pe_glob (v := .ref aC) rfl gC rfl) (by rfl)) (pw_and1 (pt_cmpR op_notIn_seq (pv 3) (pv 1) (by rfl)))))) (pss_one (ps_expr (pe_bm PySem.F.plainAttrs_list PySem.F.slot_list_append PySem.F.type_list_append mt_append (pv 1) (pa_cons (pv 3) pa_nil)))) pss_nil)))))
      (pss_one (ps_ret (pv 1))))), ?_⟩)
  · obtain ⟨a, xs, ls, rfl, _⟩ := h
    rfl
  · obtain ⟨a, xs, ls, rfl, hs, fms, hln, q⟩ := h
    have line : (4000010 : Nat) ≤ sizeLine := by decide
    refine ⟨Nat.zero_le _, fun wd hwd => ?_⟩
    have s0 := same_new hwd (u := .lst [])
    refine ⟨_, rfl, a, rfl, ⟨_, s0.seq hs⟩, for_list (K := K) (a := a) (xs := xs)
      (fun i σ G => ∃ o2 o3, σ = [some (.ref a), some (.ref wd), o2, o3] ∧ Same H G ∧ G wd = some (.lst (((ls.take i).flatten.foldl addWord []).map V.str)))
      ⟨none, none, rfl, s0, upd_same⟩ (fun i σ G _ h => by
        obtain ⟨_, _, _, h, _⟩ := h
        exact h.seq hs) ?_ (fun σ G h => by
        obtain ⟨o2, o3, rfl, s1, g⟩ := h
        rw [fms.len, List.take_length] at g
        exact ⟨_, rfl, q _ _ s1 hwd g⟩)⟩
    rintro i x σ G hi ⟨o2, o3, rfl, s1, g⟩
    obtain ⟨b, l, rfl, hl, fm⟩ := fms.at hi
    obtain ⟨dx, p, i1, i2⟩ := fm.same s1
    have et : (ls.take (i + 1)).flatten = (ls.take i).flatten ++ l := by
      rw [take_snoc hl, List.flatten_append, List.flatten_cons, List.flatten_nil, List.append_nil]
    have hbase : (ls.take i).flatten.length + l.length ≤ 4000000 := by
      have w1 : (ls.take (i + 1)).flatten.length ≤ ls.flatten.length := by
        have e2 : ls.flatten = (ls.take (i + 1)).flatten ++ (ls.drop (i + 1)).flatten := by
          rw [← List.flatten_append, List.take_append_drop]
        rw [e2, List.length_append]
        omega
      rw [et, List.length_append] at w1
      omega
    refine ⟨_, rfl, b, C, dx, _, _, rfl, i1, X.cl, X.nc, rfl, p, rfl, ⟨_, SqT.of i2⟩, for_tup (K := K) (a := p) (xs := l.map V.str)
      (fun j σ G' => ∃ o3, σ = [some (.ref a), some (.ref wd), some (.ref b), o3] ∧ Same H G' ∧ G' p = some (.tup (l.map V.str)) ∧ G' wd = some (.lst (((l.take j).foldl addWord ((ls.take i).flatten.foldl addWord [])).map V.str)))
      ⟨o3, rfl, s1, i2, g⟩ (fun j σ G' _ h => by
        obtain ⟨_, _, _, h, _⟩ := h
        exact SqT.of h) ?_ (fun σ G' h => by
        obtain ⟨o3, rfl, s2, _, g2⟩ := h
        rw [List.length_map, List.take_length] at g2
        exact ⟨_, _, rfl, s2, by rw [et, List.foldl_append]; exact g2⟩)⟩
    rintro j x σ G' hj ⟨o3, rfl, s2, hp, g2⟩
    obtain ⟨s, hsj, rfl⟩ : ∃ s, l[j]? = some s ∧ x = V.str s := by
      rw [List.getElem?_map] at hj
      cases e : l[j]? with
      | none =>
        rw [e] at hj
        cases hj
      | some s =>
        rw [e] at hj
        exact ⟨s, rfl, (Option.some.inj hj).symm⟩
    have en : (l.take (j + 1)).foldl addWord ((ls.take i).flatten.foldl addWord []) = addWord ((l.take j).foldl addWord ((ls.take i).flatten.foldl addWord [])) s := by
      rw [take_snoc hsj, List.foldl_append] <;> rfl
    have hacc : ((l.take j).foldl addWord ((ls.take i).flatten.foldl addWord [])).length ≤ 4000000 := by
      have w1 := words_len (l.take j) ((ls.take i).flatten.foldl addWord [])
      have w2 := words_len (ls.take i).flatten []
      have w3 := List.length_take_le' j l
      simp only [List.length_nil] at w2
      omega
    rw [en]
    generalize (l.take j).foldl addWord ((ls.take i).flatten.foldl addWord []) = acc at g2 hacc ⊢
    have keep : addWord acc s = acc → ∃ o3, [some (.ref a), some (.ref wd), some (.ref b), some (.str s)] = [some (V.ref a), some (.ref wd), some (.ref b), o3] ∧ Same H G' ∧ G' p = some (.tup (l.map V.str)) ∧ G' wd = some (.lst ((addWord acc s).map V.str)) := fun e => ⟨_, rfl, s2, hp, by rw [e]; exact g2⟩
    refine ⟨_, rfl, aO, operators.map V.str, rfl, .inr (hO _), rfl, flat_strs _, _, rfl, ?_⟩
    rw [notin_val]
    cases c1 : operators.any fun y => y == s with
    | true => exact iteF (iteF (keep (by unfold addWord; rw [show isOper s = true from c1] <;> rfl)))
    | false =>
      refine iteT ⟨_, rfl, aC, constants.map V.str, rfl, .inr (hC _), rfl, flat_strs _, _, rfl, ?_⟩
      rw [notin_val]
      cases c2 : constants.any fun y => y == s with
      | true => exact iteF (iteF (keep (by unfold addWord; rw [show isOper s = false from c1, show isConst s = true from c2] <;> rfl)))
      | false =>
        refine iteT ⟨_, rfl, _, rfl, wd, acc.map V.str, rfl, .inl (SqL.of g2), rfl, flat_strs _, _, rfl, ?_⟩
        rw [notin_val]
        cases c3 : acc.any fun y => y == s with
        | true => exact iteF (keep (by unfold addWord; rw [show isOper s = false from c1, show isConst s = false from c2, c3] <;> rfl))
        | false =>
          have e : addWord acc s = acc ++ [s] := by
            unfold addWord
            rw [show isOper s = false from c1, show isConst s = false from c2, c3] <;> rfl
          refine iteT ⟨_, rfl, .inl ⟨rfl, _, SqL.of g2⟩, _, rfl, rd_appS (xs := acc) hwd s2 g2 (by omega) fun G3 h1 h2 h3 => ⟨_, rfl, h1, ?_, ?_⟩⟩
          · rw [h3 p (ne_of hp g2 (by intro z; cases z))]
            exact hp
          · rw [e]
            exact h2
/-! ### worth -/
def evalT (col : Str → Int) (full : Int) : Fm → Int
  | .leaf s => if isConst s then (if s == "all" then full else 0) else col s
  | .neg t => Builtin.bitXor full (evalT col full t)
  | .bin s a b => if s == "and" then Builtin.bitAnd (evalT col full b) (evalT col full a) else Builtin.bitOr (evalT col full b) (evalT col full a)
def stepW (col : Str → Int) (full : Int) (st : List Int) (s : Str) : List Int :=
  if s == "not" then (match st with | x :: r => Builtin.bitXor full x :: r | [] => [])
  else if s == "and" then (match st with | y :: x :: r => Builtin.bitAnd y x :: r | _ => [])
  else if s == "or" then (match st with | y :: x :: r => Builtin.bitOr y x :: r | _ => [])
  else (if isConst s then (if s == "all" then full else 0) else col s) :: st
theorem oper_cases (s : Str) : isOper s = (s == "and" || (s == "or" || s == "not")) := by
  have sw : ∀ a b : Str, (a == b) = (b == a) := fun a b => by
    by_cases e : a = b
    · rw [e]
    · rw [beq_eq_false_iff_ne.mpr e, beq_eq_false_iff_ne.mpr (Ne.symm e)]
  show (("and" : Str) == s || (("or" : Str) == s || (("not" : Str) == s || false))) = _
  rw [sw s, sw s, sw s, Bool.or_false]
theorem fold_worth (col : Str → Int) (full : Int) : ∀ (t : Fm) (st : List Int), WF t → (post t).foldl (stepW col full) st = evalT col full t :: st
  | .leaf s, st, h => by
    have h2 := oper_cases s
    rw [show isOper s = false from h] at h2
    have h3 := h2.symm
    simp only [Bool.or_eq_false_iff] at h3
    obtain ⟨a, b, c⟩ := h3
    show stepW col full st s = _
    unfold stepW
    rw [a, b, c] <;> rfl
  | .neg t, st, h => by
    show (post t ++ [("not" : Str)]).foldl (stepW col full) st = _
    rw [List.foldl_append, fold_worth col full t st h] <;> rfl
  | .bin s a b, st, h => by
    obtain ⟨hs, ha, hb⟩ := h
    show (post a ++ post b ++ [s]).foldl (stepW col full) st = _
    rw [List.foldl_append, List.foldl_append, fold_worth col full a st ha, fold_worth col full b _ hb]
    rcases hs with rfl | rfl <;> rfl
theorem len_stepW {col : Str → Int} {full : Int} {st : List Int} {s : Str} (h : need s ≤ st.length) : (stepW col full st s).length = st.length + 1 - need s := by
  unfold need at h ⊢
  rw [oper_cases] at h ⊢
  unfold stepW
  cases h1 : s == ("not" : Str) with
  | true =>
    rw [h1] at h
    simp only [Bool.or_true, if_true] at h ⊢
    cases st with
    | nil => exact absurd h (by show ¬ (1 ≤ 0); decide)
    | cons x r => show (r.length + 1) = r.length + 1 + 1 - 1; omega
  | false =>
    rw [h1] at h
    cases h2 : s == ("and" : Str) with
    | true =>
      rw [h2] at h
      cases st with
      | nil => exact absurd h (by show ¬ (2 ≤ 0); decide)
      | cons y r =>
        cases r with
        | nil => exact absurd h (by show ¬ (2 ≤ 1); decide)
        | cons x r => show (r.length + 1) = r.length + 1 + 1 + 1 - 2; omega
    | false =>
      rw [h2] at h
      cases h3 : s == ("or" : Str) with
      | true =>
        rw [h3] at h
        cases st with
        | nil => exact absurd h (by show ¬ (2 ≤ 0); decide)
        | cons y r =>
          cases r with
          | nil => exact absurd h (by show ¬ (2 ≤ 1); decide)
          | cons x r => show (r.length + 1) = r.length + 1 + 1 + 1 - 2; omega
      | false => rfl
theorem need_le {s : Str} : need s ≤ 2 := by
  unfold need
  split
  · split <;> decide
  · decide
theorem sc_worth : FnScope ["code", "columns", "full", "rows", "sign"] ["code", "columns", "full"] (defScope (tp 22)) := ⟨rfl, rfl, rfl, by decide +kernel, rfl, by decide +kernel, by decide +kernel⟩
def spWorth (K : PySem.W.Frag) : Sp := fun vs H Q _ => ∃ (a d : Addr) (full : Int) (t : Fm) (kvs : List (Key × V)) (col : Str → Int), vs = [.ref a, .ref d, .int full] ∧ SqT K H a ((post t).map V.str) ∧ WF t ∧ (post t).length ≤ 4000000 ∧
  H d = some (.dK kvs) ∧ (∀ s ∈ post t, isOper s = false → isConst s = false → valV kvs (Sum.inr s) = some (.int (col s))) ∧ ∀ G, Same H G → Q (.int (evalT col full t)) G
theorem ok_worth (F : FnT K "worth" 22 f fd) (T : NTxt K mg) : FnOk P w K mg base CX0 1 f fd ["code", "columns", "full"] (spWorth K) := by
  obtain ⟨aC, gC, hC⟩ := T.constants
  refine F.ok sc_worth (fun vs H Q E h => ?_) (fun cdv A outer s H vs Q E hr h => ⟨_, PSs.nox (pss_cons (ps_set (i := 3) sc_worth.nd rfl (Or.inl rfl) (pe_lst pa_nil))
      (pss_cons (ps_for PassesOwn.never rfl (pi_tup (pv 0)) (pg_name (i := 4) sc_worth.nd rfl (Or.inl rfl)) (pss_one (ps_if (pt_cmpR op_eq (pv 4) pe_str (nomark _)) (pss_one (ps_expr (pe_bm PySem.F.plainAttrs_list PySem.F.slot_list_append PySem.F.type_list_append mt_append (pv 3) (pa_cons (pe_op op_xor (pv 2) (pe_bm0 PySem.F.plainAttrs_list PySem.F.slot_list_pop PySem.F.type_list_pop mt_pop (pv 3))) pa_nil)))) (pss_one (ps_if (pt_cmpR op_eq (pv 4) pe_str (nomark _)) (pss_one (ps_expr (pe_bm PySem.F.plainAttrs_list PySem.F.slot_list_append PySem.F.type_list_append mt_append (pv 3) (pa_cons (pe_op op_and (pe_bm0 PySem.F.plainAttrs_list PySem.F.slot_list_pop PySem.F.type_list_pop mt_pop (pv 3)) (pe_bm0 PySem.F.plainAttrs_list PySem.F.slot_list_pop PySem.F.type_list_pop mt_pop (pv 3))) pa_nil)))) (pss_one (ps_if (pt_cmpR op_eq (pv 4) pe_str (nomark _)) (pss_one (ps_expr (pe_bm PySem.F.plainAttrs_list PySem.F.slot_list_append PySem.F.type_list_append mt_append (pv 3) (pa_cons (pe_op op_or (pe_bm0 PySem.F.plainAttrs_list PySem.F.slot_list_pop PySem.F.type_list_pop mt_pop (pv 3)) (pe_bm0 PySem.F.plainAttrs_list PySem.F.slot_list_pop PySem.F.type_list_pop mt_pop (pv 3))) pa_nil)))) (pss_one (ps_if (pt_cmpR op_in_seq (pv 4) (pe_glob (v := .ref aC) rfl gC rfl) (by rfl)) (pss_one (ps_expr (pe_bm PySem.F.plainAttrs_list PySem.F.slot_list_append PySem.F.type_list_append mt_append (pv 3) (pa_cons (pe_ifExp (pt_cmpR op_eq (pv 4) pe_str (nomark _)) (pv 2) pe_int) pa_nil)))) (pss_one (ps_expr (pe_bm PySem.F.plainAttrs_list PySem.F.slot_list_append PySem.F.type_list_append mt_append (pv 3) (pa_cons (pe_dget (hu_of hr) (pv 1) (pv 4) (fun _ _ => rfl)) pa_nil)))))))))))))
      (pss_one (ps_ret (pe_ix ix_list (pv 3) pe_int (fun _ _ => rfl)))))), ?_⟩)
  · obtain ⟨a, d, full, t, kvs, col, rfl, _⟩ := h
    rfl
  · obtain ⟨a, d, full, t, kvs, col, rfl, hs, wf, hw, hd, hcol, q⟩ := h
    have line : (4000010 : Nat) ≤ sizeLine := by decide
    have hf := fits_post t wf
    have hfold := fold_worth col full t [] wf
    generalize post t = code at hs hw hf hfold hcol
    refine ⟨Nat.zero_le _, fun rw_ hrw => ?_⟩
    have s0 := same_new hrw (u := .lst [])
    have seqT : ∀ G, Same H G → SqT K G a (code.map V.str) := fun G sm => by
      rcases hs with (h | ⟨o, h⟩) | h
      · exact .inl (.inl (sm _ _ h))
      · exact .inl (.inr ⟨o, sm _ _ h⟩)
      · exact .inr h
    refine ⟨_, rfl, a, rfl, ⟨_, seqT _ s0⟩, for_tup (K := K) (a := a) (xs := code.map V.str)
      (fun i σ G => ∃ st o4, st = (code.take i).foldl (stepW col full) [] ∧ σ = [some (.ref a), some (.ref d), some (.int full), some (.ref rw_), o4] ∧ Same H G ∧ G rw_ = some (.lst ((st.map V.int).reverse)) ∧ Fits (code.drop i) st.length ∧ st.length ≤ i)
      ⟨[], none, rfl, rfl, s0, upd_same, hf, Nat.le_refl _⟩ (fun i σ G _ h => by
        obtain ⟨_, _, _, _, h, _⟩ := h
        exact seqT G h) ?_ ?_⟩
    · rintro i x σ G hi ⟨st, o4, hst, rfl, s1, gr, fits, hsl⟩
      obtain ⟨s, hsi, rfl⟩ : ∃ s, code[i]? = some s ∧ x = V.str s := by
        rw [List.getElem?_map] at hi
        cases e : code[i]? with
        | none =>
          rw [e] at hi
          cases hi
        | some s =>
          rw [e] at hi
          exact ⟨s, rfl, (Option.some.inj hi).symm⟩
      have hlt := (List.getElem?_eq_some_iff.mp hsi).1
      have edrop : code.drop i = s :: code.drop (i + 1) := by
        rw [List.drop_eq_getElem_cons hlt, (List.getElem?_eq_some_iff.mp hsi).2]
      rw [edrop] at fits
      obtain ⟨f1, f2⟩ := fits
      have hnext : (code.take (i + 1)).foldl (stepW col full) [] = stepW col full st s := by
        rw [take_snoc hsi, List.foldl_append, ← hst] <;> rfl
      have f3 : Fits (code.drop (i + 1)) (stepW col full st s).length := by
        rw [len_stepW f1]
        exact f2
      have f4 : (stepW col full st s).length ≤ i + 1 := by
        rw [len_stepW f1]
        omega
      have done : ∀ (z : Int) (r : List Int) (G' : Hp), Same H G' → G' rw_ = some (.lst ((r.map V.int).reverse)) → r.length ≤ st.length → stepW col full st s = z :: r →
          rAppend (.ref rw_) [.int z] G' (fun _ G3 => ∃ st o4, st = (code.take (i + 1)).foldl (stepW col full) [] ∧ [some (.ref a), some (.ref d), some (.int full), some (.ref rw_), some (.str s)] = [some (V.ref a), some (.ref d), some (.int full), some (.ref rw_), o4] ∧ Same H G3 ∧ G3 rw_ = some (.lst ((st.map V.int).reverse)) ∧ Fits (code.drop (i + 1)) st.length ∧ st.length ≤ i + 1) := by
        intro z r G' h1 h2 h3 h4
        refine rd_appV hrw h1 h2 (by rw [List.length_map]; omega) fun G3 k1 k2 k3 => ⟨stepW col full st s, _, hnext.symm, rfl, k1, ?_, f3, f4⟩
        rw [h4, k2] <;> rfl
      refine ⟨_, rfl, rfl, _, rfl, ?_⟩
      rw [dec_str]
      have two : ∀ (k : 2 ≤ st.length), ∃ y x r, st = y :: x :: r := by
        intro k
        cases st with
        | nil => exact absurd k (by decide)
        | cons y r =>
          cases r with
          | nil => exact absurd k (by show ¬ (2 ≤ 1); decide)
          | cons x r => exact ⟨y, x, r, rfl⟩
      cases c1 : (s == ("not" : Str)) with
      | true =>
        have n1 : need s = 1 := by rw [eq_of_beq c1]; decide +kernel
        rw [n1] at f1
        cases st with
        | nil => exact absurd f1 (by decide)
        | cons x r =>
          refine iteT ⟨_, rfl, .inl ⟨rfl, _, SqL.of gr⟩, _, rfl, _, rfl, .inl ⟨rfl, _, SqL.of gr⟩, rd_popV hrw s1 gr fun G1 h1 h2 h3 => ⟨_, _, rfl, rfl, ?_⟩⟩
          exact done _ r G1 h1 h2 (Nat.le_succ _) (by unfold stepW; rw [c1] <;> rfl)
      | false =>
        refine iteF ⟨_, rfl, rfl, _, rfl, ?_⟩
        rw [dec_str]
        cases c2 : (s == ("and" : Str)) with
        | true =>
          have n1 : need s = 2 := by rw [eq_of_beq c2]; decide +kernel
          rw [n1] at f1
          obtain ⟨y, x, r, rfl⟩ := two f1
          refine iteT ⟨_, rfl, .inl ⟨rfl, _, SqL.of gr⟩, _, rfl, .inl ⟨rfl, _, SqL.of gr⟩, rd_popV hrw s1 gr fun G1 h1 h2 h3 => ?_⟩
          refine ⟨_, rfl, .inl ⟨rfl, _, SqL.of h2⟩, rd_popV hrw h1 h2 fun G2 k1 k2 k3 => ⟨_, _, rfl, rfl, ?_⟩⟩
          exact done _ r G2 k1 k2 (by simp only [List.length_cons]; omega) (by unfold stepW; rw [c1, c2] <;> rfl)
        | false =>
          refine iteF ⟨_, rfl, rfl, _, rfl, ?_⟩
          rw [dec_str]
          cases c3 : (s == ("or" : Str)) with
          | true =>
            have n1 : need s = 2 := by rw [eq_of_beq c3]; decide +kernel
            rw [n1] at f1
            obtain ⟨y, x, r, rfl⟩ := two f1
            refine iteT ⟨_, rfl, .inl ⟨rfl, _, SqL.of gr⟩, _, rfl, .inl ⟨rfl, _, SqL.of gr⟩, rd_popV hrw s1 gr fun G1 h1 h2 h3 => ?_⟩
            refine ⟨_, rfl, .inl ⟨rfl, _, SqL.of h2⟩, rd_popV hrw h1 h2 fun G2 k1 k2 k3 => ⟨_, _, rfl, rfl, ?_⟩⟩
            exact done _ r G2 k1 k2 (by simp only [List.length_cons]; omega) (by unfold stepW; rw [c1, c2, c3] <;> rfl)
          | false =>
            have no : isOper s = false := by rw [oper_cases, c1, c2, c3] <;> rfl
            refine iteF ⟨_, rfl, aC, constants.map V.str, rfl, .inr (hC _), rfl, flat_strs _, _, rfl, ?_⟩
            rw [in_val]
            cases c4 : constants.any fun y => y == s with
            | true =>
              refine iteT ⟨_, rfl, .inl ⟨rfl, _, SqL.of gr⟩, _, rfl, rfl, _, rfl, ?_⟩
              rw [dec_str]
              cases c5 : (s == ("all" : Str)) with
              | true => exact iteT ⟨_, rfl, done full st G s1 gr (Nat.le_refl _) (by unfold stepW; rw [c1, c2, c3, show isConst s = true from c4, c5] <;> rfl)⟩
              | false => exact iteF (done 0 st G s1 gr (Nat.le_refl _) (by unfold stepW; rw [c1, c2, c3, show isConst s = true from c4, c5] <;> rfl))
            | false =>
              have hv := hcol s (List.mem_of_getElem? hsi) no c4
              refine iteF ⟨_, rfl, .inl ⟨rfl, _, SqL.of gr⟩, _, rfl, _, rfl, d, .int (col s), rfl, ?_, done (col s) st G s1 gr (Nat.le_refl _) (by unfold stepW; rw [c1, c2, c3, show isConst s = false from c4] <;> rfl)⟩
              have w1 := DGet.k (k := Sum.inr s) (s1 _ _ hd)
              rw [hv] at w1
              exact w1
    · rintro σ G ⟨st, o4, hst, rfl, s1, gr, fits, hsl⟩
      rw [List.length_map, List.take_length, hfold] at hst
      subst hst
      exact ⟨_, rfl, rw_, _, 0, _, rfl, rfl, SqL.of gr, rfl, q G s1⟩
end
end Fx
set_option maxHeartbeats 2000000
namespace Fx
open PySem PySem.Spec PyProof.Rows L2 TL

/-! ### what is accepted is the code of a tree -/
def isBin (s : Str) : Bool := s == "and" || s == "or"
def bins (l : List Str) : Nat := (l.filter isBin).length
def opens (l : List Str) : Nat := (l.filter fun s => s == ("(" : Str)).length
def flat (ts : List Fm) : List Str := (ts.map post).flatten
/-- the operands so far, the stack -/
structure Ok (wanted : Bool) (cs : List Str × List Str) (ts : List Fm) : Prop where
  wf : ∀ t ∈ ts, WF t
  code : cs.1 = flat ts
  st : stackOk cs.2
  len : ts.length = bins cs.2 + (if wanted then 0 else 1)
theorem flat_app (a b : List Fm) : flat (a ++ b) = flat a ++ flat b := by
  unfold flat
  rw [List.map_append, List.flatten_append]
theorem flat_one (t : Fm) : flat [t] = post t := by
  unfold flat
  simp
theorem op_kinds {s : Str} (h : isOp s = true) (n : (s == ("(" : Str)) = false) : (s = "not" ∧ isBin s = false) ∨ ((s = "and" ∨ s = "or") ∧ isBin s = true) := by
  unfold isOp at h
  rw [n] at h
  simp only [Bool.false_or, Bool.or_eq_true, beq_iff_eq] at h
  rcases h with rfl | rfl | rfl
  · exact .inr ⟨.inr rfl, by decide +kernel⟩
  · exact .inr ⟨.inl rfl, by decide +kernel⟩
  · exact .inl ⟨rfl, by decide +kernel⟩
theorem last_split {α : Type} : ∀ (l : List α), 1 ≤ l.length → ∃ a x, l = a ++ [x] := by
  intro l h
  cases l with
  | nil => exact absurd h (by simp)
  | cons y r => exact ⟨(y :: r).dropLast, (y :: r).getLast (by simp), (List.dropLast_concat_getLast (by simp)).symm⟩
/-- one operator goes from the stack to the code -/
theorem pop_one {c r : List Str} {s : Str} {ts : List Fm} (h : Ok false (c, s :: r) ts) (n : (s == ("(" : Str)) = false) : ∃ ts', Ok false (c ++ [s], r) ts' := by
  have hop := h.st s List.mem_cons_self
  have hst : stackOk r := fun y hy => h.st y (List.mem_cons_of_mem _ hy)
  have hlen : ts.length = bins (s :: r) + 1 := h.len
  rcases op_kinds hop n with ⟨rfl, hb⟩ | ⟨hs, hb⟩
  · have e : bins (("not" : Str) :: r) = bins r := by
      unfold bins
      rw [List.filter_cons_of_neg (by rw [hb]; exact Bool.false_ne_true)]
    obtain ⟨a, x, rfl⟩ := last_split ts (by omega)
    refine ⟨a ++ [.neg x], ⟨?_, ?_, hst, ?_⟩⟩
    · intro t ht
      rcases List.mem_append.mp ht with w1 | w1
      · exact h.wf t (List.mem_append_left _ w1)
      · rw [List.mem_singleton.mp w1]
        exact h.wf x (List.mem_append_right _ (List.mem_singleton.mpr rfl))
    · show c ++ [("not" : Str)] = _
      have hc : c = flat (a ++ [x]) := h.code
      rw [hc, flat_app, flat_app, flat_one, flat_one, List.append_assoc] <;> rfl
    · rw [List.length_append, List.length_singleton] at hlen ⊢
      show _ = bins r + 1
      omega
  · have e : bins (s :: r) = bins r + 1 := by
      unfold bins
      rw [List.filter_cons_of_pos hb, List.length_cons]
    obtain ⟨a1, y, rfl⟩ := last_split ts (by omega)
    rw [List.length_append, List.length_singleton] at hlen
    obtain ⟨a, x, rfl⟩ := last_split a1 (by omega)
    refine ⟨a ++ [.bin s x y], ⟨?_, ?_, hst, ?_⟩⟩
    · intro t ht
      rcases List.mem_append.mp ht with w1 | w1
      · exact h.wf t (List.mem_append_left _ (List.mem_append_left _ w1))
      · rw [List.mem_singleton.mp w1]
        exact ⟨hs, h.wf x (List.mem_append_left _ (List.mem_append_right _ (List.mem_singleton.mpr rfl))), h.wf y (List.mem_append_right _ (List.mem_singleton.mpr rfl))⟩
    · show c ++ [s] = _
      have hc : c = flat (a ++ [x] ++ [y]) := h.code
      rw [hc, flat_app, flat_app, flat_app, flat_one, flat_one, flat_one]
      show flat a ++ post x ++ post y ++ [s] = flat a ++ (post x ++ post y ++ [s])
      simp only [List.append_assoc]
    · rw [List.length_append, List.length_singleton] at hlen ⊢
      show _ = bins r + 1
      omega
theorem pop_to : ∀ (l c : List Str) (ts : List Fm), Ok false (c, l) ts → ∃ ts', Ok false (c ++ (popTo l).1, (popTo l).2) ts'
  | [], c, ts, h => ⟨ts, by
      show Ok false (c ++ [], []) ts
      rw [List.append_nil]
      exact h⟩
  | s :: r, c, ts, h => by
    unfold popTo
    cases n : (s == ("(" : Str)) with
    | true =>
      rw [if_pos rfl]
      exact ⟨ts, by rw [List.append_nil]; exact h⟩
    | false =>
      rw [if_neg Bool.false_ne_true]
      obtain ⟨t1, h1⟩ := pop_one h n
      obtain ⟨t2, h2⟩ := pop_to r _ t1 h1
      exact ⟨t2, by rw [List.append_assoc] at h2; exact h2⟩
theorem pop_ge (k : Int) (k0 : 0 < k) : ∀ (l c : List Str) (ts : List Fm), Ok false (c, l) ts → ∃ ts', Ok false (c ++ (popGe k l).1, (popGe k l).2) ts'
  | [], c, ts, h => ⟨ts, by
      show Ok false (c ++ [], []) ts
      rw [List.append_nil]
      exact h⟩
  | s :: r, c, ts, h => by
    unfold popGe
    cases n : decide (k ≤ rank s) with
    | false =>
      rw [if_neg Bool.false_ne_true]
      exact ⟨ts, by rw [List.append_nil]; exact h⟩
    | true =>
      rw [if_pos rfl]
      have ns : (s == ("(" : Str)) = false := by
        cases e : (s == ("(" : Str)) with
        | false => rfl
        | true =>
          have w1 : k ≤ rank s := of_decide_eq_true n
          unfold rank at w1
          rw [if_pos e] at w1
          omega
      obtain ⟨t1, h1⟩ := pop_one h ns
      obtain ⟨t2, h2⟩ := pop_ge k k0 r _ t1 h1
      exact ⟨t2, by rw [List.append_assoc] at h2; exact h2⟩
theorem pop_all : ∀ (l c : List Str) (ts : List Fm), Ok false (c, l) ts → opens l = 0 → ∃ ts', Ok false (c ++ l, []) ts'
  | [], c, ts, h, _ => ⟨ts, by rw [List.append_nil]; exact h⟩
  | s :: r, c, ts, h, o => by
    have n : (s == ("(" : Str)) = false := by
      cases e : (s == ("(" : Str)) with
      | false => rfl
      | true =>
        unfold opens at o
        rw [List.filter_cons_of_pos (p := fun s => s == ("(" : Str)) e, List.length_cons] at o
        omega
    have o2 : opens r = 0 := by
      unfold opens at o ⊢
      rw [List.filter_cons_of_neg (by rw [n]; exact Bool.false_ne_true)] at o
      exact o
    obtain ⟨t1, h1⟩ := pop_one h n
    obtain ⟨t2, h2⟩ := pop_all r _ t1 h1 o2
    exact ⟨t2, by rw [List.append_assoc] at h2; exact h2⟩
/-! ### the signs of a piece -/
def GoodFrom (cs : List Str × List Str) (l : List Str) : Prop := ∀ (i : Nat), l[i]? = some (")" : Str) → ("(" : Str) ∈ ((l.take i).foldl stepC cs).2
theorem good_app {cs : List Str × List Str} {a b : List Str} (h1 : GoodFrom cs a) (h2 : GoodFrom (a.foldl stepC cs) b) : GoodFrom cs (a ++ b) := by
  intro i hi
  by_cases hl : i < a.length
  · rw [List.getElem?_append_left hl] at hi
    rw [List.take_append_of_le_length (by omega)]
    exact h1 i hi
  · rw [List.getElem?_append_right (by omega)] at hi
    have e : (a ++ b).take i = a ++ b.take (i - a.length) := by
      rw [List.take_append, List.take_of_length_le (by omega)]
    rw [e, List.foldl_append]
    exact h2 _ hi
theorem good_one {cs : List Str × List Str} {s : Str} (h : s ≠ ")") : GoodFrom cs [s] := by
  intro i hi
  cases i with
  | zero => exact absurd (Option.some.inj hi) h
  | succ i => simp at hi
theorem opens_popTo : ∀ (l : List Str), opens (popTo l).2 = opens l
  | [] => rfl
  | s :: r => by
    unfold popTo
    cases n : (s == ("(" : Str)) with
    | true => rw [if_pos rfl]
    | false =>
      rw [if_neg Bool.false_ne_true]
      show opens (popTo r).2 = _
      rw [opens_popTo r]
      unfold opens
      rw [List.filter_cons_of_neg (by rw [n]; exact Bool.false_ne_true)]
theorem opens_popGe {k : Int} (k0 : 0 < k) : ∀ (l : List Str), opens (popGe k l).2 = opens l
  | [] => rfl
  | s :: r => by
    unfold popGe
    cases n : decide (k ≤ rank s) with
    | false => rw [if_neg Bool.false_ne_true]
    | true =>
      rw [if_pos rfl]
      show opens (popGe k r).2 = _
      rw [opens_popGe k0 r]
      unfold opens
      rw [List.filter_cons_of_neg]
      intro e
      have w1 : k ≤ rank s := of_decide_eq_true n
      unfold rank at w1
      rw [if_pos e] at w1
      omega
theorem opens_mem {l : List Str} (h : 0 < opens l) : ("(" : Str) ∈ l := by
  unfold opens at h
  obtain ⟨x, hx⟩ := List.exists_mem_of_length_pos h
  obtain ⟨h1, h2⟩ := List.mem_filter.mp hx
  rw [← eq_of_beq h2]
  exact h1
/-- brackets that open -/
theorem step_open {cs : List Str × List Str} {ts : List Fm} (h : Ok true cs ts) : ∀ n : Nat, Ok true ((List.replicate n ("(" : Str)).foldl stepC cs) ts ∧ GoodFrom cs (List.replicate n ("(" : Str)) ∧ opens ((List.replicate n ("(" : Str)).foldl stepC cs).2 = opens cs.2 + n
  | 0 => ⟨h, fun i hi => by simp at hi, rfl⟩
  | n + 1 => by
    obtain ⟨h1, h2, h3⟩ := step_open h n
    rw [List.replicate_succ']
    refine ⟨?_, good_app h2 (good_one (by decide +kernel)), ?_⟩
    all_goals rw [List.foldl_append]
    all_goals generalize (List.replicate n ("(" : Str)).foldl stepC cs = c2 at h1 h3
    · show Ok true (stepC c2 ("(" : Str)) ts
      have e : stepC c2 ("(" : Str) = (c2.1, ("(" : Str) :: c2.2) := by rfl
      rw [e]
      refine ⟨h1.wf, h1.code, ?_, ?_⟩
      · intro y hy
        rcases List.mem_cons.mp hy with w1 | w1
        · rw [w1]
          rfl
        · exact h1.st y w1
      · have w1 : bins (("(" : Str) :: c2.2) = bins c2.2 := by
          unfold bins
          rw [List.filter_cons_of_neg (by decide +kernel)]
        show ts.length = bins (("(" : Str) :: c2.2) + _
        rw [w1]
        exact h1.len
    · show opens (stepC c2 ("(" : Str)).2 = _
      have e : (stepC c2 ("(" : Str)).2 = ("(" : Str) :: c2.2 := by rfl
      rw [e]
      unfold opens at h3 ⊢
      rw [List.filter_cons_of_pos (by decide +kernel), List.length_cons, h3]
      omega
/-- brackets that shut -/
theorem step_shut : ∀ (n : Nat) (cs : List Str × List Str) (ts : List Fm), Ok false cs ts → n ≤ opens cs.2 →
    (∃ ts', Ok false ((List.replicate n (")" : Str)).foldl stepC cs) ts') ∧ GoodFrom cs (List.replicate n (")" : Str)) ∧ opens ((List.replicate n (")" : Str)).foldl stepC cs).2 + n = opens cs.2
  | 0, cs, ts, h, _ => ⟨⟨ts, h⟩, fun i hi => by simp at hi, rfl⟩
  | n + 1, cs, ts, h, hn => by
    have hm := opens_mem (show 0 < opens cs.2 by omega)
    obtain ⟨c, l⟩ := cs
    obtain ⟨t1, h1⟩ := pop_to l c ts h
    obtain ⟨r, hr⟩ := popTo_head l hm
    have e : stepC (c, l) (")" : Str) = (c ++ (popTo l).1, r) := by
      have e1 : stepC (c, l) (")" : Str) = (c ++ (popTo l).1, (popTo l).2.tail) := by rfl
      rw [e1, hr] <;> rfl
    rw [hr] at h1
    have ho := opens_popTo l
    rw [hr] at ho
    have ho2 : opens r + 1 = opens l := by
      unfold opens at ho ⊢
      rw [List.filter_cons_of_pos (by decide +kernel), List.length_cons] at ho
      exact ho
    have h2 : Ok false (c ++ (popTo l).1, r) t1 := by
      refine ⟨h1.wf, h1.code, fun y hy => h1.st y (List.mem_cons_of_mem _ hy), ?_⟩
      have w1 := h1.len
      have w2 : bins (("(" : Str) :: r) = bins r := by
        unfold bins
        rw [List.filter_cons_of_neg (by decide +kernel)]
      show t1.length = bins r + 1
      have w3 : t1.length = bins (("(" : Str) :: r) + 1 := w1
      omega
    have hn2 : n + 1 ≤ opens l := hn
    obtain ⟨i1, i2, i3⟩ := step_shut n (c ++ (popTo l).1, r) t1 h2 (by show n ≤ opens r; omega)
    rw [List.replicate_succ]
    refine ⟨?_, ?_, ?_⟩
    · show ∃ ts', Ok false ((List.replicate n (")" : Str)).foldl stepC (stepC (c, l) (")" : Str))) ts'
      rw [e]
      exact i1
    · refine good_app (a := [(")" : Str)]) ?_ ?_
      · intro i hi
        cases i with
        | zero => exact hm
        | succ i => simp at hi
      · show GoodFrom (stepC (c, l) (")" : Str)) _
        rw [e]
        exact i2
    · show opens ((List.replicate n (")" : Str)).foldl stepC (stepC (c, l) (")" : Str))).2 + (n + 1) = opens l
      rw [e]
      have i3' : opens ((List.replicate n (")" : Str)).foldl stepC (c ++ (popTo l).1, r)).2 + n = opens r := i3
      omega
end Fx
set_option maxHeartbeats 2000000
namespace Fx
open PySem PySem.Spec PyProof.Rows L2 TL

theorem word_no (z : Str) (h : isConst z = true ∨ isWord z = true) : (z == ("(" : Str)) = false ∧ (z == (")" : Str)) = false := by
  refine ⟨?_, ?_⟩
  all_goals
    refine beq_eq_false_iff_ne.mpr fun e => ?_
    rw [e] at h
    rcases h with w1 | w1 <;> revert w1 <;> decide +kernel
/-- a word or a constant -/
theorem step_leaf {cs : List Str × List Str} {ts : List Fm} {s : Str} (h : Ok true cs ts) (h1 : (s == ("(" : Str)) = false) (h2 : (s == (")" : Str)) = false) (h3 : isOper s = false) :
    Ok false (stepC cs s) (ts ++ [.leaf s]) ∧ opens (stepC cs s).2 = opens cs.2 := by
  have hn : (s == ("not" : Str)) = false := by
    have w1 := oper_cases s
    rw [h3] at w1
    have w2 := w1.symm
    simp only [Bool.or_eq_false_iff] at w2
    exact w2.2.2
  have e : stepC cs s = (cs.1 ++ [s], cs.2) := by
    unfold stepC
    rw [h1, hn, h2, show (operators.any fun y => y == s) = false from h3] <;> rfl
  rw [e]
  refine ⟨⟨?_, ?_, h.st, ?_⟩, rfl⟩
  · intro t ht
    rcases List.mem_append.mp ht with w1 | w1
    · exact h.wf t w1
    · rw [List.mem_singleton.mp w1]
      exact h3
  · show cs.1 ++ [s] = _
    rw [h.code, flat_app, flat_one] <;> rfl
  · have w1 := h.len
    rw [List.length_append, List.length_singleton]
    show ts.length + 1 = bins cs.2 + 1
    have w2 : ts.length = bins cs.2 + 0 := w1
    omega
theorem step_not {cs : List Str × List Str} {ts : List Fm} (h : Ok true cs ts) : Ok true (stepC cs ("not" : Str)) ts ∧ opens (stepC cs ("not" : Str)).2 = opens cs.2 := by
  have e : stepC cs ("not" : Str) = (cs.1, ("not" : Str) :: cs.2) := by rfl
  rw [e]
  refine ⟨⟨h.wf, h.code, ?_, ?_⟩, ?_⟩
  · intro y hy
    rcases List.mem_cons.mp hy with w1 | w1
    · rw [w1]
      rfl
    · exact h.st y w1
  · have w1 : bins (("not" : Str) :: cs.2) = bins cs.2 := by
      unfold bins
      rw [List.filter_cons_of_neg (by decide +kernel)]
    show ts.length = bins (("not" : Str) :: cs.2) + _
    rw [w1]
    exact h.len
  · show opens (("not" : Str) :: cs.2) = opens cs.2
    unfold opens
    rw [List.filter_cons_of_neg (by decide +kernel)]
theorem step_bin {cs : List Str × List Str} {ts : List Fm} {s : Str} (h : Ok false cs ts) (hs : s = "and" ∨ s = "or") : (∃ ts', Ok true (stepC cs s) ts') ∧ opens (stepC cs s).2 = opens cs.2 := by
  have k0 : 0 < rank s := by rcases hs with rfl | rfl <;> decide +kernel
  have hb : isBin s = true := by rcases hs with rfl | rfl <;> decide +kernel
  have ho : (s == ("(" : Str)) = false := by rcases hs with rfl | rfl <;> decide +kernel
  have hop : isOp s = true := by rcases hs with rfl | rfl <;> decide +kernel
  have e : stepC cs s = (cs.1 ++ (popGe (rank s) cs.2).1, s :: (popGe (rank s) cs.2).2) := by rcases hs with rfl | rfl <;> rfl
  rw [e]
  obtain ⟨c, l⟩ := cs
  obtain ⟨t1, h1⟩ := pop_ge (rank s) k0 l c ts h
  refine ⟨⟨t1, h1.wf, h1.code, ?_, ?_⟩, ?_⟩
  · intro y hy
    rcases List.mem_cons.mp hy with w1 | w1
    · rw [w1]
      exact hop
    · exact h1.st y w1
  · have w1 : bins (s :: (popGe (rank s) l).2) = bins (popGe (rank s) l).2 + 1 := by
      unfold bins
      rw [List.filter_cons_of_pos hb, List.length_cons]
    have w2 : t1.length = bins (popGe (rank s) l).2 + 1 := h1.len
    show t1.length = bins (s :: (popGe (rank s) l).2) + 0
    omega
  · show opens (s :: (popGe (rank s) l).2) = opens l
    have w1 := opens_popGe k0 l
    unfold opens at w1 ⊢
    rw [List.filter_cons_of_neg (by rw [ho]; exact Bool.false_ne_true)]
    exact w1
/-- one piece -/
theorem piece_ok {st st' : PSt} {p : Str} {cs : List Str × List Str} {ts : List Fm} (h : Ok st.wanted cs ts) (hd : st.depth = opens cs.2) (e : stepP st p = some st') :
    st'.signs = st.signs ++ signsP p ∧ (∃ ts', Ok st'.wanted ((signsP p).foldl stepC cs) ts') ∧ GoodFrom cs (signsP p) ∧ st'.depth = opens ((signsP p).foldl stepC cs).2 := by
  have hO0 : 0 ≤ openOf p := by have := len_behind p; unfold openOf; omega
  have hS0 : 0 ≤ shutOf p := by have := len_core p; unfold shutOf; omega
  unfold stepP at e
  split at e
  · cases e
  · rename_i hc
    cases e
    simp only [Bool.or_eq_true, not_or, Bool.not_eq_true, Bool.not_eq_false', decide_eq_true_eq, Bool.not_eq_true'] at hc
    obtain ⟨hd0, can⟩ := hc
    refine ⟨rfl, ?_⟩
    have can2 : canStand (coreOf p) (openOf p) (shutOf p) st.wanted = true := by
      cases w1 : canStand (coreOf p) (openOf p) (shutOf p) st.wanted with
      | true => rfl
      | false => rw [w1] at can; exact absurd can (by decide)
    clear can
    have hd1 : 0 ≤ st.depth + openOf p - shutOf p := by
      have : ¬ st.depth + openOf p - shutOf p < 0 := by
        first
          | exact hd0
          | (intro w1; rw [decide_eq_true w1] at hd0; cases hd0)
      omega
    unfold signsP
    generalize coreOf p = core at can2 ⊢
    generalize openOf p = mo at can2 hO0 hd1 ⊢
    generalize shutOf p = ms at can2 hS0 hd1 ⊢
    unfold canStand at can2
    dsimp only
    cases c1 : (core == ("not" : Str)) with
    | true =>
      rw [c1, if_pos rfl] at can2
      obtain ⟨hw, hm⟩ := Bool.and_eq_true_iff.mp can2
      have em : ms = 0 := eq_of_beq hm
      subst em
      have ec : core = "not" := eq_of_beq c1
      subst ec
      rw [hw] at h
      obtain ⟨a1, a2, a3⟩ := step_open h mo.toNat
      obtain ⟨b1, b2⟩ := step_not a1
      have el : List.replicate mo.toNat ("(" : Str) ++ [("not" : Str)] ++ List.replicate (0 : Int).toNat (")" : Str) = List.replicate mo.toNat ("(" : Str) ++ [("not" : Str)] := by
        show _ ++ [] = _
        rw [List.append_nil]
      rw [el, List.foldl_append]
      have wt : (operators.any fun y => y == ("not" : Str)) = true := by decide +kernel
      refine ⟨⟨ts, ?_⟩, good_app a2 (good_one (by decide +kernel)), ?_⟩
      · rw [wt]
        exact b1
      · show _ = ((opens (stepC _ ("not" : Str)).2 : Nat) : Int)
        rw [b2, a3]
        omega
    | false =>
      rw [c1, if_neg Bool.false_ne_true] at can2
      cases c2 : operators.any fun y => y == core with
      | true =>
        rw [c2, if_pos rfl] at can2
        simp only [Bool.and_eq_true, Bool.not_eq_true', beq_iff_eq] at can2
        obtain ⟨hw, hm, hs⟩ := can2
        subst hm hs
        have hs2 : core = "and" ∨ core = "or" := by
          have w1 := oper_cases core
          rw [show isOper core = true from c2, c1, Bool.or_false] at w1
          have w2 := w1.symm
          simp only [Bool.or_eq_true, beq_iff_eq] at w2
          exact w2
        rw [hw] at h
        obtain ⟨⟨t1, b1⟩, b2⟩ := step_bin h hs2
        have el : List.replicate (0 : Int).toNat ("(" : Str) ++ [core] ++ List.replicate (0 : Int).toNat (")" : Str) = [core] := by rfl
        rw [el]
        refine ⟨⟨t1, b1⟩, good_one (by rcases hs2 with rfl | rfl <;> decide +kernel), ?_⟩
        show _ = ((opens (stepC cs core).2 : Nat) : Int)
        rw [b2]
        omega
      | false =>
        rw [c2, if_neg Bool.false_ne_true] at can2
        obtain ⟨hw, hc⟩ := Bool.and_eq_true_iff.mp can2
        have hc2 : isConst core = true ∨ isWord core = true := by
          rcases Bool.or_eq_true_iff.mp hc with w1 | w1
          · exact .inl w1
          · exact .inr w1
        obtain ⟨n1, n2⟩ := word_no core hc2
        rw [hw] at h
        obtain ⟨a1, a2, a3⟩ := step_open h mo.toNat
        obtain ⟨b1, b2⟩ := step_leaf a1 n1 n2 c2
        have hle : ms.toNat ≤ opens (stepC ((List.replicate mo.toNat ("(" : Str)).foldl stepC cs) core).2 := by
          rw [b2, a3]
          omega
        obtain ⟨⟨t2, d1⟩, d2, d3⟩ := step_shut ms.toNat _ _ b1 hle
        rw [List.foldl_append, List.foldl_append]
        refine ⟨⟨t2, d1⟩, good_app (good_app a2 (good_one ?_)) ?_, ?_⟩
        · exact beq_eq_false_iff_ne.mp n2
        · rw [List.foldl_append]
          exact d2
        · show _ = ((opens ((List.replicate ms.toNat (")" : Str)).foldl stepC (stepC ((List.replicate mo.toNat ("(" : Str)).foldl stepC cs) core)).2 : Nat) : Int)
          rw [b2, a3] at d3
          omega
theorem run_ok : ∀ (l : List Str) (st st' : PSt) (cs : List Str × List Str) (ts : List Fm), Ok st.wanted cs ts → st.depth = opens cs.2 → runP (some st) l = some st' →
    ∃ more, st'.signs = st.signs ++ more ∧ (∃ ts', Ok st'.wanted (more.foldl stepC cs) ts') ∧ GoodFrom cs more ∧ st'.depth = opens (more.foldl stepC cs).2
  | [], st, st', cs, ts, h, hd, e => by
    cases e
    exact ⟨[], (List.append_nil _).symm, ⟨ts, h⟩, fun i hi => by simp at hi, hd⟩
  | p :: l, st, st', cs, ts, h, hd, e => by
    have e2 : runP (stepP st p) l = some st' := e
    cases q : stepP st p with
    | none =>
      rw [q, runP_none] at e2
      cases e2
    | some s2 =>
      rw [q] at e2
      obtain ⟨h1, ⟨t1, h2⟩, h3, h4⟩ := piece_ok h hd q
      obtain ⟨more, k1, ⟨t2, k2⟩, k3, k4⟩ := run_ok l s2 st' _ t1 h2 h4 e2
      refine ⟨signsP p ++ more, ?_, ⟨t2, ?_⟩, good_app h3 k3, ?_⟩
      · rw [k1, h1, List.append_assoc]
      · rw [List.foldl_append]
        exact k2
      · rw [List.foldl_append]
        exact k4
/-- WHAT IS ACCEPTED IS THE CODE OF A TREE -/
theorem parse_ok (z : Str) (h : signsOf z ≠ []) : ∃ t, WF t ∧ codeOf (signsOf z) = post t ∧ Good (signsOf z) := by
  unfold signsOf at h ⊢
  cases e : runP (some start0) (Txt.split z " ") with
  | none =>
    rw [e] at h
    exact absurd rfl h
  | some st =>
    rw [e] at h
    dsimp only at h ⊢
    cases c : (st.wanted || decide (0 < st.depth)) with
    | true =>
      rw [c, if_pos rfl] at h
      exact absurd rfl h
    | false =>
      rw [if_neg Bool.false_ne_true]
      obtain ⟨hw, hd⟩ := Bool.or_eq_false_iff.mp c
      have hd0 : ¬ 0 < st.depth := of_decide_eq_false hd
      obtain ⟨more, k1, ⟨ts, k2⟩, k3, k4⟩ := run_ok _ start0 st ([], []) [] ⟨fun t ht => (by cases ht), rfl, fun s hs => (by cases hs), rfl⟩ rfl e
      have es : st.signs = more := by
        rw [k1]
        rfl
      rw [es]
      rw [hw] at k2
      have ho : opens (more.foldl stepC ([], [])).2 = 0 := by omega
      obtain ⟨c1, c2, hc2⟩ : ∃ c1 l1, more.foldl stepC ([], []) = (c1, l1) := ⟨_, _, rfl⟩
      rw [hc2] at k2 ho
      obtain ⟨t2, q⟩ := pop_all _ _ ts k2 ho
      have hl : t2.length = 0 + 1 := q.len
      cases t2 with
      | nil => simp at hl
      | cons t r =>
        cases r with
        | cons _ _ => simp at hl
        | nil =>
          refine ⟨t, q.wf t List.mem_cons_self, ?_, k3⟩
          have hq : c1 ++ c2 = flat [t] := q.code
          rw [flat_one] at hq
          show (more.foldl stepC ([], [])).1 ++ (more.foldl stepC ([], [])).2 = _
          rw [hc2]
          exact hq
end Fx
set_option maxHeartbeats 2000000
namespace Fx
open PySem PySem.Spec PyProof.Rows L2 TL

abbrev FnI (K : PySem.W.Frag) (q m : Str) (i j : Nat) (f : Addr) (fd : FuncData) : Prop :=
  FunD K m q (defArgs (inClass (tp i) j)) (defBody (inClass (tp i) j)) (defScope (inClass (tp i) j)) [] [] f fd
section
variable {P : Program} {w : World} {K : PySem.W.Frag} {mg : Str → Option Value} {base : Heap} {f C CB fB fS fC : Addr} {fd fdB fdS fdC : FuncData}
/-! ### BadFormula.__init__ -/
def spBF (CB : Addr) : Sp := fun vs H Q _ => ∃ (a : Addr) (v : V), vs = [.ref a, v] ∧ H a = some (exo a CB none) ∧
  ∀ d, H d = none → d ≠ a → Q .non (upd (upd H d (exd d [("text", v)])) a (exo a CB (some d)))
theorem sc_BF : FnScope ["self", "text"] ["self", "text"] (defScope (inClass (tp 2) 0)) := ⟨rfl, rfl, rfl, by decide +kernel, rfl, by decide +kernel, by decide +kernel⟩
theorem ok_BF (F : FnI K "BadFormula.__init__" "__init__" 2 0 f fd) (T : OexC K CB) (no : PySem.W.findIn K (.ref CB) "text" = some none) : FnOk P w K mg base CX0 1 f fd ["self", "text"] (spBF CB) := by
  refine F.ok sc_BF (fun vs H Q E h => ?_) (fun cdv A outer s H vs Q E hr h => ⟨_, PSs.nox (pss_one (ps_ost (pv 0) (pv 1))), ?_⟩)
  · obtain ⟨a, v, rfl, _⟩ := h
    rfl
  · obtain ⟨a, v, rfl, e, q⟩ := h
    exact ⟨_, rfl, _, rfl, a, CB, rfl, T, no, .inl ⟨e, fun d hd hne => q d hd hne⟩⟩
/-! ### Formula.__init__ -/
def spInitF (K : PySem.W.Frag) (C CB : Addr) : Sp := fun vs H Q E => ∃ (a dx : Addr) (v : V), vs = [.ref a, v] ∧ H a = some (.ins C dx []) ∧ Any K H v ∧ (∀ z, v = .str z → z.length ≤ 3900) ∧
  (signsV v = [] → ∀ d G, Same H G → H d = none → G d = some (.xd [("text", v)]) → E (.ref CB) (some d) G) ∧
  (signsV v ≠ [] → ∀ p G, (∀ b o, b ≠ a → H b = some o → G b = some o) → G a = some (.ins C dx [("code", .ref p)]) → H p = none → G p = some (.tup ((codeOf (signsV v)).map V.str)) → Q .non G)
theorem sc_initF : FnScope ["self", "text", "signs"] ["self", "text"] (defScope (inClass (tp 13) 0)) := ⟨rfl, rfl, rfl, by decide +kernel, rfl, by decide +kernel, by decide +kernel⟩
/-- what is known of the errors' class -/
structure BTxt (K : PySem.W.Frag) (mg : Str → Option Value) (CB fB : Addr) : Prop where
  o : OexC K CB
  no : PySem.W.findIn K (.ref CB) "text" = some none
  i : PySem.W.findIn K (.ref CB) "__init__" = some (some (.ref fB))
  t : PySem.W.typeIn K (.ref fB) = some (.type "function")
  g : mg "BadFormula" = some (.ref CB)
theorem signs_len (v : V) (h : ∀ z, v = .str z → z.length ≤ 3900) : (signsV v).length ≤ 16000000 := by
  cases v with
  | str z =>
    show (signsOf z).length ≤ _
    unfold signsOf
    cases e : runP (some start0) (Txt.split z " ") with
    | none => exact Nat.zero_le _
    | some st =>
      dsimp only
      have h1 := h z rfl
      have h2 := runP_len _ z.length start0 st (piece_len z) e
      have h3 := PyProof.Rows.split_le z " "
      have h4 : start0.signs.length = 0 := rfl
      have h5 : (Txt.split z " ").length * (z.length + 1) ≤ 3902 * 3901 := Nat.mul_le_mul (by omega) (by omega)
      split
      · exact Nat.zero_le _
      · omega
  | _ => exact Nat.zero_le _
theorem signs_good (v : V) : Good (signsV v) := by
  cases v with
  | str z =>
    show Good (signsOf z)
    by_cases h : signsOf z = []
    · rw [h]
      intro i hi
      simp at hi
    · obtain ⟨_, _, _, g⟩ := parse_ok z h
      exact g
  | _ => intro i hi; simp [signsV] at hi
theorem ok_initF (F : FnI K "Formula.__init__" "__init__" 13 0 f fd) (T : CTxt K w mg) (X : FCls K C) (B : BTxt K mg CB fB) (FB : FnI K "BadFormula.__init__" "__init__" 2 0 fB fdB)
    (GS : FnOk P w K mg base CX0 4 fS fdS ["text"] (spSigns K)) (FS : FnT K "signs_of" 16 fS fdS) (gS : mg "signs_of" = some (.ref fS))
    (GC : FnOk P w K mg base CX0 1 fC fdC ["signs"] (spCode K)) (FC : FnT K "code_of" 18 fC fdC) (gC : mg "code_of" = some (.ref fC)) :
    FnOk P w K mg base (L2.CX P w) 5 f fd ["self", "text"] (spInitF K C CB) := by
  have GB : FnOk P w K mg base CX0 1 fB fdB ["self", "text"] (spBF CB) := ok_BF FB B.o B.no
  have bB : L2.Binds K fdB ["self", "text"] [] := FB.bindsN fun _ _ _ _ _ _ us hl => match us, hl with | [_, _], _ => rfl
  have bS : L2.Binds K fdS ["text"] [] := FS.bindsN fun _ _ _ _ _ _ us hl => match us, hl with | [_], _ => rfl
  have bC : L2.Binds K fdC ["signs"] [] := FC.bindsN fun _ _ _ _ _ _ us hl => match us, hl with | [_], _ => rfl
  have TB := B.o
  have iB := B.i
  have tB := B.t
  have gB := B.g
  refine F.ok sc_initF (fun vs H Q E h => ?_) (fun cdv A outer s H vs Q E hr h => ⟨_, (pss_cons (ps_set (i := 2) sc_initF.nd rfl (Or.inl rfl) (pe_call GS hr rfl gS FS.kp bS .nil pass0 (pa_cons (pv 1) pa_nil)))
      (pss_cons (ps_if (pt_not (pt_truth (pv 2) (by intro _; rfl))) (pss_one (ps_raise rfl (takes_of rfl rfl rfl rfl) (pmk_oex TB iB tB GB (hr.mono (by decide)) bB .nil pass0 rfl gB (pa_cons (pv 1) pa_nil)))) pss_nil)
      (pss_one (ps_fld (pv 0) (pe_call GC (hr.mono (by decide)) rfl gC FC.kp bC .nil pass0 (pa_cons (pv 2) pa_nil)) rfl)))), ?_⟩)
  · obtain ⟨a, dx, v, rfl, _⟩ := h
    rfl
  · obtain ⟨a, dx, v, rfl, ha, any, hz, qe, qn⟩ := h
    refine ⟨_, rfl, v, rfl, any, hz, fun p G s1 hp gp => ?_⟩
    refine ⟨_, rfl, _, .inl ⟨_, SqL.of gp, rfl⟩, ?_⟩
    cases e : (signsV v).isEmpty with
    | true =>
      have e2 : signsV v = [] := List.isEmpty_iff.mp e
      have e3 : ((signsV v).map V.str).isEmpty = true := by rw [e2] <;> rfl
      rw [e3]
      refine iteT ⟨_, rfl, (by show 1 ≤ 1000; decide), fun x hx => ⟨x, v, rfl, upd_same, fun d hd hne => ⟨rfl, d, [("text", v)], upd_same, ?_, ?_, ?_⟩⟩⟩
      · rw [upd_ne hne, upd_same]
      · rw [upd_ne hne] at hd
        exact hd
      · have hd' : G d = none := by
          rw [upd_ne hne] at hd
          exact hd
        refine qe e2 d _ ?_ (s1.free hd') upd_same
        intro b o hb
        have hb2 := s1 b o hb
        rw [upd_ne (ne_of_none hb2 hd'), del_ne (ne_of_none hb2 hx), upd_ne (ne_of_none hb2 hx), upd_ne (ne_of_none hb2 hd'), upd_ne (ne_of_none hb2 hx)]
        exact hb2
    | false =>
      have e2 : signsV v ≠ [] := fun z => by rw [z] at e; cases e
      have e3 : ((signsV v).map V.str).isEmpty = false := by
        cases hl : signsV v with
        | nil => exact absurd hl e2
        | cons _ _ => rfl
      rw [e3]
      refine iteF ⟨_, rfl, p, signsV v, rfl, SqL.of gp, signs_len v hz, signs_good v, fun q G2 s2 hq gq => ?_⟩
      have ga := (s1.trans s2) _ _ ha
      refine ⟨_, rfl, a, C, dx, [], rfl, ga, X.cl, X.nc, (by show 0 < 1000; decide), ?_⟩
      refine qn e2 q _ ?_ upd_same (s1.free hq) ?_
      · intro b o hb hb2
        rw [upd_ne hb]
        exact (s1.trans s2) _ _ hb2
      · have ne : q ≠ a := fun z => by
          rw [z] at hq
          rw [s1 _ _ ha] at hq
          cases hq
        rw [upd_ne ne]
        exact gq
end
end Fx
set_option maxHeartbeats 2000000
namespace Fx
open PySem PySem.Spec PyProof.Rows L2 TL

/-! ### str(x) and {x} of an own instance -/
structure SCls (K : PySem.W.Frag) (C f : Addr) : Prop where
  m : Meth K C "__str__" f
  fm : PySem.W.findIn K (.ref C) "__format__" = some (some (.builtin "object.__format__"))
  ob : PySem.W.mroIn K C (.type "object") = some true
theorem PE.conv {X : Cx} {e : Expr} {t t' : TE} (h : PE X e t) (c : ∀ σ H Q, t' σ H Q → t σ H Q) : PE X e t' := ⟨fun pins s σ H Q I q => h.run pins s σ H Q I (c σ H Q q)⟩
section
variable {X : Cx} {C f : Addr} {k : Nat} {fd : FuncData} {sp : Sp} {pins : List (Addr × Obj)} {σ : L2.St} {H : Hp} {s : Shared}
/-- a method of one argument, self, run around A; it tells a text -/
theorem run_self {A : Around} {a : Addr} {Q : VK} {R : Value → Shared → Prop} {E2 : Value → Shared → Prop} (F : FnOk X.prog X.w X.K X.mg X.base CX0 k f fd ["self"] sp) (hr : Room k A)
    (hE : Env0 X.prog X.w X.K X.mg X.base A X.stack s H) (hb : L2.Binds X.K fd ["self"] []) (I : Inv X pins σ H s)
    (h : sp [.ref a] H Q E0) (hR : ∀ v u H2 s2, Inv X pins σ H2 s2 → RelV v u → Q v H2 → R u s2) : wpAny (model X.prog X.w) A (call (.ref f) [.ref a]) R E2 s := by
  have hbt := hb s [Value.ref a] I.kIn rfl
  refine wpAny_call (codeAny_mono (F.run A X.stack s H ⟨[.ref a], []⟩ _ [.ref a] Q E0 hr hE hbt (.cons rfl .nil) h) fun r s' hq => ?_)
  cases r with
  | error e => exact hq.elim
  | ok fl =>
    cases fl with
    | ret u =>
      obtain ⟨v, H2, J, rv, q⟩ := I.after hq
      exact hR v u H2 s' J rv q
    | next => exact False.elim hq
    | brk => exact False.elim hq
    | cont => exact False.elim hq
def tFmtI (sp : Sp) (C : Addr) (te : TE) : TE := fun σ H Q => te σ H fun x G => ∃ (a dx : Addr) (fs : List (Str × V)), x = .ref a ∧ G a = some (.ins C dx fs) ∧ sp [.ref a] G (fun v G2 => ∃ y : Str, v = .str y ∧ Q (.str y) G2) E0
theorem pe_fmtI {e : Expr} {te : TE} {pos : Pos} (S : SCls X.K C f) (F : FnOk X.prog X.w X.K X.mg X.base CX0 k f fd ["self"] sp) (hr : Room (k + 2) X.A) (hb : L2.Binds X.K fd ["self"] [])
    (he : PE X e te) : PE X (.FormattedValue e (-1) none pos) (tFmtI sp C te) := by
  refine ⟨fun pins s σ H Q I h => ?_⟩
  refine wpAny_FormattedValue_plain (thn (he.run pins s σ H _ I h) fun v s1 hv => ?_)
  obtain ⟨x, G, J, r1, a, dx, fs, rfl, ha, q⟩ := hv
  obtain rfl : v = Value.ref a := r1
  obtain ⟨mA, O, _⟩ := ins_get J.hok ha
  obtain ⟨od, JI, _⟩ := O.look
  have J2 : Inv X pins σ G { s1 with toks := s1.toks + 1 } := J.tok _
  refine PySem.W.kfo_fieldS (f := f) ?_ J.kIn JI S.fm S.ob S.m.at_ S.m.fn (run_self F ((hr.mono (Nat.le_succ (k + 1))).in1) J2.env0.in1 hb J2 q fun v u H2 s2 J3 rv q2 => ?_)
  · exact (hr.mono (Nat.le_succ (k + 1))).in1.units0
  · obtain ⟨y, rfl, q3⟩ := q2
    obtain ⟨t, rfl⟩ := rv
    exact ⟨.str y, H2, J3, ⟨t, rfl⟩, q3⟩
/-- str(x) -/
theorem call_strI (S : SCls X.K C f) (F : FnOk X.prog X.w X.K X.mg X.base CX0 k f fd ["self"] sp) (hr : Room (k + 2) X.A) (hb : L2.Binds X.K fd ["self"] []) :
    CallR X (.type "str") (fun xs H Q => ∃ (a dx : Addr) (fs : List (Str × V)), xs = [.ref a] ∧ H a = some (.ins C dx fs) ∧ sp [.ref a] H (fun v G2 => ∃ y : Str, v = .str y ∧ Q (.str y) G2) E0) := by
  intro pins s σ H xs us Q I r h
  obtain ⟨a, dx, fs, rfl, ha, q⟩ := h
  rw [Vals.ref1 r]
  obtain ⟨mA, O, _⟩ := ins_get I.hok ha
  obtain ⟨od, JI, _⟩ := O.look
  refine PySem.W.kso_call (f := f) hr.in1.in1.units0 I.kIn JI S.m.at_ S.m.fn (run_self F hr.in1.in1 I.env0.in1.in1 hb I q fun v u H2 s2 J3 rv q2 => ?_)
  obtain ⟨y, rfl, q3⟩ := q2
  obtain ⟨t, rfl⟩ := rv
  exact ⟨.str y, H2, J3, ⟨t, rfl⟩, q3⟩
end
end Fx
set_option maxHeartbeats 2000000
namespace Fx
open PySem PySem.Spec PyProof.Rows L2 TL

/-! ### one & other, one | other, ~one -/
structure OCls (K : PySem.W.Frag) (C fA fO fI : Addr) : Prop where
  sf : PySem.W.selfFirst K C = true
  a : Meth K C "__and__" fA
  o : Meth K C "__or__" fO
  i : Meth K C "__invert__" fI
section
variable {X : Cx} {C f : Addr} {k : Nat} {fd : FuncData} {sp : Sp} {ps : List Str}
/-- a def called with these values, all else as a rule's end wants it -/
theorem run_vals {pins : List (Addr × Obj)} {σ : L2.St} {H : Hp} {s : Shared} {vs : List V} {us : List Value} {Q : VK} {R : Value → Shared → Prop} {E2 : Value → Shared → Prop} (F : FnOk X.prog X.w X.K X.mg X.base CX0 k f fd ps sp) (hr : Room k X.A)
    (hb : L2.Binds X.K fd ps []) (I : Inv X pins σ H s) (hv : Vals vs us)
    (h : sp vs H Q E0) (hR : ∀ v u H2 s2, Inv X pins σ H2 s2 → RelV v u → Q v H2 → R u s2) : wpAny (model X.prog X.w) X.A (call (.ref f) us) R E2 s := by
  have hl : (us ++ []).length = ps.length := by
    rw [List.append_nil, ← hv.length]
    exact F.len _ _ _ _ h
  have hbt := hb s us I.kIn hl
  rw [List.append_nil] at hbt
  refine wpAny_call (codeAny_mono (F.run X.A X.stack s H ⟨us, []⟩ _ vs Q E0 hr I.env0 hbt hv h) fun r s' hq => ?_)
  cases r with
  | error e => exact hq.elim
  | ok fl =>
    cases fl with
    | ret u =>
      obtain ⟨v, H2, J, rv, q⟩ := I.after hq
      exact hR v u H2 s' J rv q
    | next => exact False.elim hq
    | brk => exact False.elim hq
    | cont => exact False.elim hq
/-- an operator of two instances of one class; it tells an instance -/
theorem op_own {op : Operator} (sf : PySem.W.selfFirst X.K C = true) (hm : PySem.W.findIn X.K (.ref C) (PySem.dunder op.info.2) = some (some (.ref f))) (hf : PySem.W.isFn X.K (.ref f) = true)
    (F : FnOk X.prog X.w X.K X.mg X.base CX0 k f fd ps sp) (hr : Room k X.A) (hb : L2.Binds X.K fd ps []) :
    OpR X (binaryOp op) (fun x y H Q => ∃ (a b dx dy : Addr) (fs gs : List (Str × V)), x = .ref a ∧ y = .ref b ∧ H a = some (.ins C dx fs) ∧ H b = some (.ins C dy gs) ∧ sp [.ref a, .ref b] H (fun v G => ∃ c : Addr, v = .ref c ∧ Q v G) E0) := by
  intro pins s σ H x y v u Q I rx ry h
  obtain ⟨a, b, dx, dy, fs, gs, rfl, rfl, ha, hb2, q⟩ := h
  obtain rfl : v = Value.ref a := rx
  obtain rfl : u = Value.ref b := ry
  obtain ⟨m, fr⟩ := I.fr
  obtain ⟨_, O, _⟩ := ins_get I.hok ha
  obtain ⟨od, JI, _⟩ := O.look
  obtain ⟨_, O2, _⟩ := ins_get I.hok hb2
  obtain ⟨od2, JI2, _⟩ := O2.look
  refine PySem.W.binop_K fr I.ok.mod.kin JI JI2.type sf hm hf (run_vals F hr hb I (show Vals [V.ref a, V.ref b] [Value.ref a, Value.ref b] from .cons rfl (.cons rfl .nil)) q fun v u H2 s2 J rv q2 => ?_)
  obtain ⟨c, rfl, q3⟩ := q2
  obtain rfl : u = Value.ref c := rv
  exact ⟨.ref c, H2, J, rfl, q3⟩
theorem un_own (hm : PySem.W.findIn X.K (.ref C) "__invert__" = some (some (.ref f))) (hf : PySem.W.isFn X.K (.ref f) = true)
    (F : FnOk X.prog X.w X.K X.mg X.base CX0 k f fd ps sp) (hr : Room k X.A) (hb : L2.Binds X.K fd ps []) :
    UnR X (unaryOp .Invert) (fun x H Q => ∃ (a dx : Addr) (fs : List (Str × V)), x = .ref a ∧ H a = some (.ins C dx fs) ∧ sp [.ref a] H Q E0) := by
  intro pins s σ H x v Q I rx h
  obtain ⟨a, dx, fs, rfl, ha, q⟩ := h
  obtain rfl : v = Value.ref a := rx
  obtain ⟨m, fr⟩ := I.fr
  obtain ⟨_, O, _⟩ := ins_get I.hok ha
  obtain ⟨od, JI, _⟩ := O.look
  exact PySem.W.ksp_inv fr I.ok.mod.kin JI hm hf (run_vals F hr hb I (show Vals [V.ref a] [Value.ref a] from .cons rfl .nil) q fun v u H2 s2 J rv q2 => ⟨v, H2, J, rv, q2⟩)
end
end Fx
set_option maxHeartbeats 2000000
namespace Fx
open PySem PySem.Spec PyProof.Rows L2 TL

section
variable {P : Program} {w : World} {K : PySem.W.Frag} {mg : Str → Option Value} {base : Heap} {f C CB fB fS fC fW fT fI fA : Addr} {fd fdB fdS fdC fdW fdT fdI fdA : FuncData}
/-! ### formula.words(), str(formula) -/
def spMWords (C : Addr) : Sp := fun vs H Q _ => ∃ (a : Addr) (l : List Str), vs = [.ref a] ∧ FmAt H C a l ∧ l.length ≤ 4000000 ∧ ∀ p G, Same H G → H p = none → G p = some (.lst ((wordsOf l).map V.str)) → Q (.ref p) G
theorem sc_mwords : FnScope ["self"] ["self"] (defScope (inClass (tp 13) 1)) := ⟨rfl, rfl, rfl, by decide +kernel, rfl, by decide +kernel, by decide +kernel⟩
theorem ok_mwords (F : FnI K "Formula.words" "words" 13 1 f fd) (GW : FnOk P w K mg base CX0 1 fW fdW ["formulas"] (spWords K C)) (FW : FnT K "words_of" 21 fW fdW) (gW : mg "words_of" = some (.ref fW)) :
    FnOk P w K mg base CX0 2 f fd ["self"] (spMWords C) := by
  have bW : L2.Binds K fdW ["formulas"] [] := FW.bindsN fun _ _ _ _ _ _ us hl => match us, hl with | [_], _ => rfl
  refine F.ok sc_mwords (fun vs H Q E h => ?_) (fun cdv A outer s H vs Q E hr h => ⟨_, PSs.nox (pss_one (ps_ret (pe_call GW hr rfl gW FW.kp bW .nil pass0 (pa_cons (pe_lst (pa_cons (pv 0) pa_nil)) pa_nil)))), ?_⟩)
  · obtain ⟨a, l, rfl, _⟩ := h
    rfl
  · obtain ⟨a, l, rfl, fm, hl, q⟩ := h
    refine ⟨_, rfl, (by show 1 ≤ sizeLine; decide), fun p hp => ?_⟩
    have s1 := same_new hp (u := .lst [.ref a])
    refine ⟨p, [.ref a], [l], rfl, SqL.of upd_same, ⟨⟨a, rfl, fm.same s1⟩, trivial⟩, by rw [List.flatten_cons, List.flatten_nil, List.append_nil]; exact hl, fun p2 G s2 h2 g2 => ?_⟩
    rw [List.flatten_cons, List.flatten_nil, List.append_nil] at g2
    exact q p2 G (s1.trans s2) (s1.free h2) g2
def spMStr (C : Addr) : Sp := fun vs H Q _ => ∃ (a : Addr) (t : Fm), vs = [.ref a] ∧ FmAt H C a (post t) ∧ WF t ∧ wt (post t) ≤ 4000000 ∧ ∀ G, Same H G → Q (.str (trT t).1) G
theorem sc_mstr : FnScope ["self"] ["self"] (defScope (inClass (tp 13) 7)) := ⟨rfl, rfl, rfl, by decide +kernel, rfl, by decide +kernel, by decide +kernel⟩
theorem ok_mstr (F : FnI K "Formula.__str__" "__str__" 13 7 f fd) (T : TTxt K w mg) (X : FCls K C) (GT : FnOk P w K mg base CX0 2 fT fdT ["code"] (spText K)) (FT : FnT K "text_of" 19 fT fdT) (gT : mg "text_of" = some (.ref fT)) :
    FnOk P w K mg base CX0 3 f fd ["self"] (spMStr C) := by
  have bT : L2.Binds K fdT ["code"] [] := FT.bindsN fun _ _ _ _ _ _ us hl => match us, hl with | [_], _ => rfl
  refine F.ok sc_mstr (fun vs H Q E h => ?_) (fun cdv A outer s H vs Q E hr h => ⟨_, PSs.nox (pss_one (ps_ret (pe_callTy SkE.call_str_str rfl T.c.n.str (by decide +kernel) (pa_cons (pe_call GT hr rfl gT FT.kp bT .nil pass0 (pa_cons (pe_fld (pv 0) rfl) pa_nil)) pa_nil)))), ?_⟩)
  · obtain ⟨a, t, rfl, _⟩ := h
    rfl
  · obtain ⟨a, t, rfl, ⟨dx, p, h1, h2⟩, wf, hw, q⟩ := h
    exact ⟨_, rfl, a, C, dx, _, _, rfl, h1, X.cl, X.nc, rfl, p, t, rfl, SqT.of h2, wf, hw, fun G s1 => ⟨_, rfl, q G s1⟩⟩
/-! ### as_formula -/
/-- a Formula is at hand, or something of which Formula(..) makes one -/
structure MTxt (K : PySem.W.Frag) (mg : Str → Option Value) (C fI : Addr) : Prop where
  g : mg "Formula" = some (.ref C)
  mkr : Mk K C fI
  str : PySem.W.kitOne K (.type "str") (.ref C) = some false
  ca : PySem.W.findIn K (.ref C) "__class__" = some (some (.builtin "object.__class__"))
  sg : PySem.W.specialIn K (.builtin "object.__class__") "__get__" = some (some (.builtin "getset_descriptor.__get__"))
  tk : PySem.W.takesIn K (.builtin "object.__class__") = some true
  mr : PySem.W.mroIn K C (.type "object") = some true
def spAs (C : Addr) : Sp := fun vs H Q _ => ∃ v, vs = [v] ∧ ((∃ (a : Addr) (l : List Str), v = .ref a ∧ FmAt H C a l ∧ Q (.ref a) H) ∨
  ∃ z : Str, v = .str z ∧ z.length ≤ 3900 ∧ signsOf z ≠ [] ∧ ∀ a G, Same H G → H a = none → FmAt G C a (codeOf (signsOf z)) → Q (.ref a) G)
theorem sc_as : FnScope ["thing"] ["thing"] (defScope (tp 14)) := ⟨rfl, rfl, rfl, by decide +kernel, rfl, by decide +kernel, by decide +kernel⟩
/-- Formula(z), z an accepted text: a new Formula -/
theorem rd_mkF {G : Hp} {Q : VK} {z : Str} (hz : z.length ≤ 3900) (hs : signsOf z ≠ []) (q : ∀ a G2, Same G G2 → G a = none → FmAt G2 C a (codeOf (signsOf z)) → Q (.ref a) G2) :
    ∀ x dx, G x = none → G dx = none → dx ≠ x → spInitF K C CB (.ref x :: ([.str z] ++ [])) (upd (upd G dx (.own x)) x (.ins C dx [])) (fun v H2 => v = .non ∧ Q (.ref x) H2) E0 := by
  intro x dx hx hd ne
  refine ⟨x, dx, .str z, rfl, upd_same, any_str (Nat.le_trans hz (by decide)), fun y e => ?_, fun e => absurd e hs, fun _ p G3 k1 k2 k3 k4 => ⟨rfl, q x G3 ?_ hx ⟨dx, p, k2, k4⟩⟩⟩
  · cases e
    exact hz
  · intro b o hb
    have nx : b ≠ x := ne_of_none hb hx
    refine k1 b o nx ?_
    rw [upd_ne nx, upd_ne (ne_of_none hb hd)]
    exact hb
theorem ok_as (F : FnT K "as_formula" 14 f fd) (T : CTxt K w mg) (X : FCls K C) (M : MTxt K mg C fI) (GI : FnOk P w K mg base (L2.CX P w) 5 fI fdI ["self", "text"] (spInitF K C CB)) (FI : FnI K "Formula.__init__" "__init__" 13 0 fI fdI) :
    FnOk P w K mg base CX0 7 f fd ["thing"] (spAs C) := by
  have bI : L2.Binds K fdI ["self", "text"] [] := FI.bindsN fun _ _ _ _ _ _ us hl => match us, hl with | [_, _], _ => rfl
  have gF := M.g
  have MF := M.mkr
  refine F.ok sc_as (fun vs H Q E h => ?_) (fun cdv A outer s H vs Q E hr h => ⟨_, PSs.nox (pss_one (ps_ret (pe_ifExp (pt_val (pe_callB call_isi rfl T.n.isi (by decide +kernel) (pa_cons (pv 0) (pa_cons (pe_glob (v := .ref C) rfl gF rfl) pa_nil)))) (pv 0) (pe_make MF GI (hr.mono (by decide)) rfl gF bI .nil passL (pa_cons (pv 0) pa_nil))))), ?_⟩)
  · obtain ⟨v, rfl, _⟩ := h
    rfl
  · obtain ⟨v, rfl, ⟨a, l, rfl, ⟨dx, p, h1, h2⟩, q⟩ | ⟨z, rfl, hz, hs, q⟩⟩ := h
    · have kb : PySem.W.kitOne K (.ref C) (.ref C) = some true := by
        unfold PySem.W.kitOne
        rw [if_pos (by simp)]
      refine ⟨_, rfl, .ref a, .ref C, .ref C, .ref C, true, rfl, .own C, .base (.ins h1 X.cl M.ca M.sg M.tk M.mr), kb, true, rfl, ?_⟩
      exact iteT ⟨_, rfl, q⟩
    · refine ⟨_, rfl, .str z, .ref C, .type "str", .ref C, false, rfl, .own C, .base (.str z), M.str, false, rfl, ?_⟩
      exact iteF ⟨_, rfl, rd_mkF hz hs q⟩
end
end Fx
set_option maxHeartbeats 2000000
namespace Fx
open PySem PySem.Spec PyProof.Rows L2 TL

/-- what holds: a list or a tuple; of each text it is known whether it is in it -/
def InOk (K : PySem.W.Frag) (H : Hp) (v : V) (inW : Str → Bool) : Prop :=
  (∃ p xs, v = .ref p ∧ (SqL K H p xs ∨ SqT K H p xs) ∧ xs.all flatV = true ∧ ∀ s, inW s = inV (.str s) xs) ∨
  (∃ ds, Dp K H v (.list ds) ∧ SeqAt.shaped (.list ds) = true ∧ ∀ s, PyData.strOk s = true → inW s = ds.any fun z => PyData.eqv z (.str s))
def rInW (K : PySem.W.Frag) : R2 := fun x y H Q => rIn K false x y H Q ∨ rInD K x y H Q
mutual
theorem dp_same {K : PySem.W.Frag} {G G' : Hp} (s : Same G G') : ∀ {v : V} {d : PyData}, Dp K G v d → Dp K G' v d
  | _, _, .non => .non
  | _, _, .bl b => .bl b
  | _, _, .int i => .int i
  | _, _, .str x => .str x
  | _, _, .lst h r => .lst (s.seq h) (dpAll_same s r)
  | _, _, .tup h r => .tup (by
      rcases h with (h | ⟨o, h⟩) | h
      · exact .inl (.inl (s _ _ h))
      · exact .inl (.inr ⟨o, s _ _ h⟩)
      · exact .inr h) (dpAll_same s r)
theorem dpAll_same {K : PySem.W.Frag} {G G' : Hp} (s : Same G G') : ∀ {vs : List V} {ds : List PyData}, DpAll K G vs ds → DpAll K G' vs ds
  | _, _, .nil => .nil
  | _, _, .cons h r => .cons (dp_same s h) (dpAll_same s r)
end
theorem sqT_same {K : PySem.W.Frag} {G G' : Hp} {a : Addr} {xs : List V} (s : Same G G') (h : SqT K G a xs) : SqT K G' a xs := by
  rcases h with (h | ⟨o, h⟩) | h
  · exact .inl (.inl (s _ _ h))
  · exact .inl (.inr ⟨o, s _ _ h⟩)
  · exact .inr h
theorem InOk.same {K : PySem.W.Frag} {H G : Hp} {v : V} {inW : Str → Bool} (s : Same H G) (h : InOk K H v inW) : InOk K G v inW := by
  rcases h with ⟨p, xs, e, h, r⟩ | ⟨ds, h, r⟩
  · refine .inl ⟨p, xs, e, ?_, r⟩
    rcases h with h | h
    · exact .inl (s.seq h)
    · exact .inr (sqT_same s h)
  · exact .inr ⟨ds, dp_same s h, r⟩
/-- a comprehension of a dict over a list that stays -/
theorem dcw {K : PySem.W.Frag} {a : Addr} {xs : List V} {g : TG} {tt : TT} {tk tv : TE} {vs : List Nat} {σ : L2.St} {H1 : Hp} {D : Addr} {Qd : Hp → Prop} (Pv : Nat → Hp → Prop) (h0 : Pv 0 (upd H1 D (.dK []))) (hl : ∀ i H, Pv i H → SqL K H a xs)
    (hs : ∀ i x H, xs[i]? = some x → Pv i H → g x (wipe σ vs) H fun σ2 H2 => wipe σ2 vs = wipe σ vs ∧ tt σ2 H2 fun b H3 =>
      if b = true then tk σ2 H3 fun y H4 => tv σ2 H4 fun z H5 => ∃ kvs k, y = kV k ∧ H5 D = some (.dK kvs) ∧ kvs.length < sizeLine ∧ Pv (i + 1) (upd H5 D (.dK (putK kvs k z))) else Pv (i + 1) H3) (hd : ∀ H, Pv xs.length H → Qd H) :
    ∃ W : Nat → Nat → Hp → Prop, (∃ m, W 0 m (upd H1 D (.dK []))) ∧ ∀ i m H, W i m H →
      ((Itl K a).stop i H ∧ Qd H) ∨ ((Itl K a).go i H ∧ ∃ Nx : Hp → Prop, (∀ H', Nx H' → ∃ m', m' < m ∧ W (i + 1) m' H') ∧ ∀ x H', (Itl K a).yld i H x H' → g x (wipe σ vs) H' fun σ2 H2 => wipe σ2 vs = wipe σ vs ∧ tt σ2 H2 fun b H3 =>
        if b = true then tk σ2 H3 fun y H4 => tv σ2 H4 fun z H5 => ∃ kvs k, y = kV k ∧ H5 D = some (.dK kvs) ∧ kvs.length < sizeLine ∧ Nx (upd H5 D (.dK (putK kvs k z))) else Nx H3) := by
  refine ⟨fun i m H => m = xs.length - i ∧ i ≤ xs.length ∧ Pv i H, ⟨xs.length, by simp, Nat.zero_le _, h0⟩, ?_⟩
  rintro i m H ⟨rfl, hi, p⟩
  have q := hl i H p
  have W := walk_list (K := K) (a := a) (xs := xs)
  by_cases hlt : i < xs.length
  · refine .inr ⟨W.goes i H hlt q, Pv (i + 1), fun H' p' => ⟨xs.length - (i + 1), by omega, rfl, hlt, p'⟩, fun x H' y => ?_⟩
    obtain ⟨e, hx⟩ := W.yields i H x H' hlt q y
    subst e
    exact hs i x _ hx p
  · have e : i = xs.length := by omega
    subst e
    exact .inl ⟨W.stops H q, hd H p⟩
theorem mem_words : ∀ (l acc : List Str) (s : Str), isOper s = false → isConst s = false → (s ∈ l ∨ s ∈ acc) → s ∈ l.foldl addWord acc
  | [], acc, s, _, _, h => by
    rcases h with h | h
    · cases h
    · exact h
  | x :: l, acc, s, h1, h2, h => by
    refine mem_words l (addWord acc x) s h1 h2 ?_
    by_cases hl : s ∈ l
    · exact .inl hl
    · refine .inr ?_
      unfold addWord
      rcases h with h | h
      · rcases List.mem_cons.mp h with e | e
        · subst e
          split
          · exact List.mem_append_right _ (List.mem_singleton.mpr rfl)
          · rename_i hc
            rw [h1, h2] at hc
            simp only [Bool.not_false, Bool.true_and, Bool.not_eq_true', Bool.not_eq_false] at hc
            obtain ⟨y, hy, e⟩ := List.any_eq_true.mp hc
            rw [← eq_of_beq e]
            exact hy
        · exact absurd e hl
      · split
        · exact List.mem_append_left _ h
        · exact h
theorem words_sub : ∀ (l acc : List Str) (s : Str), s ∈ l.foldl addWord acc → s ∈ acc ∨ s ∈ l
  | [], _, _, h => .inl h
  | x :: l, acc, s, h => by
    rcases words_sub l (addWord acc x) s h with w1 | w1
    · unfold addWord at w1
      split at w1
      · rcases List.mem_append.mp w1 with w2 | w2
        · exact .inl w2
        · rw [List.mem_singleton.mp w2]
          exact .inr List.mem_cons_self
      · exact .inl w1
    · exact .inr (List.mem_cons_of_mem _ w1)
section
variable {P : Program} {w : World} {K : PySem.W.Frag} {mg : Str → Option Value} {base : Heap} {f C CB fB fS fC fW fT fI fA fM : Addr} {fd fdB fdS fdC fdW fdT fdI fdA fdM : FuncData}
def b2 (b : Bool) : Int := if b then 1 else 0
def spHolds (K : PySem.W.Frag) (C : Addr) : Sp := fun vs H Q _ => ∃ (a : Addr) (v : V) (t : Fm) (inW : Str → Bool), vs = [.ref a, v] ∧ FmAt H C a (post t) ∧ WF t ∧ (post t).length ≤ 4000000 ∧ (∀ s ∈ post t, PyData.strOk s = true) ∧ InOk K H v inW ∧
  ∀ G, Same H G → Q (.bl (evalT (fun s => b2 (inW s)) 1 t == 1)) G
theorem sc_holds : FnScope ["self", "words", "word"] ["self", "words"] (defScope (inClass (tp 13) 2)) := ⟨rfl, rfl, rfl, by decide +kernel, rfl, by decide +kernel, by decide +kernel⟩
theorem ok_holds (F : FnI K "Formula.holds" "holds" 13 2 f fd) (X : FCls K C) (gI : mg "int" = none) (GW : FnOk P w K mg base CX0 1 fW fdW ["code", "columns", "full"] (spWorth K)) (FW : FnT K "worth" 22 fW fdW) (gW : mg "worth" = some (.ref fW))
    (MW : Meth K C "words" fM) (GM : FnOk P w K mg base CX0 2 fM fdM ["self"] (spMWords C)) (FM : FnI K "Formula.words" "words" 13 1 fM fdM) : FnOk P w K mg base CX0 3 f fd ["self", "words"] (spHolds K C) := by
  have bW : L2.Binds K fdW ["code", "columns", "full"] [] := FW.bindsN fun _ _ _ _ _ _ us hl => match us, hl with | [_, _, _], _ => rfl
  have bM : L2.Binds K fdM ["self"] [] := FM.bindsN fun _ _ _ _ _ _ us hl => match us, hl with | [_], _ => rfl
  refine F.ok sc_holds (fun vs H Q E h => ?_) (fun cdv A outer s H vs Q E hr h => ?_)
  · obtain ⟨a, v, t, inW, rfl, _⟩ := h
    rfl
  · have hu65 : (A.deeper (envOfC "Formula.holds" (defScope (inClass (tp 13) 2)) s.heap.objs.size f cdv)).units + 65 < cLine := by have := hr.un; omega
    refine ⟨_, PSs.nox (pss_one (ps_ret (pe_cmpR op_eq (pe_call GW (hr.mono (by decide)) rfl gW FW.kp bW .nil pass0 (pa_cons (pe_fld (pv 0) rfl) (pa_cons (pe_dc (own := [("word", 2)]) (g := gName 2) (tt := tYes) rfl sc_holds.nd (pi_list (pe_meth0 (pv 0) X.cl MW GM (hr.mono (by decide)) bM .nil pass0))
        (blkOk_by (N := ["self", "words", "word"]) (sc := defScope (inClass (tp 13) 2)) (by decide +kernel)) (fun _ _ _ _ _ => pg_name (i := 2) sc_holds.nd rfl (Or.inl rfl)) (fun _ _ _ _ _ => pts_nil)
        (fun _ _ _ _ _ => pv 2) (fun _ _ _ _ _ => pe_callTy call_int1 rfl gI (by decide +kernel) (pa_cons (pe_cmpR (r := rInW K) (op_in_seq.or (op_inD hu65)) (pv 2) (pv 1) (by rfl)) pa_nil))) (pa_cons pe_int pa_nil)))) pe_int (nomark _)))), ?_⟩
    obtain ⟨a, v, t, inW, rfl, ⟨dx, p, h1, h2⟩, wf, hl, hstr, hin, q⟩ := h
    have line : (4000010 : Nat) ≤ sizeLine := by decide
    refine ⟨_, rfl, a, C, dx, _, _, rfl, h1, X.cl, X.nc, rfl, ?_⟩
    refine ⟨_, rfl, a, dx, _, rfl, h1, rfl, a, post t, rfl, ⟨dx, p, h1, h2⟩, hl, fun r G s1 hr0 g1 => ?_⟩
    have sub : ∀ x ∈ wordsOf (post t), x ∈ post t := fun x hx => by
      rcases words_sub _ _ _ hx with w1 | w1
      · cases w1
      · exact w1
    have hwl : (wordsOf (post t)).length ≤ 4000000 := by
      have w1 := words_len (post t) []
      simp only [List.length_nil] at w1
      have w2 : (wordsOf (post t)).length ≤ 0 + (post t).length := w1
      omega
    have hmem := fun (x : Str) (h3 : isOper x = false) (h4 : isConst x = false) (h5 : x ∈ post t) => mem_words (post t) [] x h3 h4 (.inl h5)
    have hmem2 : ∀ x : Str, isOper x = false → isConst x = false → x ∈ post t → x ∈ wordsOf (post t) := hmem
    generalize wordsOf (post t) = ws at g1 sub hwl hmem2
    refine ⟨r, rfl, ⟨_, SqL.of g1⟩, fun D hD => ?_⟩
    refine dcw (K := K) (a := r) (xs := ws.map V.str) (fun i G2 => Same G G2 ∧ ∃ kvs, G2 D = some (.dK kvs) ∧ kvs.length ≤ i ∧ ∀ x ∈ ws.take i, valV kvs (Sum.inr x) = some (.int (b2 (inW x))))
      ⟨same_new hD, [], upd_same, Nat.le_refl _, fun x hx => by cases hx⟩ (fun i G2 h => SqL.of (h.1 _ _ g1)) ?_ ?_
    · rintro i x G2 hi ⟨s2, kvs, hk, hkl, hkv⟩
      obtain ⟨y, hy, rfl⟩ : ∃ y, ws[i]? = some y ∧ x = V.str y := by
        rw [List.getElem?_map] at hi
        cases e : ws[i]? with
        | none =>
          rw [e] at hi
          cases hi
        | some y =>
          rw [e] at hi
          exact ⟨y, rfl, (Option.some.inj hi).symm⟩
      have hyw := List.mem_of_getElem? hy
      have hlt := (List.getElem?_eq_some_iff.mp hy).1
      refine ⟨rfl, ?_⟩
      dsimp only [tYes]
      rw [if_pos rfl]
      refine ⟨_, rfl, _, rfl, _, rfl, ?_⟩
      have key : ∀ c : Bool, c = inW y → ∃ kvs2 k, V.str y = kV k ∧ G2 D = some (.dK kvs2) ∧ kvs2.length < sizeLine ∧ (Same G (upd G2 D (.dK (putK kvs2 k (.int (if c = true then 1 else 0))))) ∧
          ∃ kvs, (upd G2 D (.dK (putK kvs2 k (.int (if c = true then 1 else 0))))) D = some (.dK kvs) ∧ kvs.length ≤ i + 1 ∧ ∀ x ∈ ws.take (i + 1), valV kvs (Sum.inr x) = some (.int (b2 (inW x)))) := by
        intro c hc
        refine ⟨kvs, Sum.inr y, rfl, hk, by omega, ?_, _, upd_same, ?_, ?_⟩
        · intro b o hb
          rw [upd_ne (ne_of_none hb hD)]
          exact s2 _ _ hb
        · unfold putK
          split
          · rw [List.length_map]
            omega
          · rw [List.length_append, List.length_singleton]
            omega
        · intro x hx
          rw [take_snoc hy] at hx
          rw [valV_put, hc]
          by_cases e : x = y
          · subst e
            rw [if_pos rfl] <;> rfl
          · rw [if_neg (fun z => e (Sum.inr.inj z))]
            rcases List.mem_append.mp hx with w1 | w1
            · exact hkv x w1
            · exact absurd (List.mem_singleton.mp w1) e
      have s12 := s1.trans s2
      rcases hin.same s12 with ⟨p2, xs, rfl, hsq, hfl, hiw⟩ | ⟨ds, hdp, hsh, hiw⟩
      · refine .inl ⟨p2, xs, rfl, hsq, rfl, hfl, .inr ⟨_, rfl, ?_⟩⟩
        rw [if_neg Bool.false_ne_true]
        exact key _ (hiw y).symm
      · have hok := hstr y (sub y hyw)
        exact .inr ⟨.str y, ds, .str y, hdp, by unfold SeqAt.shaped; show (PyData.strOk y && _) = true; rw [hok] <;> rfl, hsh, .inr ⟨_, rfl, key _ (hiw y hok).symm⟩⟩
    · rintro G2 ⟨s2, kvs, hk, hkl, hkv⟩
      have s12 := s1.trans s2
      rw [List.length_map, List.take_length] at hkv
      refine ⟨p, D, 1, t, kvs, fun x => b2 (inW x), rfl, SqT.of (s12 _ _ h2), wf, hl, hk, fun x h5 h3 h4 => hkv x (hmem2 x h3 h4 h5), fun G3 s3 => ⟨rfl, ?_⟩⟩
      have w1 := q G3 (s12.trans s3)
      show Q (.bl (decide (V.int _ = V.int _))) G3
      rw [dec_int]
      exact w1
end
end Fx
set_option maxHeartbeats 2000000
namespace Fx
open PySem PySem.Spec PyProof.Rows L2 TL

def binText (mid x y : Str) : Str := Str.empty ++ ("(" : Str) ++ x ++ mid ++ y ++ (")" : Str)
def negText (x : Str) : Str := Str.empty ++ ("not (" : Str) ++ x ++ (")" : Str)
def spBin (C : Addr) (mid : Str) : Sp := fun vs H Q _ => ∃ (a b : Addr) (t u : Fm), vs = [.ref a, .ref b] ∧ FmAt H C a (post t) ∧ FmAt H C b (post u) ∧ WF t ∧ WF u ∧ wt (post t) ≤ 4000000 ∧ wt (post u) ≤ 4000000 ∧
  (binText mid (trT t).1 (trT u).1).length ≤ 3900 ∧ signsOf (binText mid (trT t).1 (trT u).1) ≠ [] ∧
  ∀ c G, Same H G → H c = none → FmAt G C c (codeOf (signsOf (binText mid (trT t).1 (trT u).1))) → Q (.ref c) G
def spInv (C : Addr) : Sp := fun vs H Q _ => ∃ (a : Addr) (t : Fm), vs = [.ref a] ∧ FmAt H C a (post t) ∧ WF t ∧ wt (post t) ≤ 4000000 ∧
  (negText (trT t).1).length ≤ 3900 ∧ signsOf (negText (trT t).1) ≠ [] ∧ ∀ c G, Same H G → H c = none → FmAt G C c (codeOf (signsOf (negText (trT t).1))) → Q (.ref c) G
section
variable {P : Program} {w : World} {K : PySem.W.Frag} {mg : Str → Option Value} {base : Heap} {f C CB fB fS fC fW fT fI fA fM : Addr} {fd fdB fdS fdC fdW fdT fdI fdA fdM : FuncData}
theorem sc_and : FnScope ["self", "other"] ["self", "other"] (defScope (inClass (tp 13) 3)) := ⟨rfl, rfl, rfl, by decide +kernel, rfl, by decide +kernel, by decide +kernel⟩
theorem ok_and (F : FnI K "Formula.__and__" "__and__" 13 3 f fd) (S : SCls K C fS) (GS : FnOk P w K mg base CX0 3 fS fdS ["self"] (spMStr C)) (FS : FnI K "Formula.__str__" "__str__" 13 7 fS fdS) (M : MTxt K mg C fI)
    (GI : FnOk P w K mg base (L2.CX P w) 5 fI fdI ["self", "text"] (spInitF K C CB)) (FI : FnI K "Formula.__init__" "__init__" 13 0 fI fdI) (GA : FnOk P w K mg base CX0 7 fA fdA ["thing"] (spAs C)) (FA : FnT K "as_formula" 14 fA fdA) (gA : mg "as_formula" = some (.ref fA)) :
    FnOk P w K mg base CX0 8 f fd ["self", "other"] (spBin C ") and (") := by
  have bS : L2.Binds K fdS ["self"] [] := FS.bindsN fun _ _ _ _ _ _ us hl => match us, hl with | [_], _ => rfl
  have bI : L2.Binds K fdI ["self", "text"] [] := FI.bindsN fun _ _ _ _ _ _ us hl => match us, hl with | [_, _], _ => rfl
  have bA : L2.Binds K fdA ["thing"] [] := FA.bindsN fun _ _ _ _ _ _ us hl => match us, hl with | [_], _ => rfl
  have gF := M.g
  have MF := M.mkr
  refine F.ok sc_and (fun vs H Q E h => ?_) (fun cdv A outer s H vs Q E hr h => ⟨_, PSs.nox (pss_one (ps_ret (pe_make MF GI (hr.mono (by decide)) rfl gF bI .nil passL (pa_cons (pe_joined (PJ.cons pe_str (PJ.cons (pe_fmtI S GS (hr.mono (by decide)) bS (pv 0)) (PJ.cons pe_str (PJ.cons (pe_fmtI S GS (hr.mono (by decide)) bS (pe_call GA (hr.mono (by decide)) rfl gA FA.kp bA .nil pass0 (pa_cons (pv 1) pa_nil))) (PJ.cons pe_str PJ.nil)))))) pa_nil)))), ?_⟩)
  · obtain ⟨a, b, t, u, rfl, _⟩ := h
    rfl
  · obtain ⟨a, b, t, u, rfl, fa, fb, wa, wb, la, lb, hz, hs, q⟩ := h
    have line : (4000 : Nat) ≤ sizeLine := by decide
    unfold binText at hz hs q
    have l1 := hz
    rw [len_app, len_app, len_app, len_app, len_app] at l1
    obtain ⟨dx, p, a1, a2⟩ := fa
    refine ⟨_, rfl, by decide, _, rfl, a, dx, _, rfl, a1, a, t, rfl, ⟨dx, p, a1, a2⟩, wa, la, fun G s1 => ⟨_, rfl, _, rfl, by rw [len_app, len_app]; omega, _, rfl, by rw [len_app, len_app, len_app]; omega, ?_⟩⟩
    refine ⟨_, rfl, .ref b, rfl, .inl ⟨b, post u, rfl, fb.same s1, ?_⟩⟩
    obtain ⟨dy, p2, b1, b2⟩ := fb.same s1
    refine ⟨b, dy, _, rfl, b1, b, u, rfl, ⟨dy, p2, b1, b2⟩, wb, lb, fun G2 s2 => ⟨_, rfl, _, rfl, by rw [len_app, len_app, len_app, len_app]; omega, _, rfl, by omega, ?_⟩⟩
    exact rd_mkF hz hs fun c G3 s3 n3 f3 => q c G3 ((s1.trans s2).trans s3) ((s1.trans s2).free n3) f3
theorem sc_or : FnScope ["self", "other"] ["self", "other"] (defScope (inClass (tp 13) 4)) := ⟨rfl, rfl, rfl, by decide +kernel, rfl, by decide +kernel, by decide +kernel⟩
theorem ok_or (F : FnI K "Formula.__or__" "__or__" 13 4 f fd) (S : SCls K C fS) (GS : FnOk P w K mg base CX0 3 fS fdS ["self"] (spMStr C)) (FS : FnI K "Formula.__str__" "__str__" 13 7 fS fdS) (M : MTxt K mg C fI)
    (GI : FnOk P w K mg base (L2.CX P w) 5 fI fdI ["self", "text"] (spInitF K C CB)) (FI : FnI K "Formula.__init__" "__init__" 13 0 fI fdI) (GA : FnOk P w K mg base CX0 7 fA fdA ["thing"] (spAs C)) (FA : FnT K "as_formula" 14 fA fdA) (gA : mg "as_formula" = some (.ref fA)) :
    FnOk P w K mg base CX0 8 f fd ["self", "other"] (spBin C ") or (") := by
  have bS : L2.Binds K fdS ["self"] [] := FS.bindsN fun _ _ _ _ _ _ us hl => match us, hl with | [_], _ => rfl
  have bI : L2.Binds K fdI ["self", "text"] [] := FI.bindsN fun _ _ _ _ _ _ us hl => match us, hl with | [_, _], _ => rfl
  have bA : L2.Binds K fdA ["thing"] [] := FA.bindsN fun _ _ _ _ _ _ us hl => match us, hl with | [_], _ => rfl
  have gF := M.g
  have MF := M.mkr
  refine F.ok sc_or (fun vs H Q E h => ?_) (fun cdv A outer s H vs Q E hr h => ⟨_, PSs.nox (pss_one (ps_ret (pe_make MF GI (hr.mono (by decide)) rfl gF bI .nil passL (pa_cons (pe_joined (PJ.cons pe_str (PJ.cons (pe_fmtI S GS (hr.mono (by decide)) bS (pv 0)) (PJ.cons pe_str (PJ.cons (pe_fmtI S GS (hr.mono (by decide)) bS (pe_call GA (hr.mono (by decide)) rfl gA FA.kp bA .nil pass0 (pa_cons (pv 1) pa_nil))) (PJ.cons pe_str PJ.nil)))))) pa_nil)))), ?_⟩)
  · obtain ⟨a, b, t, u, rfl, _⟩ := h
    rfl
  · obtain ⟨a, b, t, u, rfl, fa, fb, wa, wb, la, lb, hz, hs, q⟩ := h
    have line : (4000 : Nat) ≤ sizeLine := by decide
    unfold binText at hz hs q
    have l1 := hz
    rw [len_app, len_app, len_app, len_app, len_app] at l1
    obtain ⟨dx, p, a1, a2⟩ := fa
    refine ⟨_, rfl, by decide, _, rfl, a, dx, _, rfl, a1, a, t, rfl, ⟨dx, p, a1, a2⟩, wa, la, fun G s1 => ⟨_, rfl, _, rfl, by rw [len_app, len_app]; omega, _, rfl, by rw [len_app, len_app, len_app]; omega, ?_⟩⟩
    refine ⟨_, rfl, .ref b, rfl, .inl ⟨b, post u, rfl, fb.same s1, ?_⟩⟩
    obtain ⟨dy, p2, b1, b2⟩ := fb.same s1
    refine ⟨b, dy, _, rfl, b1, b, u, rfl, ⟨dy, p2, b1, b2⟩, wb, lb, fun G2 s2 => ⟨_, rfl, _, rfl, by rw [len_app, len_app, len_app, len_app]; omega, _, rfl, by omega, ?_⟩⟩
    exact rd_mkF hz hs fun c G3 s3 n3 f3 => q c G3 ((s1.trans s2).trans s3) ((s1.trans s2).free n3) f3
theorem sc_inv : FnScope ["self"] ["self"] (defScope (inClass (tp 13) 5)) := ⟨rfl, rfl, rfl, by decide +kernel, rfl, by decide +kernel, by decide +kernel⟩
theorem ok_inv (F : FnI K "Formula.__invert__" "__invert__" 13 5 f fd) (S : SCls K C fS) (GS : FnOk P w K mg base CX0 3 fS fdS ["self"] (spMStr C)) (FS : FnI K "Formula.__str__" "__str__" 13 7 fS fdS) (M : MTxt K mg C fI)
    (GI : FnOk P w K mg base (L2.CX P w) 5 fI fdI ["self", "text"] (spInitF K C CB)) (FI : FnI K "Formula.__init__" "__init__" 13 0 fI fdI) : FnOk P w K mg base CX0 8 f fd ["self"] (spInv C) := by
  have bS : L2.Binds K fdS ["self"] [] := FS.bindsN fun _ _ _ _ _ _ us hl => match us, hl with | [_], _ => rfl
  have bI : L2.Binds K fdI ["self", "text"] [] := FI.bindsN fun _ _ _ _ _ _ us hl => match us, hl with | [_, _], _ => rfl
  have gF := M.g
  have MF := M.mkr
  refine F.ok sc_inv (fun vs H Q E h => ?_) (fun cdv A outer s H vs Q E hr h => ⟨_, PSs.nox (pss_one (ps_ret (pe_make MF GI (hr.mono (by decide)) rfl gF bI .nil passL (pa_cons (pe_joined (PJ.cons pe_str (PJ.cons (pe_fmtI S GS (hr.mono (by decide)) bS (pv 0)) (PJ.cons pe_str PJ.nil)))) pa_nil)))), ?_⟩)
  · obtain ⟨a, t, rfl, _⟩ := h
    rfl
  · obtain ⟨a, t, rfl, fa, wa, la, hz, hs, q⟩ := h
    have line : (4000 : Nat) ≤ sizeLine := by decide
    unfold negText at hz hs q
    have l1 := hz
    rw [len_app, len_app, len_app] at l1
    obtain ⟨dx, p, a1, a2⟩ := fa
    refine ⟨_, rfl, by decide, _, rfl, a, dx, _, rfl, a1, a, t, rfl, ⟨dx, p, a1, a2⟩, wa, la, fun G s1 => ⟨_, rfl, _, rfl, by rw [len_app, len_app]; omega, _, rfl, by omega, ?_⟩⟩
    exact rd_mkF hz hs fun c G3 s3 n3 f3 => q c G3 (s1.trans s3) (s1.free n3) f3
end
end Fx
set_option maxHeartbeats 2000000
namespace Fx
open PySem PySem.Spec PyProof.Rows L2 TL

/-- numbers below the sizes -/
def Rng : List Int → List Int → Prop
  | [], [] => True
  | n :: ns, s :: ss => (0 ≤ n ∧ n < s) ∧ Rng ns ss
  | _, _ => False
theorem Rng.snoc : ∀ {ns ss : List Int} {n s : Int}, Rng ns ss → 0 ≤ n → n < s → Rng (ns ++ [n]) (ss ++ [s])
  | [], [], _, _, _, h0, h1 => ⟨⟨h0, h1⟩, trivial⟩
  | _ :: _, _ :: _, _, _, ⟨h, r⟩, h0, h1 => ⟨h, Rng.snoc r h0 h1⟩
  | [], _ :: _, _, _, h, _, _ => h.elim
  | _ :: _, [], _, _, h, _, _ => h.elim
theorem Rng.len : ∀ {ns ss : List Int}, Rng ns ss → ns.length = ss.length
  | [], [], _ => rfl
  | _ :: _, _ :: _, ⟨_, r⟩ => by rw [List.length_cons, List.length_cons, Rng.len r]
  | [], _ :: _, h => h.elim
  | _ :: _, [], h => h.elim
theorem Rng.at : ∀ {ns ss : List Int} {i : Nat} {n : Int}, Rng ns ss → ns[i]? = some n → ∃ s, ss[i]? = some s ∧ 0 ≤ n ∧ n < s
  | [], _, _, _, _, e => by simp at e
  | n :: ns, s :: ss, 0, m, ⟨h, _⟩, e => by
    have e2 : n = m := by simpa using e
    subst e2
    exact ⟨s, rfl, h⟩
  | n :: ns, s :: ss, i + 1, m, ⟨_, r⟩, e => by
    have e2 : ns[i]? = some m := by simpa using e
    obtain ⟨t, h1, h2⟩ := Rng.at r e2
    exact ⟨t, by simpa using h1, h2⟩
  | _ :: _, [], _, _, h, _ => h.elim
theorem rd_appI {H0 G : Hp} {l : Addr} {xs : List Int} {y : Int} {Qd : Hp → Prop} (hl : H0 l = none) (s : Same H0 G) (h : G l = some (.lst (xs.map V.int))) (z : xs.length < sizeLine)
    (k : ∀ G', Same H0 G' → G' l = some (.lst ((xs ++ [y]).map V.int)) → (∀ b, b ≠ l → G' b = G b) → Qd G') : rAppend (.ref l) [.int y] G (fun _ H => Qd H) := by
  refine ⟨l, _, _, rfl, rfl, h, by rw [List.length_map]; exact z, k _ ?_ ?_ fun b hb => upd_ne hb⟩
  · intro b u hb
    rw [upd_ne (ne_of_none hb hl)]
    exact s b u hb
  · rw [upd_same, List.map_append] <;> rfl
theorem int_at {xs : List Int} {i : Nat} {x : V} (h : (xs.map V.int)[i]? = some x) : ∃ n, xs[i]? = some n ∧ x = V.int n := by
  rw [List.getElem?_map] at h
  cases e : xs[i]? with
  | none =>
    rw [e] at h
    cases h
  | some n =>
    rw [e] at h
    exact ⟨n, rfl, (Option.some.inj h).symm⟩
structure LTxt (mg : Str → Option Value) : Prop where
  int : mg "int" = none
  len : mg "len" = none
  range : mg "range" = none
section
variable {P : Program} {w : World} {K : PySem.W.Frag} {mg : Str → Option Value} {base : Heap} {f : Addr} {fd : FuncData}
def spCell (K : PySem.W.Frag) : Sp := fun vs H Q _ => ∃ (a : Addr) (k : Nat) (ns : List Int), vs = [.ref a, .int k] ∧ SqL K H a (ns.map V.int) ∧ ∀ i, Q (.int i) H
theorem sc_cell : FnScope ["_law_script", "_law_k"] ["_law_script", "_law_k"] (defScope (tp 26)) := ⟨rfl, rfl, rfl, by decide +kernel, rfl, by decide +kernel, by decide +kernel⟩
theorem ok_cell (F : FnT K "_law_cell" 26 f fd) (T : LTxt mg) : FnOk P w K mg base CX0 1 f fd ["_law_script", "_law_k"] (spCell K) := by
  refine F.ok sc_cell (fun vs H Q E h => ?_) (fun cdv A outer s H vs Q E hr h => ⟨_, PSs.nox (
    pss_cons (ps_if (pt_cmpR op_lt (pv 1) (pe_callB call_len rfl T.len boot_len (pa_cons (pv 0) pa_nil)) (nomark _)) (pss_one (ps_ret (pe_ix ix_list (pv 0) (pv 1) (fun _ _ => rfl)))) pss_nil)
    (pss_one (ps_ret pe_int))), ?_⟩)
  · obtain ⟨a, k, ns, rfl, _⟩ := h
    rfl
  · obtain ⟨a, k, ns, rfl, hs, q⟩ := h
    refine ⟨_, rfl, _, rfl, _, (ns.map V.int).length, rfl, .inl ⟨_, hs, rfl⟩, _, _, rfl, rfl, _, rfl, ?_⟩
    refine ite2 (fun c => ?_) fun _ => q 0
    have c2 : (k : Int) < ((ns.map V.int).length : Int) := of_decide_eq_true c
    have c3 : k < (ns.map V.int).length := by omega
    have c4 : k < ns.length := by rw [List.length_map] at c3; exact c3
    refine ⟨_, rfl, _, rfl, a, _, (k : Int), .int (ns[k]), rfl, rfl, hs, ?_, q _⟩
    exact atI_nat (by simp [c4])
def spRow (K : PySem.W.Frag) : Sp := fun vs H Q _ => ∃ (c : Int) (a : Addr) (sz : List Int), vs = [.int c, .ref a] ∧ SqL K H a (sz.map V.int) ∧ sz.length ≤ 1000 ∧ (∀ s ∈ sz, 0 < s ∧ s < 1073741824) ∧
  ∀ p G ns, Same H G → H p = none → G p = some (.lst (ns.map V.int)) → Rng ns sz → Q (.ref p) G
theorem sc_row : FnScope ["_law_cell_here", "_law_sizes", "_law_out", "_law_size", "_law_seed", "_law_k", "_law_mixed"] ["_law_cell_here", "_law_sizes"] (defScope (tp 27)) := ⟨rfl, rfl, rfl, by decide +kernel, rfl, by decide +kernel, by decide +kernel⟩
theorem ok_row (F : FnT K "_law_row" 27 f fd) (T : LTxt mg) : FnOk P w K mg base CX0 1 f fd ["_law_cell_here", "_law_sizes"] (spRow K) := by
  refine F.ok sc_row (fun vs H Q E h => ?_) (fun cdv A outer s H vs Q E hr h => ⟨_, PSs.nox (pss_cons (ps_set (i := 2) sc_row.nd rfl (Or.inl rfl) (pe_lst pa_nil))
      (pss_cons (ps_if (pt_cmpR op_ge (pv 0) (pe_op op_pow pe_int pe_int) (nomark _)) (pss_cons (ps_for PassesOwn.never rfl (pi_list (pv 1)) (pg_name (i := 3) sc_row.nd rfl (Or.inl rfl)) (pss_cons (ps_expr (pe_bm PySem.F.plainAttrs_list PySem.F.slot_list_append PySem.F.type_list_append mt_append (pv 2) (pa_cons (pe_op op_mod (pe_callTy call_int1 rfl T.int (by decide +kernel) (pa_cons (pv 0) pa_nil)) (pv 3)) pa_nil)))
      (pss_one (ps_set (i := 0) sc_row.nd rfl (Or.inl rfl) (pe_op op_fdiv (pv 0) (pv 3))))))
      (pss_one (ps_ret (pv 2)))) pss_nil)
      (pss_cons (ps_set (i := 4) sc_row.nd rfl (Or.inl rfl) (pe_op op_mod (pe_callTy call_int1 rfl T.int (by decide +kernel) (pa_cons (pv 0) pa_nil)) pe_int))
      (pss_cons (ps_for PassesOwn.never rfl (pi_range1 rfl T.range (pa_cons (pe_callB call_len rfl T.len boot_len (pa_cons (pv 1) pa_nil)) pa_nil)) (pg_name (i := 5) sc_row.nd rfl (Or.inl rfl)) (pss_cons (ps_set (i := 6) sc_row.nd rfl (Or.inl rfl) (pe_op op_add (pe_op op_mod (pe_callTy call_int1 rfl T.int (by decide +kernel) (pa_cons (pe_op op_pow (pe_op op_add (pe_op op_add (pv 4) (pe_op op_mul pe_int (pv 5))) pe_int) pe_int) pa_nil)) pe_int) (pv 5)))
      (pss_one (ps_expr (pe_bm PySem.F.plainAttrs_list PySem.F.slot_list_append PySem.F.type_list_append mt_append (pv 2) (pa_cons (pe_op op_mod (pe_callTy call_int1 rfl T.int (by decide +kernel) (pa_cons (pe_op op_mod (pe_callTy call_int1 rfl T.int (by decide +kernel) (pa_cons (pe_op op_mul (pv 6) pe_int) pa_nil)) pe_int) pa_nil)) (pe_ix ix_list (pv 1) (pv 5) (fun _ _ => rfl))) pa_nil))))))
      (pss_one (ps_ret (pv 2))))))), ?_⟩)
  · obtain ⟨c, a, sz, rfl, _⟩ := h
    rfl
  · obtain ⟨c, a, sz, rfl, hs, hl, hp, q⟩ := h
    have line : (100000 : Nat) ≤ sizeLine := by decide
    refine ⟨Nat.zero_le _, fun o ho => ?_⟩
    have s0 := same_new ho (u := .lst [])
    refine ⟨_, rfl, _, _, rfl, rfl, ⟨by decide, by decide, by decide⟩, _, _, rfl, rfl, _, rfl, ?_⟩
    refine ite2 (fun _ => ?_) fun _ => ?_
    · refine ⟨_, rfl, a, rfl, ⟨_, s0.seq hs⟩, for_list (K := K) (a := a) (xs := sz.map V.int)
        (fun i σ G => ∃ c ns o3 o4 o5 o6, σ = [some (.int c), some (.ref a), some (.ref o), o3, o4, o5, o6] ∧ Same H G ∧ G o = some (.lst (List.map V.int ns)) ∧ Rng ns (sz.take i))
        ⟨c, [], none, none, none, none, rfl, s0, upd_same, trivial⟩ (fun i σ G _ h => by
          obtain ⟨_, _, _, _, _, _, _, h, _⟩ := h
          exact h.seq hs) ?_ (fun σ G h => by
          obtain ⟨c, ns, o3, o4, o5, o6, rfl, s1, g, r⟩ := h
          rw [List.length_map, List.take_length] at r
          exact ⟨_, rfl, q o G ns s1 ho g r⟩)⟩
      rintro i x σ G hi ⟨c, ns, o3, o4, o5, o6, rfl, s1, g, r⟩
      obtain ⟨n, hn, rfl⟩ := int_at hi
      obtain ⟨p1, p2⟩ := hp n (List.mem_of_getElem? hn)
      have rl := r.len
      have tl2 := List.length_take_le' i sz
      refine ⟨_, rfl, .inl ⟨rfl, _, SqL.of g⟩, _, rfl, .inl ⟨c, rfl, _, rfl, _, _, rfl, rfl, p1, ?_⟩⟩
      refine rd_appI ho s1 g (by omega) fun G' h1 h2 h3 => ?_
      refine ⟨_, rfl, _, rfl, _, _, rfl, rfl, ⟨p1, p2⟩, ?_⟩
      refine ⟨_, _, _, _, _, _, rfl, h1, h2, ?_⟩
      rw [take_snoc hn]
      exact r.snoc (Int.emod_nonneg _ (by omega)) (Int.emod_lt_of_pos _ p1)
    · have m0 := Int.emod_nonneg c (show (2147483647 : Int) ≠ 0 by decide)
      have m1 := Int.emod_lt_of_pos c (show (0 : Int) < 2147483647 by decide)
      have e62 : (2 : Int) ^ 62 = 4611686018427387904 := by decide
      have e64 : (2 : Nat) ^ 64 = 18446744073709551616 := by decide
      refine ⟨_, rfl, .inl ⟨c, rfl, _, _, rfl, rfl, (show (0 : Int) < 2147483647 by decide), ?_⟩⟩
      refine ⟨_, rfl, _, sz.length, rfl, .inl ⟨_, s0.seq hs, by rw [List.length_map]⟩, (sz.length : Int), rfl, by omega, by omega, for_range (n := ((sz.length : Int)).toNat)
        (fun i σ G => ∃ ns o3 o5 o6, σ = [some (.int c), some (.ref a), some (.ref o), o3, some (.int (c % 2147483647)), o5, o6] ∧ Same H G ∧ G o = some (.lst (List.map V.int ns)) ∧ Rng ns (sz.take i))
        ⟨[], none, none, none, rfl, s0, upd_same, trivial⟩ ?_ (fun σ G h => by
          obtain ⟨ns, o3, o5, o6, rfl, s1, g, r⟩ := h
          have e : ((sz.length : Int)).toNat = sz.length := by omega
          rw [e, List.take_length] at r
          exact ⟨_, rfl, q o G ns s1 ho g r⟩)⟩
      rintro i σ G hi ⟨ns, o3, o5, o6, rfl, s1, g, r⟩
      have hi2 : i < sz.length := by omega
      obtain ⟨p1, p2⟩ := hp sz[i] (List.getElem_mem hi2)
      have rl := r.len
      have tl2 := List.length_take_le' i sz
      refine ⟨_, rfl, _, rfl, _, _, rfl, rfl, .inl ⟨by decide, by decide⟩, _, _, rfl, rfl, _, _, rfl, rfl, _, _, rfl, rfl, ⟨by decide, by decide, ?_⟩, .inl ⟨_, rfl, _, _, rfl, rfl, (show (0 : Int) < 2147483647 by decide), _, rfl, _, _, rfl, rfl, ?_⟩⟩
      · rw [e64]
        show (c % 2147483647 + 7919 * (0 + (i : Int)) + 104729).natAbs < _
        omega
      refine ⟨_, rfl, .inl ⟨rfl, _, SqL.of g⟩, _, rfl, _, _, rfl, rfl, .inr ⟨by decide, by decide⟩, .inl ⟨_, rfl, _, _, rfl, rfl, (show (0 : Int) < 2147483629 by decide), .inl ⟨_, rfl, _, rfl, _, rfl, a, _, (0 + (i : Int)), .int sz[i], rfl, rfl, s1.seq hs, ?_, _, _, rfl, rfl, p1, ?_⟩⟩⟩
      · rw [Int.zero_add]
        exact atI_nat (by simp [hi2])
      refine rd_appI ho s1 g (by omega) fun G' h1 h2 h3 => ⟨_, _, _, _, rfl, h1, h2, ?_⟩
      rw [take_snoc (List.getElem?_eq_getElem hi2)]
      exact r.snoc (Int.emod_nonneg _ (by omega)) (Int.emod_lt_of_pos _ p1)
end
end Fx
set_option maxHeartbeats 2000000
namespace Fx
open PySem PySem.Spec PyProof.Rows L2 TL

/-! ### the law's trees -/
inductive LT where
  | word (z : Str)
  | cst (b : Bool)
  | neg (t : LT)
  | nary (k : Bool) (ts : List LT)
def kindOf (k : Bool) : Str := if k then "and" else "or"
def cstOf (b : Bool) : Str := if b then "all" else "none"
mutual
def TreeAt (H : Hp) : LT → V → Prop
  | .word z, v => ∃ p, v = .ref p ∧ H p = some (.tup [.str "word", .str z])
  | .cst b, v => ∃ p, v = .ref p ∧ H p = some (.tup [.str (cstOf b)])
  | .neg t, v => ∃ p u, v = .ref p ∧ H p = some (.tup [.str "not", u]) ∧ TreeAt H t u
  | .nary k ts, v => ∃ p l us, v = .ref p ∧ H p = some (.tup [.str (kindOf k), .ref l]) ∧ H l = some (.lst us) ∧ TreesAt H ts us
def TreesAt (H : Hp) : List LT → List V → Prop
  | [], us => us = []
  | t :: ts, us => ∃ u r, us = u :: r ∧ TreeAt H t u ∧ TreesAt H ts r
end
mutual
theorem treeAt_same {H G : Hp} (s : Same H G) : ∀ {T : LT} {v : V}, TreeAt H T v → TreeAt G T v
  | .word _, _, ⟨p, e, h⟩ => ⟨p, e, s _ _ h⟩
  | .cst _, _, ⟨p, e, h⟩ => ⟨p, e, s _ _ h⟩
  | .neg _, _, ⟨p, u, e, h, r⟩ => ⟨p, u, e, s _ _ h, treeAt_same s r⟩
  | .nary _ _, _, ⟨p, l, us, e, h1, h2, r⟩ => ⟨p, l, us, e, s _ _ h1, s _ _ h2, treesAt_same s r⟩
theorem treesAt_same {H G : Hp} (s : Same H G) : ∀ {ts : List LT} {us : List V}, TreesAt H ts us → TreesAt G ts us
  | [], _, h => h
  | _ :: _, _, ⟨u, r, e, h1, h2⟩ => ⟨u, r, e, treeAt_same s h1, treesAt_same s h2⟩
end
theorem TreesAt.snoc {H : Hp} {T : LT} {v : V} : ∀ {ts : List LT} {us : List V}, TreesAt H ts us → TreeAt H T v → TreesAt H (ts ++ [T]) (us ++ [v])
  | [], us, h, ht => by
    have e : us = [] := h
    subst e
    exact ⟨v, [], rfl, ht, rfl⟩
  | _ :: _, _, ⟨u, r, e, h1, h2⟩, ht => ⟨u, r ++ [v], by rw [e] <;> rfl, h1, TreesAt.snoc h2 ht⟩
/-- the heap without the list that is read from -/
def hid (l : Addr) (H : Hp) : Hp := fun b => if b = l then none else H b
theorem hid_ne {l b : Addr} {H : Hp} (h : b ≠ l) : hid l H b = H b := if_neg h
theorem hid_some {l b : Addr} {H : Hp} {o : HO} (h : hid l H b = some o) : b ≠ l ∧ H b = some o := by
  unfold hid at h
  split at h
  · cases h
  · rename_i n
    exact ⟨n, h⟩
theorem hid_at {l b : Addr} {H : Hp} {o : HO} (n : b ≠ l) (h : H b = some o) : hid l H b = some o := (hid_ne n).trans h
theorem hid_upd {l : Addr} {H : Hp} {o : HO} : Same (hid l H) (hid l (upd H l o)) := fun b u h => by
  obtain ⟨n, h⟩ := hid_some h
  rw [hid_ne n, upd_ne n]
  exact h
theorem hid_new {l p : Addr} {H : Hp} {o : HO} (h : H p = none) : Same (hid l H) (hid l (upd H p o)) := fun b u q => by
  obtain ⟨n, q⟩ := hid_some q
  rw [hid_ne n, upd_ne (ne_of_none q h)]
  exact q
/-- all but l stands as it was -/
def Frm (l : Addr) (H G : Hp) : Prop := ∀ b o, b ≠ l → H b = some o → G b = some o
theorem Frm.refl (l : Addr) (H : Hp) : Frm l H H := fun _ _ _ h => h
theorem Frm.trans {l : Addr} {H G F : Hp} (a : Frm l H G) (b : Frm l G F) : Frm l H F := fun x o n h => b x o n (a x o n h)
theorem Frm.same {l : Addr} {H G : Hp} (s : Same H G) : Frm l H G := fun b o _ h => s b o h
theorem Frm.upd {l : Addr} {H : Hp} {u : HO} : Frm l H (L2.upd H l u) := fun b o n h => by
  rw [upd_ne n]
  exact h
theorem Frm.none {l b : Addr} {H G : Hp} (f : Frm l H G) (hl : ∃ o, H l = some o) {u : HO} (gl : G l = some u) (h : G b = none) : H b = none := by
  cases q : H b with
  | none => rfl
  | some o =>
    by_cases e : b = l
    · rw [e, gl] at h
      cases h
    · rw [f b o e q] at h
      cases h
/-- what is new since H -/
def nw (H G : Hp) : Hp := fun b => match H b with
  | none => G b
  | some _ => none
theorem nw_at {H G : Hp} {b : Addr} {o : HO} (n : H b = none) (h : G b = some o) : nw H G b = some o := by
  unfold nw
  rw [n]
  exact h
theorem nw_some {H G : Hp} {b : Addr} {o : HO} (h : nw H G b = some o) : H b = none ∧ G b = some o := by
  unfold nw at h
  split at h
  · rename_i n
    exact ⟨n, h⟩
  · cases h
theorem nw_keep {l : Addr} {H G F : Hp} (hl : ∃ o, H l = some o) (f : Frm l G F) : Same (nw H G) (nw H F) := fun b o h => by
  obtain ⟨n, g⟩ := nw_some h
  refine nw_at n (f b o (fun e => ?_) g)
  obtain ⟨u, hu⟩ := hl
  rw [e, hu] at n
  cases n
theorem nw_mono {l : Addr} {H H1 G : Hp} (f : Frm l H H1) (hl : ∃ o, H l = some o) {u : HO} (gl : H1 l = some u) : Same (nw H1 G) (nw H G) := fun b o h => by
  obtain ⟨n, g⟩ := nw_some h
  exact nw_at (f.none hl gl n) g
theorem nw_keep2 {l d : Addr} {H G F : Hp} (hl : ∃ o, H l = some o) (hd : ∃ o, H d = some o) (f : ∀ b o, b ≠ l → b ≠ d → G b = some o → F b = some o) : Same (nw H G) (nw H F) := fun b o h => by
  obtain ⟨n, g⟩ := nw_some h
  refine nw_at n (f b o (fun e => ?_) (fun e => ?_) g)
  · obtain ⟨u, hu⟩ := hl
    rw [e, hu] at n
    cases n
  · obtain ⟨u, hu⟩ := hd
    rw [e, hu] at n
    cases n
/-- trees of at most so many levels over these words -/
def LtOk (ws : List Str) : Nat → LT → Prop
  | _, .word z => z ∈ ws
  | _, .cst _ => True
  | 0, .neg _ => False
  | 0, .nary _ _ => False
  | d + 1, .neg t => LtOk ws d t
  | d + 1, .nary _ ts => (ts.length = 2 ∨ ts.length = 3) ∧ ∀ t ∈ ts, LtOk ws d t
theorem can_ints : ∀ ns : List Int, PyData.canLayAll0 (ns.map PyData.int) = true
  | [] => rfl
  | n :: ns => by
    show (true && PyData.canLayAll0 (ns.map PyData.int)) = true
    rw [can_ints ns] <;> rfl
theorem depth_ints : ∀ ns : List Int, PyData.depthAll (ns.map PyData.int) ≤ 0
  | [] => Nat.le_refl _
  | n :: ns => Nat.max_le.mpr ⟨Nat.le_refl _, depth_ints ns⟩
theorem shaped_ints (ns : List Int) : SeqAt.shaped (.list (ns.map PyData.int)) = true := by
  have h := depth_ints ns
  have h2 : PyData.depth (.list (ns.map PyData.int)) ≤ 64 := by
    show PyData.depthAll (ns.map PyData.int) + 1 ≤ 64
    omega
  unfold SeqAt.shaped
  rw [decide_eq_true h2]
  show (PyData.canLayAll0 (ns.map PyData.int) && true) = true
  rw [can_ints] <;> rfl
theorem dp_ints {K : PySem.W.Frag} {H : Hp} : ∀ ns : List Int, DpAll K H (ns.map V.int) (ns.map PyData.int)
  | [] => .nil
  | n :: ns => .cons (.int n) (dp_ints ns)
def rSubI : R2 := rI0 fun i j => .int (i - j)
def treeN : List Str := ["_law_left", "_law_words", "_law_depth", "_law_draw", "_law_way", "_law_pick", "_law_parts", "_law_k"]
section
variable {P : Program} {w : World} {K : PySem.W.Frag} {mg : Str → Option Value} {base : Heap} {f : Addr} {fd : FuncData}
def spTree (K : PySem.W.Frag) (d : Nat) : Sp := fun vs H Q _ => ∃ (lf wd : Addr) (ns : List Int) (ws : List Str), vs = [.ref lf, .ref wd, .int d] ∧ H lf = some (.lst (ns.map V.int)) ∧ SqL K (hid lf H) wd (ws.map V.str) ∧ ws.length ≤ 1000 ∧
  ∀ T v G ns', LtOk ws d T → Frm lf H G → G lf = some (.lst (List.map V.int ns')) → TreeAt (nw H G) T v → Q v G
theorem sqL_hid {H : Hp} {l a : Addr} {xs : List V} (h : SqL K (hid l H) a xs) : SqL K H a xs := by
  rcases h with (h | ⟨o, h⟩) | h
  · exact .inl (.inl (hid_some h).2)
  · exact .inl (.inr ⟨o, (hid_some h).2⟩)
  · exact .inr h
theorem sc_tree : FnScope ["_law_left", "_law_words", "_law_depth", "_law_draw", "_law_way", "_law_pick", "_law_parts", "_law_k"] ["_law_left", "_law_words", "_law_depth"] (defScope (tp 28)) := ⟨rfl, rfl, rfl, by decide +kernel, rfl, by decide +kernel, by decide +kernel⟩
theorem seq_zero {n : Nat} (h : 0 < n) : seqIndex? 0 n = some 0 := by
  unfold seqIndex?
  have h2 : (0 : Int) < (n : Int) := by omega
  simp [h2]
  omega
theorem base_tree (F : FnT K "_law_tree" 28 f fd) (T : LTxt mg) : FnOk P w K mg base CX0 1 f fd ["_law_left", "_law_words", "_law_depth"] (spTree K 0) := by
  refine F.ok sc_tree (fun vs H Q E h => by
    obtain ⟨lf, wd, ns, ws, rfl, _⟩ := h
    rfl) (fun cdv A outer s H vs Q E hr h => ?_)
  suffices z : ∃ t, PSs (cxOf CX0 P w K mg base treeN "_law_tree" (defScope (tp 28)) f cdv A outer s H E).nox (defBody (tp 28)) t ∧ t { nx := fun _ H' => Q .non H', rt := Q } (L2.start treeN vs) H by
    obtain ⟨t, h1, h2⟩ := z
    exact ⟨t, PSs.nox h1, h2⟩
  have rest : ∃ t, PSs (cxOf CX0 P w K mg base treeN "_law_tree" (defScope (tp 28)) f cdv A outer s H E).nox (defBody (tp 28)).tail t ∧ ∀ (lf wd : Addr) (ns : List Int) (ws : List Str), H lf = some (.lst (List.map V.int ns)) → SqL K (hid lf H) wd (ws.map V.str) → ws.length ≤ 1000 →
      (∀ T v G ns', LtOk ws (0) T → Frm lf H G → G lf = some (.lst (List.map V.int ns')) → TreeAt (nw H G) T v → Q v G) →
      ∀ (dr : Int) (G : Hp) (ns1 : List Int), Frm lf H G → G lf = some (.lst (ns1.map V.int)) → t { nx := fun _ H' => Q .non H', rt := Q } [some (.ref lf), some (.ref wd), some (.int (((0) : Nat) : Int)), some (.int dr), none, none, none, none] G := by
    refine ⟨_, (pss_cons (ps_set (i := 4) sc_tree.nd rfl (Or.inl rfl) (pe_op op_mod (pe_callTy call_int1 rfl T.int (by decide +kernel) (pa_cons (pv 3) pa_nil)) pe_int))
      (pss_cons (ps_if (PW.pt (pw_or (pt_cmpR op_eq (pv 2) pe_int (nomark _)) (pw_or1 (pt_cmpR op_lt (pv 4) pe_int (nomark _))))) (pss_cons (ps_set (i := 5) sc_tree.nd rfl (Or.inl rfl) (pe_op op_mod (pe_callTy call_int1 rfl T.int (by decide +kernel) (pa_cons (pe_op op_fdiv (pv 3) pe_int) pa_nil)) (pe_op op_add (pe_callB call_len rfl T.len boot_len (pa_cons (pv 1) pa_nil)) pe_int)))
      (pss_cons (ps_if (pt_cmpR op_lt (pv 5) (pe_callB call_len rfl T.len boot_len (pa_cons (pv 1) pa_nil)) (nomark _)) (pss_one (ps_ret (pe_tup (pa_cons pe_str (pa_cons (pe_ix ix_list (pv 1) (pv 5) (fun _ _ => rfl)) pa_nil))))) pss_nil)
      (pss_one (ps_ret (pe_ifExp (pt_cmpR op_gt (pe_op op_mod (pe_callTy call_int1 rfl T.int (by decide +kernel) (pa_cons (pe_op op_fdiv (pv 3) pe_int) pa_nil)) pe_int) pe_int (nomark _)) (pe_tup (pa_cons pe_str pa_nil)) (pe_tup (pa_cons pe_str pa_nil))))))) pss_nil)
      (pss_cons (ps_never) (pss_cons (ps_never) (pss_one (ps_never)))))), ?_⟩
    intro lf wd ns ws hlf hwd hwl q dr G ns1 f1 g1
    have line : (10000 : Nat) ≤ sizeLine := by decide
    have sqw : ∀ G, Frm lf H G → SqL K G wd (ws.map V.str) := fun G f => by
      rcases hwd with (h | ⟨o, h⟩) | h
      · obtain ⟨n, h⟩ := hid_some h
        exact .inl (.inl (f _ _ n h))
      · obtain ⟨n, h⟩ := hid_some h
        exact .inl (.inr ⟨o, f _ _ n h⟩)
      · exact .inr h
    have fin : ∀ (T : LT) (p : Addr) (u : HO), LtOk ws (0) T → G p = none → TreeAt (nw H (upd G p u)) T (.ref p) → Q (.ref p) (upd G p u) := fun T p u ok hp tr =>
      q T (.ref p) _ ns1 ok (f1.trans (Frm.same (same_new hp))) (same_new hp _ _ g1) tr
    refine ⟨_, rfl, .inl ⟨_, rfl, _, _, rfl, rfl, (show (0 : Int) < 8 by decide), ?_⟩⟩
    refine ⟨_, rfl, rfl, _, rfl, ?_⟩
    rw [dec_int]
    refine iteT (iteT ?_)
    refine ⟨_, rfl, _, _, rfl, rfl, ⟨by decide, by decide⟩, .inl ⟨_, rfl, _, rfl, _, ws.length, rfl, .inl ⟨_, sqw G f1, by rw [List.length_map]⟩, _, _, rfl, rfl, _, _, rfl, rfl, (show (0 : Int) < (ws.length : Int) + 1 by omega), ?_⟩⟩
    refine ⟨_, rfl, _, rfl, _, ws.length, rfl, .inl ⟨_, sqw G f1, by rw [List.length_map]⟩, _, _, rfl, rfl, _, rfl, ?_⟩
    refine ite2 (fun c2 => ?_) fun c2 => ?_
    · have c3 := of_decide_eq_true c2
      have c4 := Int.emod_nonneg (dr / 8) (show (ws.length : Int) + 1 ≠ 0 by omega)
      obtain ⟨k, hk⟩ := Int.eq_ofNat_of_zero_le c4
      have hk2 : k < ws.length := by
        have w1 : dr / 8 % ((ws.length : Int) + 1) < (ws.length : Int) := c3
        omega
      refine ⟨_, rfl, _, rfl, wd, _, (k : Int), .str ws[k], rfl, by rw [← hk], sqw G f1, atI_nat (by simp [hk2]), (by show 2 ≤ sizeLine; decide), fun p hp => ?_⟩
      exact fin (.word ws[k]) p _ (List.getElem_mem hk2) hp ⟨p, rfl, nw_at (f1.none ⟨_, hlf⟩ g1 hp) upd_same⟩
    · refine ⟨_, rfl, _, _, rfl, rfl, ⟨by decide, by decide⟩, .inl ⟨_, rfl, _, _, rfl, rfl, (show (0 : Int) < 4 by decide), _, _, rfl, rfl, _, rfl, ?_⟩⟩
      refine ite2 (fun c3 => ?_) fun c3 => ?_
      · exact ⟨(by show 1 ≤ sizeLine; decide), fun p hp => fin (.cst true) p _ trivial hp ⟨p, rfl, nw_at (f1.none ⟨_, hlf⟩ g1 hp) upd_same⟩⟩
      · exact ⟨(by show 1 ≤ sizeLine; decide), fun p hp => fin (.cst false) p _ trivial hp ⟨p, rfl, nw_at (f1.none ⟨_, hlf⟩ g1 hp) upd_same⟩⟩
  obtain ⟨t, ht, hq⟩ := rest
  refine ⟨_, pss_cons (ps_set (i := 3) sc_tree.nd rfl (Or.inl rfl) (pe_ifExp (pt_cmpR (op_neD hr.units) (pv 0) (pe_lst pa_nil) (nomark _)) (pe_bm PySem.F.plainAttrs_list PySem.F.slot_list_pop PySem.F.type_list_pop mt_popAt (pv 0) (pa_cons pe_int pa_nil)) pe_int)) ht, ?_⟩
  obtain ⟨lf, wd, ns, ws, rfl, hlf, hwd, hwl, q⟩ := h
  refine ⟨_, rfl, Nat.zero_le _, fun e he => ?_⟩
  have s0 := same_new he (u := .lst [])
  have f0 : Frm lf H (upd H e (.lst [])) := Frm.same s0
  refine ⟨.list (ns.map PyData.int), .list [], .lst (SqL.of (s0 _ _ hlf)) (dp_ints ns), .lst (SqL.of upd_same) .nil, shaped_ints ns, shaped_ints [], _, rfl, ?_⟩
  cases ns with
  | nil => exact iteF (hq lf wd [] ws hlf hwd hwl q 0 _ [] f0 (s0 _ _ hlf))
  | cons n r =>
    refine iteT ⟨_, rfl, .inl ⟨rfl, _, SqL.of (s0 _ _ hlf)⟩, lf, _, 0, 0, .int n, rfl, rfl, s0 _ _ hlf, by decide, by decide, seq_zero (by simp), rfl, ?_⟩
    exact hq lf wd (n :: r) ws hlf hwd hwl q n _ r (f0.trans Frm.upd) upd_same
theorem step_tree (F : FnT K "_law_tree" 28 f fd) (T : LTxt mg) (gT : mg "_law_tree" = some (.ref f)) (d : Nat) (IH : FnOk P w K mg base CX0 (d + 1) f fd ["_law_left", "_law_words", "_law_depth"] (spTree K d)) :
    FnOk P w K mg base CX0 (d + 1 + 1) f fd ["_law_left", "_law_words", "_law_depth"] (spTree K (d + 1)) := by
  have bT : L2.Binds K fd ["_law_left", "_law_words", "_law_depth"] [] := F.bindsN fun _ _ _ _ _ _ us hl => match us, hl with | [_, _, _], _ => rfl
  refine F.ok sc_tree (fun vs H Q E h => by
    obtain ⟨lf, wd, ns, ws, rfl, _⟩ := h
    rfl) (fun cdv A outer s H vs Q E hr h => ?_)
  suffices z : ∃ t, PSs (cxOf CX0 P w K mg base treeN "_law_tree" (defScope (tp 28)) f cdv A outer s H E).nox (defBody (tp 28)) t ∧ t { nx := fun _ H' => Q .non H', rt := Q } (L2.start treeN vs) H by
    obtain ⟨t, h1, h2⟩ := z
    exact ⟨t, PSs.nox h1, h2⟩
  have rest : ∃ t, PSs (cxOf CX0 P w K mg base treeN "_law_tree" (defScope (tp 28)) f cdv A outer s H E).nox (defBody (tp 28)).tail t ∧ ∀ (lf wd : Addr) (ns : List Int) (ws : List Str), H lf = some (.lst (List.map V.int ns)) → SqL K (hid lf H) wd (ws.map V.str) → ws.length ≤ 1000 →
      (∀ T v G ns', LtOk ws (d + 1) T → Frm lf H G → G lf = some (.lst (List.map V.int ns')) → TreeAt (nw H G) T v → Q v G) →
      ∀ (dr : Int) (G : Hp) (ns1 : List Int), Frm lf H G → G lf = some (.lst (ns1.map V.int)) → t { nx := fun _ H' => Q .non H', rt := Q } [some (.ref lf), some (.ref wd), some (.int (((d + 1) : Nat) : Int)), some (.int dr), none, none, none, none] G := by
    refine ⟨_, (pss_cons (ps_set (i := 4) sc_tree.nd rfl (Or.inl rfl) (pe_op op_mod (pe_callTy call_int1 rfl T.int (by decide +kernel) (pa_cons (pv 3) pa_nil)) pe_int))
      (pss_cons (ps_if (PW.pt (pw_or (pt_cmpR op_eq (pv 2) pe_int (nomark _)) (pw_or1 (pt_cmpR op_lt (pv 4) pe_int (nomark _))))) (pss_cons (ps_set (i := 5) sc_tree.nd rfl (Or.inl rfl) (pe_op op_mod (pe_callTy call_int1 rfl T.int (by decide +kernel) (pa_cons (pe_op op_fdiv (pv 3) pe_int) pa_nil)) (pe_op op_add (pe_callB call_len rfl T.len boot_len (pa_cons (pv 1) pa_nil)) pe_int)))
      (pss_cons (ps_if (pt_cmpR op_lt (pv 5) (pe_callB call_len rfl T.len boot_len (pa_cons (pv 1) pa_nil)) (nomark _)) (pss_one (ps_ret (pe_tup (pa_cons pe_str (pa_cons (pe_ix ix_list (pv 1) (pv 5) (fun _ _ => rfl)) pa_nil))))) pss_nil)
      (pss_one (ps_ret (pe_ifExp (pt_cmpR op_gt (pe_op op_mod (pe_callTy call_int1 rfl T.int (by decide +kernel) (pa_cons (pe_op op_fdiv (pv 3) pe_int) pa_nil)) pe_int) pe_int (nomark _)) (pe_tup (pa_cons pe_str pa_nil)) (pe_tup (pa_cons pe_str pa_nil))))))) pss_nil)
      (pss_cons (ps_if (pt_cmpR op_eq (pv 4) pe_int (nomark _)) (pss_one (ps_ret (pe_tup (pa_cons pe_str (pa_cons (pe_call IH hr rfl gT F.kp bT .nil pass0 (pa_cons (pv 0) (pa_cons (pv 1) (pa_cons (pe_op op_sub (pv 2) pe_int) pa_nil)))) pa_nil))))) pss_nil)
      (pss_cons (ps_setLc (i := 6) (own := [("_law_k", 7)]) (g := gName 7) (tt := tYes) (te := tCall (spTree K d) [] E0 (tCons (tVar 0) (tCons (tVar 1) (tCons (tOp rSubI (tVar 2) (tC (.int 1))) tNil)))) rfl sc_tree.nd rfl rfl (sw_true rfl rfl rfl (by decide +kernel))
        (pi_range1 rfl T.range (pa_cons (pe_op op_add pe_int (pe_callTy call_int1 rfl T.int (by decide +kernel) (pa_cons (pe_cmpR op_eq (pv 4) pe_int (nomark _)) pa_nil))) pa_nil)) (blkOk_by (N := treeN) (sc := defScope (tp 28)) (by decide +kernel)) (fun _ _ _ _ _ => pg_name (i := 7) sc_tree.nd rfl (Or.inl rfl)) (fun _ _ _ _ _ => pts_nil)
        (fun _ _ _ _ _ => pe_call IH (by exact hr) rfl gT F.kp bT .nil pass0 (pa_cons (pv 0) (pa_cons (pv 1) (pa_cons (pe_op op_sub (pv 2) pe_int) pa_nil)))))
      (pss_one (ps_ret (pe_tup (pa_cons (pe_ix ix_list (pe_lst (pa_cons pe_str (pa_cons pe_str pa_nil))) (pe_op op_mod (pv 4) pe_int) (fun _ _ => rfl)) (pa_cons (pv 6) pa_nil))))))))), ?_⟩
    intro lf wd ns ws hlf hwd hwl q dr G ns1 f1 g1
    have line : (10000 : Nat) ≤ sizeLine := by decide
    have sqw : ∀ G, Frm lf H G → SqL K G wd (ws.map V.str) := fun G f => by
      rcases hwd with (h | ⟨o, h⟩) | h
      · obtain ⟨n, h⟩ := hid_some h
        exact .inl (.inl (f _ _ n h))
      · obtain ⟨n, h⟩ := hid_some h
        exact .inl (.inr ⟨o, f _ _ n h⟩)
      · exact .inr h
    have fin : ∀ (T : LT) (p : Addr) (u : HO), LtOk ws (d + 1) T → G p = none → TreeAt (nw H (upd G p u)) T (.ref p) → Q (.ref p) (upd G p u) := fun T p u ok hp tr =>
      q T (.ref p) _ ns1 ok (f1.trans (Frm.same (same_new hp))) (same_new hp _ _ g1) tr
    refine ⟨_, rfl, .inl ⟨_, rfl, _, _, rfl, rfl, (show (0 : Int) < 8 by decide), ?_⟩⟩
    have hd0 : (((d + 1 : Nat) : Int) == 0) = false := beq_eq_false_iff_ne.mpr (by omega)
    refine ⟨_, rfl, rfl, _, rfl, ?_⟩
    rw [dec_int, hd0]
    refine iteF ⟨_, rfl, _, _, rfl, rfl, _, rfl, ?_⟩
    refine ite2 (fun c1 => ?_) fun c1 => ?_
    · skip
      refine ⟨_, rfl, _, _, rfl, rfl, ⟨by decide, by decide⟩, .inl ⟨_, rfl, _, rfl, _, ws.length, rfl, .inl ⟨_, sqw G f1, by rw [List.length_map]⟩, _, _, rfl, rfl, _, _, rfl, rfl, (show (0 : Int) < (ws.length : Int) + 1 by omega), ?_⟩⟩
      refine ⟨_, rfl, _, rfl, _, ws.length, rfl, .inl ⟨_, sqw G f1, by rw [List.length_map]⟩, _, _, rfl, rfl, _, rfl, ?_⟩
      refine ite2 (fun c2 => ?_) fun c2 => ?_
      · have c3 := of_decide_eq_true c2
        have c4 := Int.emod_nonneg (dr / 8) (show (ws.length : Int) + 1 ≠ 0 by omega)
        obtain ⟨k, hk⟩ := Int.eq_ofNat_of_zero_le c4
        have hk2 : k < ws.length := by
          have w1 : dr / 8 % ((ws.length : Int) + 1) < (ws.length : Int) := c3
          omega
        refine ⟨_, rfl, _, rfl, wd, _, (k : Int), .str ws[k], rfl, by rw [← hk], sqw G f1, atI_nat (by simp [hk2]), (by show 2 ≤ sizeLine; decide), fun p hp => ?_⟩
        exact fin (.word ws[k]) p _ (List.getElem_mem hk2) hp ⟨p, rfl, nw_at (f1.none ⟨_, hlf⟩ g1 hp) upd_same⟩
      · refine ⟨_, rfl, _, _, rfl, rfl, ⟨by decide, by decide⟩, .inl ⟨_, rfl, _, _, rfl, rfl, (show (0 : Int) < 4 by decide), _, _, rfl, rfl, _, rfl, ?_⟩⟩
        refine ite2 (fun c3 => ?_) fun c3 => ?_
        · exact ⟨(by show 1 ≤ sizeLine; decide), fun p hp => fin (.cst true) p _ trivial hp ⟨p, rfl, nw_at (f1.none ⟨_, hlf⟩ g1 hp) upd_same⟩⟩
        · exact ⟨(by show 1 ≤ sizeLine; decide), fun p hp => fin (.cst false) p _ trivial hp ⟨p, rfl, nw_at (f1.none ⟨_, hlf⟩ g1 hp) upd_same⟩⟩
    · have sqh : SqL K (hid lf G) wd (ws.map V.str) := by
        rcases hwd with (h | ⟨o, h⟩) | h
        · obtain ⟨n, h⟩ := hid_some h
          exact .inl (.inl (hid_at n (f1 _ _ n h)))
        · obtain ⟨n, h⟩ := hid_some h
          exact .inl (.inr ⟨o, hid_at n (f1 _ _ n h)⟩)
        · exact .inr h
      have ed : ((d + 1 : Nat) : Int) - 1 = (d : Int) := by omega
      refine ⟨_, rfl, rfl, _, rfl, ?_⟩
      rw [dec_int]
      cases c4 : ((dr % 8) == 4) with
      | true =>
        refine iteT ⟨_, rfl, _, rfl, _, rfl, _, _, rfl, rfl, lf, wd, ns1, ws, by rw [← ed]; rfl, g1, sqh, hwl, fun T v G2 ns2 ok f2 g2 tr => ⟨(by show 2 ≤ sizeLine; decide), fun p hp => ?_⟩⟩
        refine q (.neg T) (.ref p) _ ns2 ok ((f1.trans f2).trans (Frm.same (same_new hp))) (same_new hp _ _ g2) ⟨p, v, rfl, nw_at ((f1.trans f2).none ⟨_, hlf⟩ g2 hp) upd_same, ?_⟩
        exact treeAt_same ((nw_mono f1 ⟨_, hlf⟩ g1).trans (nw_keep ⟨_, hlf⟩ (Frm.same (same_new hp)))) tr
      | false =>
        have e62 : (2 : Int) ^ 62 = 4611686018427387904 := by decide
        refine iteF ⟨_, rfl, rfl, .inr ⟨_, rfl, _, _, rfl, rfl, _, rfl, ?_, ?_, fun D hD => ?_⟩⟩
        · rw [e62]; split <;> omega
        · rw [e62]; split <;> omega
        have nlf : D ≠ lf := fun e => by rw [e, g1] at hD; cases hD
        have hn : ∃ n : Nat, (2 + (if decide (V.int (dr % 8) = V.int 7) = true then (1 : Int) else 0)).toNat = n ∧ (n = 2 ∨ n = 3) := by
          split
          · exact ⟨3, rfl, .inr rfl⟩
          · exact ⟨2, rfl, .inl rfl⟩
        obtain ⟨n, en, hn⟩ := hn
        have en2 : (2 + (if decide (V.int (dr % 8) = V.int 7) = true then (1 : Int) else 0)).toNat = n := en
        refine lc_range (n := (2 + (if decide (V.int (dr % 8) = V.int 7) = true then (1 : Int) else 0)).toNat) (fun i G2 => ∃ ts us ns2, ts.length = i ∧ (∀ t ∈ ts, LtOk ws d t) ∧ Frm lf G G2 ∧ G2 lf = some (.lst (List.map V.int ns2)) ∧ G2 D = some (.lst us) ∧ TreesAt (nw (upd G D (.lst [])) G2) ts us)
          ⟨[], [], ns1, rfl, (fun t ht => by cases ht), Frm.same (same_new hD), same_new hD _ _ g1, upd_same, rfl⟩ ?_ ?_
        · rintro i G2 hi ⟨ts, us, ns2, hlen, hok, f2, g2, hD2, tr⟩
          have hi3 : i < 3 := by rw [en2] at hi; omega
          have sqh2 : SqL K (hid lf G2) wd (ws.map V.str) := by
            rcases sqh with (h | ⟨o, h⟩) | h
            · obtain ⟨n, h⟩ := hid_some h
              exact .inl (.inl (hid_at n (f2 _ _ n h)))
            · obtain ⟨n, h⟩ := hid_some h
              exact .inl (.inr ⟨o, hid_at n (f2 _ _ n h)⟩)
            · exact .inr h
          have tl2 : us.length = ts.length := by
            have key : ∀ (H : Hp) (ts : List LT) (us : List V), TreesAt H ts us → us.length = ts.length := by
              intro H ts
              induction ts with
              | nil => intro us h; have e : us = [] := h; rw [e] <;> rfl
              | cons t ts ih =>
                intro us h
                obtain ⟨u, r, e, _, h2⟩ := h
                rw [e, List.length_cons, List.length_cons, ih r h2]
            exact key _ _ _ tr
          refine ⟨rfl, ?_⟩
          dsimp only [tYes]
          rw [if_pos rfl]
          refine ⟨_, rfl, _, rfl, _, rfl, _, _, rfl, rfl, lf, wd, ns2, ws, by rw [← ed]; rfl, g2, sqh2, hwl, fun T v G3 ns3 ok f3 g3 tr3 => ⟨us, f3 D _ nlf hD2, by omega, ts ++ [T], us ++ [v], ns3, ?_, ?_, ?_, ?_, upd_same, ?_⟩⟩
          · rw [List.length_append, hlen] <;> rfl
          · intro t ht
            rcases List.mem_append.mp ht with w1 | w1
            · exact hok t w1
            · rw [List.mem_singleton.mp w1]
              exact ok
          · intro b o nb hb
            rw [upd_ne (ne_of_none hb hD)]
            exact f3 b o nb (f2 b o nb hb)
          · rw [upd_ne (Ne.symm nlf)]
            exact g3
          · refine (treesAt_same (nw_keep2 (l := lf) (d := D) ⟨_, same_new hD _ _ g1⟩ ⟨_, upd_same⟩ fun b o n1 n2 hb => ?_) tr).snoc (treeAt_same (fun b o hb => ?_) tr3)
            · rw [upd_ne n2]
              exact f3 b o n1 hb
            · obtain ⟨n1, n2⟩ := nw_some hb
              have nD : b ≠ D := fun e => by rw [e, hD2] at n1; cases n1
              have nl : b ≠ lf := fun e => by rw [e, g2] at n1; cases n1
              refine nw_at ?_ (by rw [upd_ne nD]; exact n2)
              rw [upd_ne nD]
              cases e : G b with
              | none => rfl
              | some w1 =>
                rw [f2 b w1 nl e] at n1
                cases n1
        · rintro G2 ⟨ts, us, ns2, hlen, hok, f2, g2, hD2, tr⟩
          rw [en2] at hlen
          obtain ⟨k, hk⟩ : ∃ k : Bool, atI [V.str "or", V.str "and"] (dr % 8 % 2) = some (.str (kindOf k)) := by
            have h2 : dr % 8 % 2 = 0 ∨ dr % 8 % 2 = 1 := by omega
            rcases h2 with e | e
            · exact ⟨false, by rw [e] <;> rfl⟩
            · exact ⟨true, by rw [e] <;> rfl⟩
          refine ⟨(by show 2 ≤ sizeLine; decide), fun l1 hl1 => ⟨_, rfl, _, _, rfl, rfl, (show (0 : Int) < 2 by decide), l1, _, _, _, rfl, rfl, SqL.of upd_same, hk, _, rfl, (by show 2 ≤ sizeLine; decide), fun p hp => ?_⟩⟩
          have s12 := (same_new hl1 (u := .lst [.str "or", .str "and"])).trans (same_new hp (u := .tup [.str (kindOf k), .ref D]))
          have hp2 : G2 p = none := (same_new hl1).free hp
          have f4 := (f1.trans f2).trans (Frm.same s12)
          have g4 := s12 _ _ g2
          refine q (.nary k ts) (.ref p) _ ns2 ⟨by omega, hok⟩ f4 g4 ⟨p, D, us, rfl, nw_at ((f1.trans f2).none ⟨_, hlf⟩ g2 hp2) upd_same, nw_at (f1.none ⟨_, hlf⟩ g1 hD) (s12 _ _ hD2), ?_⟩
          refine treesAt_same (fun b o hb => ?_) tr
          obtain ⟨n1, n2⟩ := nw_some hb
          refine nw_at (f1.none ⟨_, hlf⟩ g1 ((same_new hD).free n1)) (s12 _ _ n2)
  obtain ⟨t, ht, hq⟩ := rest
  refine ⟨_, pss_cons (ps_set (i := 3) sc_tree.nd rfl (Or.inl rfl) (pe_ifExp (pt_cmpR (op_neD hr.units) (pv 0) (pe_lst pa_nil) (nomark _)) (pe_bm PySem.F.plainAttrs_list PySem.F.slot_list_pop PySem.F.type_list_pop mt_popAt (pv 0) (pa_cons pe_int pa_nil)) pe_int)) ht, ?_⟩
  obtain ⟨lf, wd, ns, ws, rfl, hlf, hwd, hwl, q⟩ := h
  refine ⟨_, rfl, Nat.zero_le _, fun e he => ?_⟩
  have s0 := same_new he (u := .lst [])
  have f0 : Frm lf H (upd H e (.lst [])) := Frm.same s0
  refine ⟨.list (ns.map PyData.int), .list [], .lst (SqL.of (s0 _ _ hlf)) (dp_ints ns), .lst (SqL.of upd_same) .nil, shaped_ints ns, shaped_ints [], _, rfl, ?_⟩
  cases ns with
  | nil => exact iteF (hq lf wd [] ws hlf hwd hwl q 0 _ [] f0 (s0 _ _ hlf))
  | cons n r =>
    refine iteT ⟨_, rfl, .inl ⟨rfl, _, SqL.of (s0 _ _ hlf)⟩, lf, _, 0, 0, .int n, rfl, rfl, s0 _ _ hlf, by decide, by decide, seq_zero (by simp), rfl, ?_⟩
    exact hq lf wd (n :: r) ws hlf hwd hwl q n _ r (f0.trans Frm.upd) upd_same
end
end Fx
set_option maxHeartbeats 2000000
namespace Fx
open PySem PySem.Spec PyProof.Rows L2 TL

mutual
def depT : LT → Nat
  | .neg t => depT t + 1
  | .nary _ ts => depL ts + 1
  | _ => 0
def depL : List LT → Nat
  | [] => 0
  | t :: ts => max (depT t) (depL ts)
end
mutual
def sizT : LT → Nat
  | .neg t => sizT t + 1
  | .nary _ ts => sizL ts + 1
  | _ => 1
def sizL : List LT → Nat
  | [] => 0
  | t :: ts => sizT t + sizL ts
end
mutual
def flat1 (k : Bool) : LT → List LT
  | .nary j ts => if j = k then flatL k ts else [.nary j ts]
  | t => [t]
def flatL (k : Bool) : List LT → List LT
  | [] => []
  | t :: ts => flat1 k t ++ flatL k ts
end
def headOf : LT → Str
  | .word _ => "word"
  | .cst b => cstOf b
  | .neg _ => "not"
  | .nary k _ => kindOf k
theorem treeHead {H : Hp} : ∀ {T : LT} {v : V}, TreeAt H T v → ∃ p rest, v = .ref p ∧ H p = some (.tup (.str (headOf T) :: rest))
  | .word _, _, ⟨p, e, h⟩ => ⟨p, _, e, h⟩
  | .cst _, _, ⟨p, e, h⟩ => ⟨p, _, e, h⟩
  | .neg _, _, ⟨p, _, e, h, _⟩ => ⟨p, _, e, h⟩
  | .nary _ _, _, ⟨p, _, _, e, h, _⟩ => ⟨p, _, e, h⟩
theorem TreesAt.at {H : Hp} : ∀ {ts : List LT} {us : List V} {i : Nat} {x : V}, TreesAt H ts us → us[i]? = some x → ∃ t, ts[i]? = some t ∧ TreeAt H t x
  | [], us, i, x, h, e => by
    have w1 : us = [] := h
    rw [w1] at e
    simp at e
  | t :: ts, us, i, x, ⟨u, r, e1, h1, h2⟩, e => by
    subst e1
    cases i with
    | zero =>
      have e2 : u = x := by simpa using e
      subst e2
      exact ⟨t, rfl, h1⟩
    | succ i =>
      have e2 : r[i]? = some x := by simpa using e
      obtain ⟨t2, k1, k2⟩ := TreesAt.at h2 e2
      exact ⟨t2, by simpa using k1, k2⟩
theorem TreesAt.len {H : Hp} : ∀ {ts : List LT} {us : List V}, TreesAt H ts us → us.length = ts.length
  | [], us, h => by
    have w1 : us = [] := h
    rw [w1] <;> rfl
  | t :: ts, us, ⟨u, r, e1, _, h2⟩ => by rw [e1, List.length_cons, List.length_cons, TreesAt.len h2]
theorem TreesAt.app {H : Hp} : ∀ {ts qs : List LT} {us ws : List V}, TreesAt H ts us → TreesAt H qs ws → TreesAt H (ts ++ qs) (us ++ ws)
  | [], qs, us, ws, h, h2 => by
    have w1 : us = [] := h
    rw [w1]
    exact h2
  | _ :: _, _, _, _, ⟨u, r, e, h1, h2⟩, h3 => ⟨u, r ++ _, by rw [e] <;> rfl, h1, TreesAt.app h2 h3⟩
theorem flatL_app (k : Bool) : ∀ (a b : List LT), flatL k (a ++ b) = flatL k a ++ flatL k b
  | [], b => rfl
  | t :: a, b => by
    show flat1 k t ++ flatL k (a ++ b) = flat1 k t ++ flatL k a ++ flatL k b
    rw [flatL_app k a b, List.append_assoc]
theorem sizT_pos (t : LT) : 1 ≤ sizT t := by
  cases t <;> simp [sizT]
mutual
theorem flat1_len (k : Bool) : ∀ t : LT, (flat1 k t).length ≤ sizT t
  | .word _ => Nat.le_refl _
  | .cst _ => Nat.le_refl _
  | .neg t => by
    show 1 ≤ sizT t + 1
    omega
  | .nary j ts => by
    unfold flat1
    split
    · have h := flatL_len k ts
      show (flatL k ts).length ≤ sizL ts + 1
      omega
    · show 1 ≤ sizL ts + 1
      omega
theorem flatL_len (k : Bool) : ∀ ts : List LT, (flatL k ts).length ≤ sizL ts
  | [] => Nat.le_refl _
  | t :: ts => by
    have h1 := flat1_len k t
    have h2 := flatL_len k ts
    show (flat1 k t ++ flatL k ts).length ≤ sizT t + sizL ts
    rw [List.length_append]
    omega
end
theorem sizL_app : ∀ (a b : List LT), sizL (a ++ b) = sizL a + sizL b
  | [], b => by show sizL b = 0 + sizL b; omega
  | t :: a, b => by
    show sizT t + sizL (a ++ b) = sizT t + sizL a + sizL b
    rw [sizL_app a b]
    omega
theorem sizL_take {ts : List LT} {i : Nat} {t : LT} (h : ts[i]? = some t) : sizL (ts.take i) + sizT t ≤ sizL ts := by
  have e : sizL ts = sizL (ts.take (i + 1)) + sizL (ts.drop (i + 1)) := by rw [← sizL_app, List.take_append_drop]
  rw [take_snoc h, sizL_app] at e
  have e2 : sizL [t] = sizT t := by show sizT t + 0 = _; omega
  omega
theorem depL_mem : ∀ {ts : List LT} {i : Nat} {t : LT}, ts[i]? = some t → depT t ≤ depL ts
  | [], i, t, h => by simp at h
  | x :: ts, 0, t, h => by
    have e : x = t := by simpa using h
    subst e
    exact Nat.le_max_left _ _
  | x :: ts, i + 1, t, h => by
    have e : ts[i]? = some t := by simpa using h
    exact Nat.le_trans (depL_mem e) (Nat.le_max_right _ _)
theorem kind_inj {j k : Bool} (h : (kindOf j == kindOf k) = true) : j = k := by
  revert j k
  decide +kernel
theorem flat1_one {k : Bool} {t : LT} (h : (headOf t == kindOf k) = false) : flat1 k t = [t] := by
  cases t with
  | nary j ts =>
    unfold flat1
    rw [if_neg]
    intro e
    rw [e] at h
    simp [headOf] at h
  | _ => rfl
theorem head_kind {k : Bool} {t : LT} (h : (headOf t == kindOf k) = true) : ∃ ts, t = .nary k ts := by
  cases t with
  | nary j ts => exact ⟨ts, by rw [kind_inj h]⟩
  | word z =>
    have h2 : ((("word" : Str) == kindOf k) = true) := h
    rw [show (("word" : Str) == kindOf k) = false by clear h2 h; revert k; decide +kernel] at h2
    cases h2
  | cst b =>
    have h2 : ((cstOf b == kindOf k) = true) := h
    rw [show (cstOf b == kindOf k) = false by clear h2 h; revert b k; decide +kernel] at h2
    cases h2
  | neg t =>
    have h2 : ((("not" : Str) == kindOf k) = true) := h
    rw [show (("not" : Str) == kindOf k) = false by clear h2 h; revert k; decide +kernel] at h2
    cases h2
theorem atI_zero {x : V} {r : List V} : atI (x :: r) 0 = some x := atI_nat (j := 0) rfl
section
variable {P : Program} {w : World} {K : PySem.W.Frag} {mg : Str → Option Value} {base : Heap} {f : Addr} {fd : FuncData}
def spFlat (n : Nat) : Sp := fun vs H Q _ => ∃ (k : Bool) (l : Addr) (ts : List LT) (us : List V) (B : Hp), vs = [.str (kindOf k), .ref l] ∧ H l = some (.lst us) ∧ Same B H ∧ TreesAt B ts us ∧ depL ts ≤ n ∧ sizL ts ≤ 100000 ∧
  ∀ p G vs', Same H G → H p = none → G p = some (.lst vs') → TreesAt B (flatL k ts) vs' → Q (.ref p) G
theorem sc_flat : FnScope ["_law_kind", "_law_parts", "_law_out", "_law_part"] ["_law_kind", "_law_parts"] (defScope (tp 30)) := ⟨rfl, rfl, rfl, by decide +kernel, rfl, by decide +kernel, by decide +kernel⟩
theorem base_flat (F : FnT K "_law_flat" 30 f fd) : FnOk P w K mg base CX0 1 f fd ["_law_kind", "_law_parts"] (spFlat 0) := by
  refine F.ok sc_flat (fun vs H Q E h => ?_) (fun cdv A outer s H vs Q E hr h => ⟨_, PSs.nox (pss_cons (ps_set (i := 2) sc_flat.nd rfl (Or.inl rfl) (pe_lst pa_nil))
      (pss_cons (ps_for PassesOwn.never rfl (pi_list (pv 1)) (pg_name (i := 3) sc_flat.nd rfl (Or.inl rfl)) (pss_one (ps_if (pt_cmpR op_eq (pe_ix ix_tup (pv 3) pe_int (fun _ _ => rfl)) (pv 0) (nomark _)) (pss_one (ps_never)) (pss_one (ps_expr (pe_bm PySem.F.plainAttrs_list PySem.F.slot_list_append PySem.F.type_list_append mt_append (pv 2) (pa_cons (pv 3) pa_nil)))))))
      (pss_one (ps_ret (pv 2))))), ?_⟩)
  · obtain ⟨k, l, ts, us, B, rfl, _⟩ := h
    rfl
  · obtain ⟨k, l, ts, us, B, rfl, hl, sB, tr, hd, hs, q⟩ := h
    have line : (200000 : Nat) ≤ sizeLine := by decide
    refine ⟨Nat.zero_le _, fun o ho => ?_⟩
    have s0 := same_new ho (u := .lst [])
    refine ⟨_, rfl, l, rfl, ⟨_, SqL.of (s0 _ _ hl)⟩, for_list (K := K) (a := l) (xs := us)
      (fun i σ G => ∃ o3 vs', σ = [some (.str (kindOf k)), some (.ref l), some (.ref o), o3] ∧ Same H G ∧ G o = some (.lst vs') ∧ TreesAt B (flatL k (ts.take i)) vs')
      ⟨none, [], rfl, s0, upd_same, rfl⟩ (fun i σ G _ h => by
        obtain ⟨_, _, _, h, _⟩ := h
        exact SqL.of (h _ _ hl)) ?_ (fun σ G h => by
        obtain ⟨o3, vs', rfl, s1, g, t1⟩ := h
        rw [tr.len, List.take_length] at t1
        exact ⟨_, rfl, q o G vs' s1 ho g t1⟩)⟩
    rintro i x σ G hi ⟨o3, vs', rfl, s1, g, t1⟩
    obtain ⟨t, ht, tx⟩ := tr.at hi
    obtain ⟨p, rest, rfl, hp⟩ := treeHead tx
    have hpG := s1 _ _ (sB _ _ hp)
    have ef : flatL k (ts.take (i + 1)) = flatL k (ts.take i) ++ flat1 k t := by
      rw [take_snoc ht, flatL_app]
      show flatL k (ts.take i) ++ (flat1 k t ++ []) = _
      rw [List.append_nil]
    have hlen : vs'.length + sizT t ≤ 100000 := by
      have w1 := t1.len
      have w2 := flatL_len k (ts.take i)
      have w3 := sizL_take ht
      omega
    refine ⟨_, rfl, p, _, 0, .str (headOf t), rfl, rfl, SqT.of hpG, atI_zero, _, rfl, rfl, _, rfl, ?_⟩
    rw [dec_str]
    have keep : (headOf t == kindOf k) = false → rAppend (.ref o) [.ref p] G (fun _ G' => ∃ o3 vs', [some (.str (kindOf k)), some (.ref l), some (.ref o), some (.ref p)] = [some (V.str (kindOf k)), some (.ref l), some (.ref o), o3] ∧ Same H G' ∧ G' o = some (.lst vs') ∧ TreesAt B (flatL k (ts.take (i + 1))) vs') := by
      intro hk
      have e1 : flat1 k t = [t] := flat1_one hk
      refine ⟨o, _, _, rfl, rfl, g, by have := sizT_pos t; omega, _, _, rfl, ?_, upd_same, ?_⟩
      · intro b u hb
        rw [upd_ne (ne_of_none hb ho)]
        exact s1 _ _ hb
      · rw [ef, e1]
        exact t1.snoc tx
    cases c : (headOf t == kindOf k) with
    | false => exact iteF ⟨_, rfl, .inl ⟨rfl, _, SqL.of g⟩, _, rfl, keep c⟩
    | true =>
      obtain ⟨ts2, rfl⟩ := head_kind c
      have w1 := depL_mem ht
      have w2 : depT (.nary k ts2) = depL ts2 + 1 := rfl
      omega
theorem step_flat (F : FnT K "_law_flat" 30 f fd) (gF : mg "_law_flat" = some (.ref f)) (n : Nat) (IH : FnOk P w K mg base CX0 (n + 1) f fd ["_law_kind", "_law_parts"] (spFlat n)) : FnOk P w K mg base CX0 (n + 1 + 1) f fd ["_law_kind", "_law_parts"] (spFlat (n + 1)) := by
  have bF : L2.Binds K fd ["_law_kind", "_law_parts"] [] := F.bindsN fun _ _ _ _ _ _ us hl => match us, hl with | [_, _], _ => rfl
  refine F.ok sc_flat (fun vs H Q E h => ?_) (fun cdv A outer s H vs Q E hr h => ⟨_, PSs.nox (pss_cons (ps_set (i := 2) sc_flat.nd rfl (Or.inl rfl) (pe_lst pa_nil))
      (pss_cons (ps_for PassesOwn.never rfl (pi_list (pv 1)) (pg_name (i := 3) sc_flat.nd rfl (Or.inl rfl)) (pss_one (ps_if (pt_cmpR op_eq (pe_ix ix_tup (pv 3) pe_int (fun _ _ => rfl)) (pv 0) (nomark _)) (pss_one (ps_expr (pe_bm PySem.F.plainAttrs_list PySem.F.slot_list_extend PySem.F.type_list_extend mt_extend (pv 2) (pa_cons (pe_call IH hr rfl gF F.kp bF .nil pass0 (pa_cons (pv 0) (pa_cons (pe_ix ix_tup (pv 3) pe_int (fun _ _ => rfl)) pa_nil))) pa_nil)))) (pss_one (ps_expr (pe_bm PySem.F.plainAttrs_list PySem.F.slot_list_append PySem.F.type_list_append mt_append (pv 2) (pa_cons (pv 3) pa_nil)))))))
      (pss_one (ps_ret (pv 2))))), ?_⟩)
  · obtain ⟨k, l, ts, us, B, rfl, _⟩ := h
    rfl
  · obtain ⟨k, l, ts, us, B, rfl, hl, sB, tr, hd, hs, q⟩ := h
    have line : (200000 : Nat) ≤ sizeLine := by decide
    refine ⟨Nat.zero_le _, fun o ho => ?_⟩
    have s0 := same_new ho (u := .lst [])
    refine ⟨_, rfl, l, rfl, ⟨_, SqL.of (s0 _ _ hl)⟩, for_list (K := K) (a := l) (xs := us)
      (fun i σ G => ∃ o3 vs', σ = [some (.str (kindOf k)), some (.ref l), some (.ref o), o3] ∧ Same H G ∧ G o = some (.lst vs') ∧ TreesAt B (flatL k (ts.take i)) vs')
      ⟨none, [], rfl, s0, upd_same, rfl⟩ (fun i σ G _ h => by
        obtain ⟨_, _, _, h, _⟩ := h
        exact SqL.of (h _ _ hl)) ?_ (fun σ G h => by
        obtain ⟨o3, vs', rfl, s1, g, t1⟩ := h
        rw [tr.len, List.take_length] at t1
        exact ⟨_, rfl, q o G vs' s1 ho g t1⟩)⟩
    rintro i x σ G hi ⟨o3, vs', rfl, s1, g, t1⟩
    obtain ⟨t, ht, tx⟩ := tr.at hi
    obtain ⟨p, rest, rfl, hp⟩ := treeHead tx
    have hpG := s1 _ _ (sB _ _ hp)
    have ef : flatL k (ts.take (i + 1)) = flatL k (ts.take i) ++ flat1 k t := by
      rw [take_snoc ht, flatL_app]
      show flatL k (ts.take i) ++ (flat1 k t ++ []) = _
      rw [List.append_nil]
    have hlen : vs'.length + sizT t ≤ 100000 := by
      have w1 := t1.len
      have w2 := flatL_len k (ts.take i)
      have w3 := sizL_take ht
      omega
    refine ⟨_, rfl, p, _, 0, .str (headOf t), rfl, rfl, SqT.of hpG, atI_zero, _, rfl, rfl, _, rfl, ?_⟩
    rw [dec_str]
    have keep : (headOf t == kindOf k) = false → rAppend (.ref o) [.ref p] G (fun _ G' => ∃ o3 vs', [some (.str (kindOf k)), some (.ref l), some (.ref o), some (.ref p)] = [some (V.str (kindOf k)), some (.ref l), some (.ref o), o3] ∧ Same H G' ∧ G' o = some (.lst vs') ∧ TreesAt B (flatL k (ts.take (i + 1))) vs') := by
      intro hk
      have e1 : flat1 k t = [t] := flat1_one hk
      refine ⟨o, _, _, rfl, rfl, g, by have := sizT_pos t; omega, _, _, rfl, ?_, upd_same, ?_⟩
      · intro b u hb
        rw [upd_ne (ne_of_none hb ho)]
        exact s1 _ _ hb
      · rw [ef, e1]
        exact t1.snoc tx
    cases c : (headOf t == kindOf k) with
    | false => exact iteF ⟨_, rfl, .inl ⟨rfl, _, SqL.of g⟩, _, rfl, keep c⟩
    | true =>
      obtain ⟨ts2, rfl⟩ := head_kind c
      obtain ⟨p2, l2, us2, e2, hp2, hl2, tr2⟩ := tx
      cases e2
      have w1 := depL_mem ht
      have w2 : depT (.nary k ts2) = depL ts2 + 1 := rfl
      have w3 : sizT (.nary k ts2) = sizL ts2 + 1 := rfl
      have sBG := fun b u h => s1 b u (sB b u h)
      refine iteT ⟨_, rfl, .inl ⟨rfl, _, SqL.of g⟩, _, rfl, _, rfl, p, _, 1, .ref l2, rfl, rfl, SqT.of (s1 _ _ (sB _ _ hp2)), rfl, k, l2, ts2, us2, B, rfl, sBG _ _ hl2, sBG, tr2, by omega, by omega, fun p3 G3 vs3 s3 n3 g3 t3 => ?_⟩
      have w4 := t3.len
      have w5 := flatL_len k ts2
      refine ⟨o, p3, _, _, rfl, rfl, s3 _ _ g, g3, by omega, _, _, rfl, ?_, upd_same, ?_⟩
      · intro b u hb
        rw [upd_ne (ne_of_none hb ho)]
        exact s3 _ _ (s1 _ _ hb)
      · have e1 : flat1 k (.nary k ts2) = flatL k ts2 := by
          unfold flat1
          rw [if_pos rfl]
        rw [ef, e1]
        exact t1.app t3
end
end Fx
set_option maxHeartbeats 2000000
namespace Fx
open PySem PySem.Spec PyProof.Rows L2 TL

mutual
def ltT (p : Str → Bool) : LT → Bool
  | .word z => p z
  | .cst b => b
  | .neg t => !ltT p t
  | .nary true ts => !((ltL p ts).any fun b => b == false)
  | .nary false ts => (ltL p ts).any fun b => b == true
def ltL (p : Str → Bool) : List LT → List Bool
  | [] => []
  | t :: ts => ltT p t :: ltL p ts
end
theorem ltL_len (p : Str → Bool) : ∀ ts, (ltL p ts).length = ts.length
  | [] => rfl
  | _ :: ts => congrArg (· + 1) (ltL_len p ts)
theorem ltL_app (p : Str → Bool) : ∀ a b, ltL p (a ++ b) = ltL p a ++ ltL p b
  | [], _ => rfl
  | t :: a, b => congrArg (ltT p t :: ·) (ltL_app p a b)
theorem sizL_len : ∀ ts : List LT, ts.length ≤ sizL ts
  | [] => Nat.le_refl _
  | t :: ts => by
    have h1 := sizT_pos t
    have h2 := sizL_len ts
    show ts.length + 1 ≤ sizT t + sizL ts
    omega
theorem flat_bls : ∀ l : List Bool, (l.map V.bl).all flatV = true
  | [] => rfl
  | b :: l => by
    show (flatV (.bl b) && (l.map V.bl).all flatV) = true
    rw [flat_bls l] <;> rfl
theorem inV_bls (b : Bool) : ∀ l : List Bool, inV (.bl b) (l.map V.bl) = l.any fun y => y == b
  | [] => rfl
  | y :: l => by
    show (eqV (.bl y) (.bl b) || inV (.bl b) (l.map V.bl)) = _
    rw [inV_bls b l, show eqV (.bl y) (.bl b) = (y == b) by cases y <;> cases b <;> rfl] <;> rfl
theorem in_bl (b : Bool) (l : List Bool) : (if (false : Bool) = true then !inV (.bl b) (l.map V.bl) else inV (.bl b) (l.map V.bl)) = l.any fun y => y == b := by
  rw [if_neg Bool.false_ne_true, inV_bls]
theorem notin_bl (b : Bool) (l : List Bool) : (if (true : Bool) = true then !inV (.bl b) (l.map V.bl) else inV (.bl b) (l.map V.bl)) = !l.any fun y => y == b := by
  rw [if_pos rfl, inV_bls]
def headE (x y : Str) (b : Bool) : Prop := (x == y) = b
theorem hE (x : LT) (y : Str) (b : Bool) (h : (headOf x == y) = b) : decide (V.str (headOf x) = V.str y) = b := by rw [dec_str, h]
section
variable {P : Program} {w : World} {K : PySem.W.Frag} {mg : Str → Option Value} {base : Heap} {f : Addr} {fd : FuncData}
mutual
def leavT : LT → List Str
  | .word z => [z]
  | .cst _ => []
  | .neg t => leavT t
  | .nary _ ts => leavL ts
def leavL : List LT → List Str
  | [] => []
  | t :: ts => leavT t ++ leavL ts
end
theorem leavL_at : ∀ {ts : List LT} {i : Nat} {t : LT} {z : Str}, ts[i]? = some t → z ∈ leavT t → z ∈ leavL ts
  | [], _, _, _, e, _ => by simp at e
  | x :: ts, 0, t, z, e, h => by
    have e2 : x = t := by simpa using e
    subst e2
    exact List.mem_append_left _ h
  | x :: ts, i + 1, t, z, e, h => by
    have e2 : ts[i]? = some t := by simpa using e
    exact List.mem_append_right _ (leavL_at e2 h)
def spTrue (K : PySem.W.Frag) (n : Nat) : Sp := fun vs H Q _ => ∃ (v x : V) (t : LT) (inW : Str → Bool), vs = [v, x] ∧ TreeAt H t v ∧ InOk K H x inW ∧ depT t ≤ n ∧ sizT t ≤ 100000 ∧ (∀ z ∈ leavT t, PyData.strOk z = true) ∧
  ∀ G, Same H G → Q (.bl (ltT inW t)) G
theorem sc_true : FnScope ["_law_tree_here", "_law_words", "_law_part"] ["_law_tree_here", "_law_words"] (defScope (tp 29)) := ⟨rfl, rfl, rfl, by decide +kernel, rfl, by decide +kernel, by decide +kernel⟩
theorem base_true (F : FnT K "_law_true" 29 f fd) : FnOk P w K mg base CX0 1 f fd ["_law_tree_here", "_law_words"] (spTrue K 0) := by
  refine F.ok sc_true (fun vs H Q E h => ?_) (fun cdv A outer s H vs Q E hr h => ?_)
  · obtain ⟨v, x, t, inW, rfl, _⟩ := h
    rfl
  have hu65 : (A.deeper (envOfC "_law_true" (defScope (tp 29)) s.heap.objs.size f cdv)).units + 65 < cLine := by have := hr.un; omega
  refine ⟨_, PSs.nox (pss_cons (ps_if (pt_cmpR op_eq (pe_ix ix_tup (pv 0) pe_int (fun _ _ => rfl)) pe_str (nomark _)) (pss_one (ps_ret (pe_cmpR (r := rInW K) (op_in_seq.or (op_inD hu65)) (pe_ix ix_tup (pv 0) pe_int (fun _ _ => rfl)) (pv 1) (by rfl)))) pss_nil)
      (pss_cons (ps_if (pt_cmpR op_eq (pe_ix ix_tup (pv 0) pe_int (fun _ _ => rfl)) pe_str (nomark _)) (pss_one (ps_never)) pss_nil)
      (pss_cons (ps_if (pt_cmpR op_eq (pe_ix ix_tup (pv 0) pe_int (fun _ _ => rfl)) pe_str (nomark _)) (pss_one (ps_never)) pss_nil)
      (pss_cons (ps_if (pt_cmpR op_eq (pe_ix ix_tup (pv 0) pe_int (fun _ _ => rfl)) pe_str (nomark _)) (pss_one (ps_never)) pss_nil)
      (pss_one (ps_ret (pe_cmpR op_eq (pe_ix ix_tup (pv 0) pe_int (fun _ _ => rfl)) pe_str (nomark _)))))))), ?_⟩
  · obtain ⟨v, x, t, inW, rfl, tr, hw, hd, hs, hok, q⟩ := h
    have line : (200000 : Nat) ≤ sizeLine := by decide
    obtain ⟨p, rest, rfl, hp⟩ := treeHead tr
    cases t with
    | word z =>
      refine ⟨_, rfl, p, _, 0, .str (headOf (.word z)), rfl, rfl, SqT.of hp, atI_zero, rfl, _, rfl, ?_⟩
      rw [hE (.word z) "word" true (by exact (show (("word" : Str) == "word") = true by decide +kernel))]
      refine iteT ?_
      obtain ⟨p1, e1, hp1⟩ := tr
      cases e1
      refine ⟨_, rfl, p, _, 1, .str z, rfl, rfl, SqT.of hp1, rfl, x, rfl, ?_⟩
      rcases hw with ⟨p2, xs, rfl, hsq, hfl, hiw⟩ | ⟨ds, hdp, hsh, hiw⟩
      · refine .inl ⟨p2, xs, rfl, hsq, rfl, hfl, ?_⟩
        rw [if_neg Bool.false_ne_true, ← hiw z]
        exact q H (Same.refl H)
      · have hk := hok z List.mem_cons_self
        refine .inr ⟨.str z, ds, .str z, hdp, by unfold SeqAt.shaped; show (PyData.strOk z && _) = true; rw [hk] <;> rfl, hsh, ?_⟩
        rw [← hiw z hk]
        exact q H (Same.refl H)
    | cst b =>
      cases b
      · refine ⟨_, rfl, p, _, 0, .str (headOf (.cst false)), rfl, rfl, SqT.of hp, atI_zero, rfl, _, rfl, ?_⟩
        rw [hE (.cst false) "word" false (by exact (show (("none" : Str) == "word") = false by decide +kernel))]
        refine iteF ?_
        refine ⟨_, rfl, p, _, 0, .str (headOf (.cst false)), rfl, rfl, SqT.of hp, atI_zero, rfl, _, rfl, ?_⟩
        rw [hE (.cst false) "not" false (by exact (show (("none" : Str) == "not") = false by decide +kernel))]
        refine iteF ?_
        refine ⟨_, rfl, p, _, 0, .str (headOf (.cst false)), rfl, rfl, SqT.of hp, atI_zero, rfl, _, rfl, ?_⟩
        rw [hE (.cst false) "and" false (by exact (show (("none" : Str) == "and") = false by decide +kernel))]
        refine iteF ?_
        refine ⟨_, rfl, p, _, 0, .str (headOf (.cst false)), rfl, rfl, SqT.of hp, atI_zero, rfl, _, rfl, ?_⟩
        rw [hE (.cst false) "or" false (by exact (show (("none" : Str) == "or") = false by decide +kernel))]
        refine iteF ?_
        refine ⟨_, rfl, p, _, 0, .str (headOf (.cst false)), rfl, rfl, SqT.of hp, atI_zero, rfl, ?_⟩
        rw [hE (.cst false) "all" false (by exact (show (("none" : Str) == "all") = false by decide +kernel))]
        exact q H (Same.refl H)
      · refine ⟨_, rfl, p, _, 0, .str (headOf (.cst true)), rfl, rfl, SqT.of hp, atI_zero, rfl, _, rfl, ?_⟩
        rw [hE (.cst true) "word" false (by exact (show (("all" : Str) == "word") = false by decide +kernel))]
        refine iteF ?_
        refine ⟨_, rfl, p, _, 0, .str (headOf (.cst true)), rfl, rfl, SqT.of hp, atI_zero, rfl, _, rfl, ?_⟩
        rw [hE (.cst true) "not" false (by exact (show (("all" : Str) == "not") = false by decide +kernel))]
        refine iteF ?_
        refine ⟨_, rfl, p, _, 0, .str (headOf (.cst true)), rfl, rfl, SqT.of hp, atI_zero, rfl, _, rfl, ?_⟩
        rw [hE (.cst true) "and" false (by exact (show (("all" : Str) == "and") = false by decide +kernel))]
        refine iteF ?_
        refine ⟨_, rfl, p, _, 0, .str (headOf (.cst true)), rfl, rfl, SqT.of hp, atI_zero, rfl, _, rfl, ?_⟩
        rw [hE (.cst true) "or" false (by exact (show (("all" : Str) == "or") = false by decide +kernel))]
        refine iteF ?_
        refine ⟨_, rfl, p, _, 0, .str (headOf (.cst true)), rfl, rfl, SqT.of hp, atI_zero, rfl, ?_⟩
        rw [hE (.cst true) "all" true (by exact (show (("all" : Str) == "all") = true by decide +kernel))]
        exact q H (Same.refl H)
    | neg t =>
      exfalso
      have w2 : depT (.neg t) = depT t + 1 := rfl
      omega
    | nary k ts =>
      exfalso
      have w2 : depT (.nary k ts) = depL ts + 1 := rfl
      omega
theorem step_true (F : FnT K "_law_true" 29 f fd) (gF : mg "_law_true" = some (.ref f)) (n : Nat) (IH : FnOk P w K mg base CX0 (n + 1) f fd ["_law_tree_here", "_law_words"] (spTrue K n)) : FnOk P w K mg base CX0 (n + 1 + 1) f fd ["_law_tree_here", "_law_words"] (spTrue K (n + 1)) := by
  have bF : L2.Binds K fd ["_law_tree_here", "_law_words"] [] := F.bindsN fun _ _ _ _ _ _ us hl => match us, hl with | [_, _], _ => rfl
  refine F.ok sc_true (fun vs H Q E h => ?_) (fun cdv A outer s H vs Q E hr h => ?_)
  · obtain ⟨v, x, t, inW, rfl, _⟩ := h
    rfl
  have hu65 : (A.deeper (envOfC "_law_true" (defScope (tp 29)) s.heap.objs.size f cdv)).units + 65 < cLine := by have := hr.un; omega
  refine ⟨_, PSs.nox (pss_cons (ps_if (pt_cmpR op_eq (pe_ix ix_tup (pv 0) pe_int (fun _ _ => rfl)) pe_str (nomark _)) (pss_one (ps_ret (pe_cmpR (r := rInW K) (op_in_seq.or (op_inD hu65)) (pe_ix ix_tup (pv 0) pe_int (fun _ _ => rfl)) (pv 1) (by rfl)))) pss_nil)
      (pss_cons (ps_if (pt_cmpR op_eq (pe_ix ix_tup (pv 0) pe_int (fun _ _ => rfl)) pe_str (nomark _)) (pss_one (ps_ret (pe_not (pe_call IH hr rfl gF F.kp bF .nil pass0 (pa_cons (pe_ix ix_tup (pv 0) pe_int (fun _ _ => rfl)) (pa_cons (pv 1) pa_nil)))))) pss_nil)
      (pss_cons (ps_if (pt_cmpR op_eq (pe_ix ix_tup (pv 0) pe_int (fun _ _ => rfl)) pe_str (nomark _)) (pss_one (ps_ret (pe_cmpR op_notIn_seq pe_bl (pe_lc (own := [("_law_part", 2)]) (g := gName 2) (tt := tYes) rfl sc_true.nd (pi_list (pe_ix ix_tup (pv 0) pe_int (fun _ _ => rfl))) (blkOk_by (N := ["_law_tree_here", "_law_words", "_law_part"]) (sc := defScope (tp 29)) (by decide +kernel)) (fun _ _ _ _ _ => pg_name (i := 2) sc_true.nd rfl (Or.inl rfl)) (fun _ _ _ _ _ => pts_nil) (fun _ _ _ _ _ => (pe_call IH hr rfl gF F.kp bF .nil pass0 (pa_cons (pv 2) (pa_cons (pv 1) pa_nil))))) (by rfl)))) pss_nil)
      (pss_cons (ps_if (pt_cmpR op_eq (pe_ix ix_tup (pv 0) pe_int (fun _ _ => rfl)) pe_str (nomark _)) (pss_one (ps_ret (pe_cmpR op_in_seq pe_bl (pe_lc (own := [("_law_part", 2)]) (g := gName 2) (tt := tYes) rfl sc_true.nd (pi_list (pe_ix ix_tup (pv 0) pe_int (fun _ _ => rfl))) (blkOk_by (N := ["_law_tree_here", "_law_words", "_law_part"]) (sc := defScope (tp 29)) (by decide +kernel)) (fun _ _ _ _ _ => pg_name (i := 2) sc_true.nd rfl (Or.inl rfl)) (fun _ _ _ _ _ => pts_nil) (fun _ _ _ _ _ => (pe_call IH hr rfl gF F.kp bF .nil pass0 (pa_cons (pv 2) (pa_cons (pv 1) pa_nil))))) (by rfl)))) pss_nil)
      (pss_one (ps_ret (pe_cmpR op_eq (pe_ix ix_tup (pv 0) pe_int (fun _ _ => rfl)) pe_str (nomark _)))))))), ?_⟩
  · obtain ⟨v, x, t, inW, rfl, tr, hw, hd, hs, hok, q⟩ := h
    have line : (200000 : Nat) ≤ sizeLine := by decide
    obtain ⟨p, rest, rfl, hp⟩ := treeHead tr
    cases t with
    | word z =>
      refine ⟨_, rfl, p, _, 0, .str (headOf (.word z)), rfl, rfl, SqT.of hp, atI_zero, rfl, _, rfl, ?_⟩
      rw [hE (.word z) "word" true (by exact (show (("word" : Str) == "word") = true by decide +kernel))]
      refine iteT ?_
      obtain ⟨p1, e1, hp1⟩ := tr
      cases e1
      refine ⟨_, rfl, p, _, 1, .str z, rfl, rfl, SqT.of hp1, rfl, x, rfl, ?_⟩
      rcases hw with ⟨p2, xs, rfl, hsq, hfl, hiw⟩ | ⟨ds, hdp, hsh, hiw⟩
      · refine .inl ⟨p2, xs, rfl, hsq, rfl, hfl, ?_⟩
        rw [if_neg Bool.false_ne_true, ← hiw z]
        exact q H (Same.refl H)
      · have hk := hok z List.mem_cons_self
        refine .inr ⟨.str z, ds, .str z, hdp, by unfold SeqAt.shaped; show (PyData.strOk z && _) = true; rw [hk] <;> rfl, hsh, ?_⟩
        rw [← hiw z hk]
        exact q H (Same.refl H)
    | cst b =>
      cases b
      · refine ⟨_, rfl, p, _, 0, .str (headOf (.cst false)), rfl, rfl, SqT.of hp, atI_zero, rfl, _, rfl, ?_⟩
        rw [hE (.cst false) "word" false (by exact (show (("none" : Str) == "word") = false by decide +kernel))]
        refine iteF ?_
        refine ⟨_, rfl, p, _, 0, .str (headOf (.cst false)), rfl, rfl, SqT.of hp, atI_zero, rfl, _, rfl, ?_⟩
        rw [hE (.cst false) "not" false (by exact (show (("none" : Str) == "not") = false by decide +kernel))]
        refine iteF ?_
        refine ⟨_, rfl, p, _, 0, .str (headOf (.cst false)), rfl, rfl, SqT.of hp, atI_zero, rfl, _, rfl, ?_⟩
        rw [hE (.cst false) "and" false (by exact (show (("none" : Str) == "and") = false by decide +kernel))]
        refine iteF ?_
        refine ⟨_, rfl, p, _, 0, .str (headOf (.cst false)), rfl, rfl, SqT.of hp, atI_zero, rfl, _, rfl, ?_⟩
        rw [hE (.cst false) "or" false (by exact (show (("none" : Str) == "or") = false by decide +kernel))]
        refine iteF ?_
        refine ⟨_, rfl, p, _, 0, .str (headOf (.cst false)), rfl, rfl, SqT.of hp, atI_zero, rfl, ?_⟩
        rw [hE (.cst false) "all" false (by exact (show (("none" : Str) == "all") = false by decide +kernel))]
        exact q H (Same.refl H)
      · refine ⟨_, rfl, p, _, 0, .str (headOf (.cst true)), rfl, rfl, SqT.of hp, atI_zero, rfl, _, rfl, ?_⟩
        rw [hE (.cst true) "word" false (by exact (show (("all" : Str) == "word") = false by decide +kernel))]
        refine iteF ?_
        refine ⟨_, rfl, p, _, 0, .str (headOf (.cst true)), rfl, rfl, SqT.of hp, atI_zero, rfl, _, rfl, ?_⟩
        rw [hE (.cst true) "not" false (by exact (show (("all" : Str) == "not") = false by decide +kernel))]
        refine iteF ?_
        refine ⟨_, rfl, p, _, 0, .str (headOf (.cst true)), rfl, rfl, SqT.of hp, atI_zero, rfl, _, rfl, ?_⟩
        rw [hE (.cst true) "and" false (by exact (show (("all" : Str) == "and") = false by decide +kernel))]
        refine iteF ?_
        refine ⟨_, rfl, p, _, 0, .str (headOf (.cst true)), rfl, rfl, SqT.of hp, atI_zero, rfl, _, rfl, ?_⟩
        rw [hE (.cst true) "or" false (by exact (show (("all" : Str) == "or") = false by decide +kernel))]
        refine iteF ?_
        refine ⟨_, rfl, p, _, 0, .str (headOf (.cst true)), rfl, rfl, SqT.of hp, atI_zero, rfl, ?_⟩
        rw [hE (.cst true) "all" true (by exact (show (("all" : Str) == "all") = true by decide +kernel))]
        exact q H (Same.refl H)
    | neg t =>
      refine ⟨_, rfl, p, _, 0, .str (headOf (.neg t)), rfl, rfl, SqT.of hp, atI_zero, rfl, _, rfl, ?_⟩
      rw [hE (.neg t) "word" false (by exact (show (("not" : Str) == "word") = false by decide +kernel))]
      refine iteF ?_
      refine ⟨_, rfl, p, _, 0, .str (headOf (.neg t)), rfl, rfl, SqT.of hp, atI_zero, rfl, _, rfl, ?_⟩
      rw [hE (.neg t) "not" true (by exact (show (("not" : Str) == "not") = true by decide +kernel))]
      refine iteT ?_
      obtain ⟨p1, u, e1, hp1, tu⟩ := tr
      cases e1
      have w2 : depT (.neg t) = depT t + 1 := rfl
      have w3 : sizT (.neg t) = sizT t + 1 := rfl
      exact ⟨_, rfl, p, _, 1, u, rfl, rfl, SqT.of hp1, rfl, _, rfl, u, x, t, inW, rfl, tu, hw, by omega, by omega, hok, fun G s => ⟨_, rfl, q G s⟩⟩
    | nary k ts =>
      cases k
      · refine ⟨_, rfl, p, _, 0, .str (headOf (.nary false ts)), rfl, rfl, SqT.of hp, atI_zero, rfl, _, rfl, ?_⟩
        rw [hE (.nary false ts) "word" false (by exact (show (("or" : Str) == "word") = false by decide +kernel))]
        refine iteF ?_
        refine ⟨_, rfl, p, _, 0, .str (headOf (.nary false ts)), rfl, rfl, SqT.of hp, atI_zero, rfl, _, rfl, ?_⟩
        rw [hE (.nary false ts) "not" false (by exact (show (("or" : Str) == "not") = false by decide +kernel))]
        refine iteF ?_
        refine ⟨_, rfl, p, _, 0, .str (headOf (.nary false ts)), rfl, rfl, SqT.of hp, atI_zero, rfl, _, rfl, ?_⟩
        rw [hE (.nary false ts) "and" false (by exact (show (("or" : Str) == "and") = false by decide +kernel))]
        refine iteF ?_
        refine ⟨_, rfl, p, _, 0, .str (headOf (.nary false ts)), rfl, rfl, SqT.of hp, atI_zero, rfl, _, rfl, ?_⟩
        rw [hE (.nary false ts) "or" true (by exact (show (("or" : Str) == "or") = true by decide +kernel))]
        refine iteT ?_
        obtain ⟨p1, l2, us, e1, hp1, hl, tus⟩ := tr
        cases e1
        have w2 : depT (.nary false ts) = depL ts + 1 := rfl
        have w3 : sizT (.nary false ts) = sizL ts + 1 := rfl
        have w4 := tus.len
        have w5 := sizL_len ts
        refine ⟨_, rfl, p, _, 1, .ref l2, rfl, rfl, SqT.of hp1, rfl, l2, rfl, ⟨_, SqL.of hl⟩, fun D hD => ?_⟩
        refine lc_list (K := K) (a := l2) (xs := us) (fun i G => Same H G ∧ G D = some (.lst ((ltL inW (ts.take i)).map V.bl))) ⟨same_new hD, upd_same⟩ (fun i G _ h => SqL.of (h.1 _ _ hl)) ?_ ?_
        · rintro i y G hi ⟨s1, g⟩
          obtain ⟨t, ht, tx⟩ := tus.at hi
          have w6 := depL_mem ht
          have w7 := sizL_take ht
          refine ⟨rfl, ?_⟩
          dsimp only [tYes]
          rw [if_pos rfl]
          refine ⟨_, rfl, _, rfl, y, x, t, inW, rfl, treeAt_same s1 tx, hw.same s1, by omega, by omega, fun z hz => hok z (leavL_at ht hz), fun G2 s2 => ⟨_, s2 _ _ g, ?_, ?_, ?_⟩⟩
          · rw [List.length_map, ltL_len, List.length_take]
            omega
          · intro b u hb
            rw [upd_ne (ne_of_none hb hD)]
            exact s2 _ _ (s1 _ _ hb)
          · rw [take_snoc ht, ltL_app, List.map_append]
            exact upd_same
        · rintro G ⟨s1, g⟩
          rw [w4, List.take_length] at g
          refine ⟨D, _, rfl, .inl (SqL.of g), rfl, flat_bls _, ?_⟩
          rw [in_bl]
          exact q G s1
      · refine ⟨_, rfl, p, _, 0, .str (headOf (.nary true ts)), rfl, rfl, SqT.of hp, atI_zero, rfl, _, rfl, ?_⟩
        rw [hE (.nary true ts) "word" false (by exact (show (("and" : Str) == "word") = false by decide +kernel))]
        refine iteF ?_
        refine ⟨_, rfl, p, _, 0, .str (headOf (.nary true ts)), rfl, rfl, SqT.of hp, atI_zero, rfl, _, rfl, ?_⟩
        rw [hE (.nary true ts) "not" false (by exact (show (("and" : Str) == "not") = false by decide +kernel))]
        refine iteF ?_
        refine ⟨_, rfl, p, _, 0, .str (headOf (.nary true ts)), rfl, rfl, SqT.of hp, atI_zero, rfl, _, rfl, ?_⟩
        rw [hE (.nary true ts) "and" true (by exact (show (("and" : Str) == "and") = true by decide +kernel))]
        refine iteT ?_
        obtain ⟨p1, l2, us, e1, hp1, hl, tus⟩ := tr
        cases e1
        have w2 : depT (.nary true ts) = depL ts + 1 := rfl
        have w3 : sizT (.nary true ts) = sizL ts + 1 := rfl
        have w4 := tus.len
        have w5 := sizL_len ts
        refine ⟨_, rfl, p, _, 1, .ref l2, rfl, rfl, SqT.of hp1, rfl, l2, rfl, ⟨_, SqL.of hl⟩, fun D hD => ?_⟩
        refine lc_list (K := K) (a := l2) (xs := us) (fun i G => Same H G ∧ G D = some (.lst ((ltL inW (ts.take i)).map V.bl))) ⟨same_new hD, upd_same⟩ (fun i G _ h => SqL.of (h.1 _ _ hl)) ?_ ?_
        · rintro i y G hi ⟨s1, g⟩
          obtain ⟨t, ht, tx⟩ := tus.at hi
          have w6 := depL_mem ht
          have w7 := sizL_take ht
          refine ⟨rfl, ?_⟩
          dsimp only [tYes]
          rw [if_pos rfl]
          refine ⟨_, rfl, _, rfl, y, x, t, inW, rfl, treeAt_same s1 tx, hw.same s1, by omega, by omega, fun z hz => hok z (leavL_at ht hz), fun G2 s2 => ⟨_, s2 _ _ g, ?_, ?_, ?_⟩⟩
          · rw [List.length_map, ltL_len, List.length_take]
            omega
          · intro b u hb
            rw [upd_ne (ne_of_none hb hD)]
            exact s2 _ _ (s1 _ _ hb)
          · rw [take_snoc ht, ltL_app, List.map_append]
            exact upd_same
        · rintro G ⟨s1, g⟩
          rw [w4, List.take_length] at g
          refine ⟨D, _, rfl, .inl (SqL.of g), rfl, flat_bls _, ?_⟩
          rw [notin_bl]
          exact q G s1
end
end Fx
set_option maxHeartbeats 2000000
namespace Fx
open PySem PySem.Spec PyProof.Rows L2 TL

mutual
def lenT : LT → Nat
  | .word z => z.length + 1
  | .cst _ => 5
  | .neg t => lenT t + 7
  | .nary _ ts => lenL ts + 1
def lenL : List LT → Nat
  | [] => 0
  | t :: ts => lenT t + 7 + lenL ts
end
mutual
theorem siz_len : ∀ t : LT, sizT t ≤ lenT t
  | .word z => by show 1 ≤ z.length + 1; omega
  | .cst _ => by show 1 ≤ 5; omega
  | .neg t => by
    have h := siz_len t
    show sizT t + 1 ≤ lenT t + 7
    omega
  | .nary _ ts => by
    have h := sizL_lenL ts
    show sizL ts + 1 ≤ lenL ts + 1
    omega
theorem sizL_lenL : ∀ ts : List LT, sizL ts ≤ lenL ts
  | [] => Nat.le_refl _
  | t :: ts => by
    have h1 := siz_len t
    have h2 := sizL_lenL ts
    show sizT t + sizL ts ≤ lenT t + 7 + lenL ts
    omega
end
theorem lenL_app : ∀ (a b : List LT), lenL (a ++ b) = lenL a + lenL b
  | [], b => by show lenL b = 0 + lenL b; omega
  | t :: a, b => by
    show lenT t + 7 + lenL (a ++ b) = lenT t + 7 + lenL a + lenL b
    rw [lenL_app a b]
    omega
mutual
theorem len_flat1 (k : Bool) : ∀ t : LT, lenL (flat1 k t) ≤ lenT t + 7
  | .word z => by show z.length + 1 + 7 + 0 ≤ _; exact Nat.le_refl _
  | .cst _ => Nat.le_refl _
  | .neg t => by show lenT t + 7 + 7 + 0 ≤ lenT t + 7 + 7; omega
  | .nary j ts => by
    unfold flat1
    split
    · have h := len_flatL k ts
      show lenL (flatL k ts) ≤ lenL ts + 1 + 7
      omega
    · show lenL ts + 1 + 7 + 0 ≤ lenL ts + 1 + 7
      omega
theorem len_flatL (k : Bool) : ∀ ts : List LT, lenL (flatL k ts) ≤ lenL ts
  | [] => Nat.le_refl _
  | t :: ts => by
    have h1 := len_flat1 k t
    have h2 := len_flatL k ts
    show lenL (flat1 k t ++ flatL k ts) ≤ lenT t + 7 + lenL ts
    rw [lenL_app]
    omega
end
theorem depL_app : ∀ (a b : List LT), depL (a ++ b) = max (depL a) (depL b)
  | [], b => by show depL b = max 0 (depL b); omega
  | t :: a, b => by
    show max (depT t) (depL (a ++ b)) = max (max (depT t) (depL a)) (depL b)
    rw [depL_app a b]
    omega
mutual
theorem dep_flat1 (k : Bool) : ∀ t : LT, depL (flat1 k t) ≤ depT t
  | .word z => Nat.max_le.mpr ⟨Nat.le_refl _, Nat.zero_le _⟩
  | .cst _ => Nat.max_le.mpr ⟨Nat.le_refl _, Nat.zero_le _⟩
  | .neg t => Nat.max_le.mpr ⟨Nat.le_refl _, Nat.zero_le _⟩
  | .nary j ts => by
    unfold flat1
    split
    · exact Nat.le_trans (dep_flatL k ts) (Nat.le_succ _)
    · exact Nat.max_le.mpr ⟨Nat.le_refl _, Nat.zero_le _⟩
theorem dep_flatL (k : Bool) : ∀ ts : List LT, depL (flatL k ts) ≤ depL ts
  | [] => Nat.le_refl _
  | t :: ts => by
    have h1 := dep_flat1 k t
    have h2 := dep_flatL k ts
    show depL (flat1 k t ++ flatL k ts) ≤ max (depT t) (depL ts)
    rw [depL_app]
    omega
end
theorem lenL_mem : ∀ {ts : List LT} {i : Nat} {t : LT}, ts[i]? = some t → lenT t ≤ lenL ts
  | [], i, t, h => by simp at h
  | x :: ts, 0, t, h => by
    have e : x = t := by simpa using h
    subst e
    show lenT x ≤ lenT x + 7 + lenL ts
    omega
  | x :: ts, i + 1, t, h => by
    have e : ts[i]? = some t := by simpa using h
    have h2 := lenL_mem e
    show lenT t ≤ lenT x + 7 + lenL ts
    omega
def clo (kinds : List Str) (t : LT) (s : Str) : Str := if (kinds.any fun y => y == headOf t) = true then "(" ++ s ++ ")" else s
def kindsOf (k : Bool) : List Str := if k then ["or"] else []
def txtN : Nat → LT → Str
  | _, .word z => z
  | _, .cst b => cstOf b
  | n + 1, .neg t => "not " ++ clo ["and", "or"] t (txtN n t)
  | n + 1, .nary k ts => Str.join (" " ++ kindOf k ++ " ") ((flatL k ts).map fun t => clo (kindsOf k) t (txtN n t))
  | 0, _ => ""
theorem len_apS {a b : Str} : (a ++ b).length = a.length + b.length := by rw [len_tl, len_tl, len_tl, tl_append, List.length_append]
theorem len_join (y : Str) : ∀ ps : List Str, (Str.join y ps).length ≤ (ps.map (·.length)).sum + ps.length * y.length
  | [] => by show (0 : Nat) ≤ _; omega
  | [x] => by
    show x.length ≤ (x.length + 0) + 1 * y.length
    omega
  | x :: z :: r => by
    have h := len_join y (z :: r)
    show (x ++ y ++ Str.join y (z :: r)).length ≤ (x.length + ((z :: r).map (·.length)).sum) + ((z :: r).length + 1) * y.length
    rw [len_apS, len_apS, Nat.add_mul]
    omega
theorem clo_len {ks : List Str} {t : LT} {s : Str} : (clo ks t s).length ≤ s.length + 2 := by
  unfold clo
  split
  · rw [len_apS, len_apS, show (("(" : Str)).length = 1 from rfl, show ((")" : Str)).length = 1 from rfl]
    omega
  · omega
theorem kind_len (k : Bool) : (kindOf k).length ≤ 3 := by
  cases k <;> decide +kernel
theorem sep_len (k : Bool) : (" " ++ kindOf k ++ " " : Str).length ≤ 5 := by
  cases k <;> decide +kernel
theorem cst_len (b : Bool) : (cstOf b).length ≤ 4 := by
  cases b <;> decide +kernel
theorem sum_len {f : LT → Str} (hf : ∀ t, (f t).length ≤ lenT t + 2) : ∀ ts : List LT, ((ts.map f).map (·.length)).sum + (ts.map f).length * 5 ≤ lenL ts
  | [] => Nat.le_refl _
  | t :: ts => by
    have h1 := hf t
    have h2 := sum_len hf ts
    show ((f t).length + ((ts.map f).map (·.length)).sum) + ((ts.map f).length + 1) * 5 ≤ lenT t + 7 + lenL ts
    omega
theorem txt_len : ∀ (n : Nat) (t : LT), (txtN n t).length ≤ lenT t
  | n, .word z => by
    cases n <;> exact Nat.le_succ _
  | n, .cst b => by
    have h := cst_len b
    cases n <;> exact Nat.le_trans h (by show 4 ≤ 5; omega)
  | 0, .neg t => Nat.zero_le _
  | 0, .nary k ts => Nat.zero_le _
  | n + 1, .neg t => by
    have h := txt_len n t
    have h2 := clo_len (ks := ["and", "or"]) (t := t) (s := txtN n t)
    show ("not " ++ clo ["and", "or"] t (txtN n t) : Str).length ≤ lenT t + 7
    rw [len_apS, show ("not " : Str).length = 4 from rfl]
    omega
  | n + 1, .nary k ts => by
    have h := sum_len (f := fun t => clo (kindsOf k) t (txtN n t)) (fun t => by
      have h := txt_len n t
      have h2 := clo_len (ks := kindsOf k) (t := t) (s := txtN n t)
      omega) (flatL k ts)
    have h2 := len_join (" " ++ kindOf k ++ " ") ((flatL k ts).map fun t => clo (kindsOf k) t (txtN n t))
    have h3 := len_flatL k ts
    have h4 : ((flatL k ts).map fun t => clo (kindsOf k) t (txtN n t)).length * (" " ++ kindOf k ++ " " : Str).length ≤ ((flatL k ts).map fun t => clo (kindsOf k) t (txtN n t)).length * 5 := Nat.mul_le_mul_left _ (sep_len k)
    show (Str.join (" " ++ kindOf k ++ " ") ((flatL k ts).map fun t => clo (kindsOf k) t (txtN n t))).length ≤ lenL ts + 1
    omega
section
variable {P : Program} {w : World} {K : PySem.W.Frag} {mg : Str → Option Value} {base : Heap} {f fX fT : Addr} {fd fdX fdT : FuncData}
def spLText (n : Nat) : Sp := fun vs H Q _ => ∃ (v : V) (t : LT), vs = [v] ∧ TreeAt H t v ∧ depT t ≤ n ∧ lenT t ≤ 100000 ∧ ∀ G, Same H G → Q (.str (txtN n t)) G
def spClose (K : PySem.W.Frag) (n : Nat) : Sp := fun vs H Q _ => ∃ (v : V) (kd : Addr) (t : LT) (ks : List Str), vs = [v, .ref kd] ∧ TreeAt H t v ∧ SqL K H kd (ks.map V.str) ∧ depT t ≤ n ∧ lenT t ≤ 100000 ∧ ∀ G, Same H G → Q (.str (clo ks t (txtN n t))) G
theorem sc_ltext : FnScope ["_law_tree_here", "_law_open_kinds", "_law_part"] ["_law_tree_here"] (defScope (tp 31)) := ⟨rfl, rfl, rfl, by decide +kernel, rfl, by decide +kernel, by decide +kernel⟩
theorem sc_close : FnScope ["_law_tree_here", "_law_kinds"] ["_law_tree_here", "_law_kinds"] (defScope (tp 32)) := ⟨rfl, rfl, rfl, by decide +kernel, rfl, by decide +kernel, by decide +kernel⟩
theorem ok_close (m n : Nat) (F : FnT K "_law_close" 32 f fd) (FT : FnT K "_law_text" 31 fT fdT) (gT : mg "_law_text" = some (.ref fT)) (GT : FnOk P w K mg base CX0 (m + 1) fT fdT ["_law_tree_here"] (spLText n)) : FnOk P w K mg base CX0 (m + 1 + 1) f fd ["_law_tree_here", "_law_kinds"] (spClose K n) := by
  have bT : L2.Binds K fdT ["_law_tree_here"] [] := FT.bindsN fun _ _ _ _ _ _ us hl => match us, hl with | [_], _ => rfl
  refine F.ok sc_close (fun vs H Q E h => ?_) (fun cdv A outer s H vs Q E hr h => ⟨_, PSs.nox (pss_one (ps_ret (pe_ifExp (pt_cmpR op_in_seq (pe_ix ix_tup (pv 0) pe_int (fun _ _ => rfl)) (pv 1) (by rfl)) (pe_op op_add_str (pe_op op_add_str pe_str (pe_call GT (hr) rfl gT FT.kp bT .nil pass0 (pa_cons (pv 0) pa_nil))) pe_str) (pe_call GT (hr) rfl gT FT.kp bT .nil pass0 (pa_cons (pv 0) pa_nil))))), ?_⟩)
  · obtain ⟨v, kd, t, ks, rfl, _⟩ := h
    rfl
  · obtain ⟨v, kd, t, ks, rfl, tr, hk, hd, hs, q⟩ := h
    have line : (200000 : Nat) ≤ sizeLine := by decide
    obtain ⟨p, rest, rfl, hp⟩ := treeHead tr
    have w1 := txt_len n t
    refine ⟨_, rfl, p, _, 0, .str (headOf t), rfl, rfl, SqT.of hp, atI_zero, _, rfl, kd, ks.map V.str, rfl, .inl hk, rfl, flat_strs _, _, rfl, ?_⟩
    rw [in_val]
    cases c : (ks.any fun y => y == headOf t) with
    | true =>
      refine iteT ⟨_, rfl, .ref p, t, rfl, tr, hd, hs, fun G s => ⟨_, _, rfl, rfl, ?_, _, _, rfl, rfl, ?_, ?_⟩⟩
      · rw [show ("(" : Str).length = 1 from rfl]
        omega
      · rw [len_apS, show ("(" : Str).length = 1 from rfl, show (")" : Str).length = 1 from rfl]
        omega
      · have w2 := q G s
        unfold clo at w2
        rw [if_pos c] at w2
        exact w2
    | false =>
      refine iteF ⟨_, rfl, .ref p, t, rfl, tr, hd, hs, fun G s => ?_⟩
      have w2 := q G s
      unfold clo at w2
      rw [if_neg (by rw [c]; decide)] at w2
      exact w2
theorem base_ltext (F : FnT K "_law_text" 31 f fd) : FnOk P w K mg base CX0 1 f fd ["_law_tree_here"] (spLText 0) := by
  refine F.ok sc_ltext (fun vs H Q E h => ?_) (fun cdv A outer s H vs Q E hr h => ⟨_, PSs.nox (pss_cons (ps_if (pt_cmpR op_eq (pe_ix ix_tup (pv 0) pe_int (fun _ _ => rfl)) pe_str (nomark _)) (pss_one (ps_ret (pe_ix ix_tup (pv 0) pe_int (fun _ _ => rfl)))) pss_nil)
      (pss_cons (ps_if (pt_cmpR op_eq (pe_ix ix_tup (pv 0) pe_int (fun _ _ => rfl)) pe_str (nomark _)) (pss_one (ps_never)) pss_nil)
      (pss_cons (ps_if (pt_cmpR op_in_seq (pe_ix ix_tup (pv 0) pe_int (fun _ _ => rfl)) (pe_tup (pa_cons pe_str (pa_cons pe_str pa_nil))) (by rfl)) (pss_cons (ps_never)
      (pss_one (ps_never))) pss_nil)
      (pss_one (ps_ret (pe_ix ix_tup (pv 0) pe_int (fun _ _ => rfl))))))), ?_⟩)
  · obtain ⟨v, t, rfl, _⟩ := h
    rfl
  · obtain ⟨v, t, rfl, tr, hd, hs, q⟩ := h
    obtain ⟨p, rest, rfl, hp⟩ := treeHead tr
    cases t with
    | word z =>
      refine ⟨_, rfl, p, _, 0, .str (headOf (.word z)), rfl, rfl, SqT.of hp, atI_zero, rfl, _, rfl, ?_⟩
      rw [hE (.word z) "word" true (by exact (show (("word" : Str) == "word") = true by decide +kernel))]
      refine iteT ?_
      obtain ⟨p1, e1, hp1⟩ := tr
      cases e1
      exact ⟨_, rfl, p, _, 1, .str z, rfl, rfl, SqT.of hp1, rfl, q H (Same.refl H)⟩
    | cst b =>
      cases b
      · refine ⟨_, rfl, p, _, 0, .str (headOf (.cst false)), rfl, rfl, SqT.of hp, atI_zero, rfl, _, rfl, ?_⟩
        rw [hE (.cst false) "word" false (by exact (show ((("none" : Str) : Str) == "word") = false by decide +kernel))]
        refine iteF ?_
        refine ⟨_, rfl, p, _, 0, .str (headOf (.cst false)), rfl, rfl, SqT.of hp, atI_zero, rfl, _, rfl, ?_⟩
        rw [hE (.cst false) "not" false (by exact (show ((("none" : Str) : Str) == "not") = false by decide +kernel))]
        refine iteF ?_
        refine ⟨_, rfl, p, _, 0, .str (headOf (.cst false)), rfl, rfl, SqT.of hp, atI_zero, (by show 2 ≤ sizeLine; decide), fun g hg => ⟨g, [.str "and", .str "or"], rfl, .inr (SqT.of upd_same), rfl, rfl, _, rfl, ?_⟩⟩
        rw [show (if (false : Bool) = true then !inV (.str (headOf (.cst false))) [.str "and", .str "or"] else inV (.str (headOf (.cst false))) [.str "and", .str "or"]) = false from (show (if (false : Bool) = true then !inV (.str ("none" : Str)) [.str "and", .str "or"] else inV (.str ("none" : Str)) [.str "and", .str "or"]) = false by decide +kernel)]
        have hp := same_new hg (u := .tup [.str "and", .str "or"]) _ _ hp
        refine iteF ?_
        exact ⟨_, rfl, p, _, 0, .str (headOf (.cst false)), rfl, rfl, SqT.of hp, atI_zero, q _ (same_new hg)⟩
      · refine ⟨_, rfl, p, _, 0, .str (headOf (.cst true)), rfl, rfl, SqT.of hp, atI_zero, rfl, _, rfl, ?_⟩
        rw [hE (.cst true) "word" false (by exact (show ((("all" : Str) : Str) == "word") = false by decide +kernel))]
        refine iteF ?_
        refine ⟨_, rfl, p, _, 0, .str (headOf (.cst true)), rfl, rfl, SqT.of hp, atI_zero, rfl, _, rfl, ?_⟩
        rw [hE (.cst true) "not" false (by exact (show ((("all" : Str) : Str) == "not") = false by decide +kernel))]
        refine iteF ?_
        refine ⟨_, rfl, p, _, 0, .str (headOf (.cst true)), rfl, rfl, SqT.of hp, atI_zero, (by show 2 ≤ sizeLine; decide), fun g hg => ⟨g, [.str "and", .str "or"], rfl, .inr (SqT.of upd_same), rfl, rfl, _, rfl, ?_⟩⟩
        rw [show (if (false : Bool) = true then !inV (.str (headOf (.cst true))) [.str "and", .str "or"] else inV (.str (headOf (.cst true))) [.str "and", .str "or"]) = false from (show (if (false : Bool) = true then !inV (.str ("all" : Str)) [.str "and", .str "or"] else inV (.str ("all" : Str)) [.str "and", .str "or"]) = false by decide +kernel)]
        have hp := same_new hg (u := .tup [.str "and", .str "or"]) _ _ hp
        refine iteF ?_
        exact ⟨_, rfl, p, _, 0, .str (headOf (.cst true)), rfl, rfl, SqT.of hp, atI_zero, q _ (same_new hg)⟩
    | neg t =>
      exfalso
      have w2 : depT (.neg t) = depT t + 1 := rfl
      omega
    | nary k ts =>
      exfalso
      have w2 : depT (.nary k ts) = depL ts + 1 := rfl
      omega
theorem step_ltext (m n : Nat) (F : FnT K "_law_text" 31 f fd) (FX : FnT K "_law_close" 32 fX fdX) (gX : mg "_law_close" = some (.ref fX)) (GX : FnOk P w K mg base CX0 (m + 1) fX fdX ["_law_tree_here", "_law_kinds"] (spClose K n))
    (FF : FnT K "_law_flat" 30 fT fdT) (gF : mg "_law_flat" = some (.ref fT)) (GF : FnOk P w K mg base CX0 (m + 1) fT fdT ["_law_kind", "_law_parts"] (spFlat n)) : FnOk P w K mg base CX0 (m + 1 + 1) f fd ["_law_tree_here"] (spLText (n + 1)) := by
  have bX : L2.Binds K fdX ["_law_tree_here", "_law_kinds"] [] := FX.bindsN fun _ _ _ _ _ _ us hl => match us, hl with | [_, _], _ => rfl
  have bF : L2.Binds K fdT ["_law_kind", "_law_parts"] [] := FF.bindsN fun _ _ _ _ _ _ us hl => match us, hl with | [_, _], _ => rfl
  refine F.ok sc_ltext (fun vs H Q E h => ?_) (fun cdv A outer s H vs Q E hr h => ⟨_, PSs.nox (pss_cons (ps_if (pt_cmpR op_eq (pe_ix ix_tup (pv 0) pe_int (fun _ _ => rfl)) pe_str (nomark _)) (pss_one (ps_ret (pe_ix ix_tup (pv 0) pe_int (fun _ _ => rfl)))) pss_nil)
      (pss_cons (ps_if (pt_cmpR op_eq (pe_ix ix_tup (pv 0) pe_int (fun _ _ => rfl)) pe_str (nomark _)) (pss_one (ps_ret (pe_op op_add_str pe_str (pe_call GX hr rfl gX FX.kp bX .nil pass0 (pa_cons (pe_ix ix_tup (pv 0) pe_int (fun _ _ => rfl)) (pa_cons (pe_lst (pa_cons pe_str (pa_cons pe_str pa_nil))) pa_nil)))))) pss_nil)
      (pss_cons (ps_if (pt_cmpR op_in_seq (pe_ix ix_tup (pv 0) pe_int (fun _ _ => rfl)) (pe_tup (pa_cons pe_str (pa_cons pe_str pa_nil))) (by rfl)) (pss_cons (ps_set (i := 1) sc_ltext.nd rfl (Or.inr rfl) (pe_ifExp (pt_cmpR op_eq (pe_ix ix_tup (pv 0) pe_int (fun _ _ => rfl)) pe_str (nomark _)) (pe_lst (pa_cons pe_str pa_nil)) (pe_lst pa_nil)))
      (pss_one (ps_ret (pe_bm PySem.F.plainAttrs_str PySem.F.slot_str_join PySem.F.type_str_join mt_join (pe_op op_add_str (pe_op op_add_str pe_str (pe_ix ix_tup (pv 0) pe_int (fun _ _ => rfl))) pe_str) (pa_cons (pe_lc (own := [("_law_part", 2)]) (g := gName 2) (tt := tYes) rfl sc_ltext.nd (pi_list (pe_call GF (hr) rfl gF FF.kp bF .nil pass0 (pa_cons (pe_ix ix_tup (pv 0) pe_int (fun _ _ => rfl)) (pa_cons (pe_ix ix_tup (pv 0) pe_int (fun _ _ => rfl)) pa_nil)))) (blkOk_by (N := ["_law_tree_here", "_law_open_kinds", "_law_part"]) (sc := defScope (tp 31)) (by decide +kernel)) (fun _ _ _ _ _ => pg_name (i := 2) sc_ltext.nd rfl (Or.inl rfl)) (fun _ _ _ _ _ => pts_nil) (fun _ _ _ _ _ => (pe_call GX hr rfl gX FX.kp bX .nil pass0 (pa_cons (pv 2) (pa_cons (pv 1) pa_nil))))) pa_nil))))) pss_nil)
      (pss_one (ps_ret (pe_ix ix_tup (pv 0) pe_int (fun _ _ => rfl))))))), ?_⟩)
  · obtain ⟨v, t, rfl, _⟩ := h
    rfl
  · obtain ⟨v, t, rfl, tr, hd, hs, q⟩ := h
    have line : (200000 : Nat) ≤ sizeLine := by decide
    obtain ⟨p, rest, rfl, hp⟩ := treeHead tr
    cases t with
    | word z =>
      refine ⟨_, rfl, p, _, 0, .str (headOf (.word z)), rfl, rfl, SqT.of hp, atI_zero, rfl, _, rfl, ?_⟩
      rw [hE (.word z) "word" true (by exact (show (("word" : Str) == "word") = true by decide +kernel))]
      refine iteT ?_
      obtain ⟨p1, e1, hp1⟩ := tr
      cases e1
      exact ⟨_, rfl, p, _, 1, .str z, rfl, rfl, SqT.of hp1, rfl, q H (Same.refl H)⟩
    | cst b =>
      cases b
      · refine ⟨_, rfl, p, _, 0, .str (headOf (.cst false)), rfl, rfl, SqT.of hp, atI_zero, rfl, _, rfl, ?_⟩
        rw [hE (.cst false) "word" false (by exact (show ((("none" : Str) : Str) == "word") = false by decide +kernel))]
        refine iteF ?_
        refine ⟨_, rfl, p, _, 0, .str (headOf (.cst false)), rfl, rfl, SqT.of hp, atI_zero, rfl, _, rfl, ?_⟩
        rw [hE (.cst false) "not" false (by exact (show ((("none" : Str) : Str) == "not") = false by decide +kernel))]
        refine iteF ?_
        refine ⟨_, rfl, p, _, 0, .str (headOf (.cst false)), rfl, rfl, SqT.of hp, atI_zero, (by show 2 ≤ sizeLine; decide), fun g hg => ⟨g, [.str "and", .str "or"], rfl, .inr (SqT.of upd_same), rfl, rfl, _, rfl, ?_⟩⟩
        rw [show (if (false : Bool) = true then !inV (.str (headOf (.cst false))) [.str "and", .str "or"] else inV (.str (headOf (.cst false))) [.str "and", .str "or"]) = false from (show (if (false : Bool) = true then !inV (.str ("none" : Str)) [.str "and", .str "or"] else inV (.str ("none" : Str)) [.str "and", .str "or"]) = false by decide +kernel)]
        have hp := same_new hg (u := .tup [.str "and", .str "or"]) _ _ hp
        refine iteF ?_
        exact ⟨_, rfl, p, _, 0, .str (headOf (.cst false)), rfl, rfl, SqT.of hp, atI_zero, q _ (same_new hg)⟩
      · refine ⟨_, rfl, p, _, 0, .str (headOf (.cst true)), rfl, rfl, SqT.of hp, atI_zero, rfl, _, rfl, ?_⟩
        rw [hE (.cst true) "word" false (by exact (show ((("all" : Str) : Str) == "word") = false by decide +kernel))]
        refine iteF ?_
        refine ⟨_, rfl, p, _, 0, .str (headOf (.cst true)), rfl, rfl, SqT.of hp, atI_zero, rfl, _, rfl, ?_⟩
        rw [hE (.cst true) "not" false (by exact (show ((("all" : Str) : Str) == "not") = false by decide +kernel))]
        refine iteF ?_
        refine ⟨_, rfl, p, _, 0, .str (headOf (.cst true)), rfl, rfl, SqT.of hp, atI_zero, (by show 2 ≤ sizeLine; decide), fun g hg => ⟨g, [.str "and", .str "or"], rfl, .inr (SqT.of upd_same), rfl, rfl, _, rfl, ?_⟩⟩
        rw [show (if (false : Bool) = true then !inV (.str (headOf (.cst true))) [.str "and", .str "or"] else inV (.str (headOf (.cst true))) [.str "and", .str "or"]) = false from (show (if (false : Bool) = true then !inV (.str ("all" : Str)) [.str "and", .str "or"] else inV (.str ("all" : Str)) [.str "and", .str "or"]) = false by decide +kernel)]
        have hp := same_new hg (u := .tup [.str "and", .str "or"]) _ _ hp
        refine iteF ?_
        exact ⟨_, rfl, p, _, 0, .str (headOf (.cst true)), rfl, rfl, SqT.of hp, atI_zero, q _ (same_new hg)⟩
    | neg t =>
      refine ⟨_, rfl, p, _, 0, .str (headOf (.neg t)), rfl, rfl, SqT.of hp, atI_zero, rfl, _, rfl, ?_⟩
      rw [hE (.neg t) "word" false (by exact (show (("not" : Str) == "word") = false by decide +kernel))]
      refine iteF ?_
      refine ⟨_, rfl, p, _, 0, .str (headOf (.neg t)), rfl, rfl, SqT.of hp, atI_zero, rfl, _, rfl, ?_⟩
      rw [hE (.neg t) "not" true (by exact (show (("not" : Str) == "not") = true by decide +kernel))]
      refine iteT ?_
      obtain ⟨p1, u, e1, hp1, tu⟩ := tr
      cases e1
      have w2 : depT (.neg t) = depT t + 1 := rfl
      have w3 : lenT (.neg t) = lenT t + 7 := rfl
      refine ⟨_, rfl, p, _, 1, u, rfl, rfl, SqT.of hp1, rfl, (by show 2 ≤ sizeLine; decide), fun g hg => ?_⟩
      have s0 := same_new hg (u := .lst [.str "and", .str "or"])
      refine ⟨u, g, t, ["and", "or"], rfl, treeAt_same s0 tu, SqL.of upd_same, by omega, by omega, fun G s => ⟨_, _, rfl, rfl, ?_, q G (s0.trans s)⟩⟩
      have w4 := txt_len n t
      have w5 := clo_len (ks := ["and", "or"]) (t := t) (s := txtN n t)
      rw [show ("not " : Str).length = 4 from rfl]
      omega
    | nary k ts =>
      cases k
      · refine ⟨_, rfl, p, _, 0, .str (headOf (.nary false ts)), rfl, rfl, SqT.of hp, atI_zero, rfl, _, rfl, ?_⟩
        rw [hE (.nary false ts) "word" false (by exact (show ((("or" : Str) : Str) == "word") = false by decide +kernel))]
        refine iteF ?_
        refine ⟨_, rfl, p, _, 0, .str (headOf (.nary false ts)), rfl, rfl, SqT.of hp, atI_zero, rfl, _, rfl, ?_⟩
        rw [hE (.nary false ts) "not" false (by exact (show ((("or" : Str) : Str) == "not") = false by decide +kernel))]
        refine iteF ?_
        refine ⟨_, rfl, p, _, 0, .str (headOf (.nary false ts)), rfl, rfl, SqT.of hp, atI_zero, (by show 2 ≤ sizeLine; decide), fun g hg => ⟨g, [.str "and", .str "or"], rfl, .inr (SqT.of upd_same), rfl, rfl, _, rfl, ?_⟩⟩
        rw [show (if (false : Bool) = true then !inV (.str (headOf (.nary false ts))) [.str "and", .str "or"] else inV (.str (headOf (.nary false ts))) [.str "and", .str "or"]) = true from (show (if (false : Bool) = true then !inV (.str ("or" : Str)) [.str "and", .str "or"] else inV (.str ("or" : Str)) [.str "and", .str "or"]) = true by decide +kernel)]
        have hp := same_new hg (u := .tup [.str "and", .str "or"]) _ _ hp
        refine iteT ?_
        obtain ⟨p1, l2, us, e1, hp1, hl, tus⟩ := tr
        cases e1
        have w2 : depT (.nary false ts) = depL ts + 1 := rfl
        have w3 : lenT (.nary false ts) = lenL ts + 1 := rfl
        have w4 := sizL_lenL ts
        have w5 := sep_len false
        have w6 := kind_len false
        refine ⟨_, rfl, p, _, 0, .str (headOf (.nary false ts)), rfl, rfl, SqT.of hp, atI_zero, rfl, _, rfl, ?_⟩
        rw [hE (.nary false ts) "and" false (by exact (show (("or" : Str) == "and") = false by decide +kernel))]
        refine iteF ⟨Nat.zero_le _, fun o ho => ?_⟩
        have sg := same_new hg (u := .tup [.str "and", .str "or"])
        have so := same_new ho (u := .lst [])
        have s0 := sg.trans so
        refine ⟨_, rfl, p, _, 0, .str (headOf (.nary false ts)), rfl, rfl, SqT.of (so _ _ hp), atI_zero, _, _, rfl, rfl, ?_, _, _, rfl, rfl, ?_, ?_⟩
        · rw [show (" " : Str).length = 1 from rfl]
          have w7 : (headOf (.nary false ts)).length ≤ 3 := kind_len false
          omega
        · rw [len_apS, show (" " : Str).length = 1 from rfl]
          have w7 : (headOf (.nary false ts)).length ≤ 3 := kind_len false
          omega
        · refine ⟨rfl, ?_⟩
          refine ⟨_, rfl, p, _, 0, .str (headOf (.nary false ts)), rfl, rfl, SqT.of (so _ _ hp), atI_zero, _, rfl, p, _, 1, .ref l2, rfl, rfl, SqT.of (s0 _ _ hp1), rfl, false, l2, ts, us, H, rfl, s0 _ _ hl, s0, tus, by omega, by omega, fun pf G vs3 s3 n3 g3 t3 => ⟨pf, rfl, ⟨_, SqL.of g3⟩, fun D hD => ?_⟩⟩
          have w8 := t3.len
          have w9 := flatL_len false ts
          have w10 := len_flatL false ts
          have w11 := dep_flatL false ts
          have sHG := s0.trans s3
          refine lc_list (K := K) (a := pf) (xs := vs3) (fun i F => Same G F ∧ F D = some (.lst ((((flatL false ts).take i).map fun t => V.str (clo (kindsOf false) t (txtN n t)))))) ⟨same_new hD, upd_same⟩ (fun i F _ h => SqL.of (h.1 _ _ g3)) ?_ ?_
          · rintro i x F hi ⟨s1, gD⟩
            obtain ⟨t, ht, tx⟩ := t3.at hi
            have w12 := depL_mem ht
            have w13 := lenL_mem ht
            have sHF := sHG.trans s1
            refine ⟨rfl, ?_⟩
            dsimp only [tYes]
            rw [if_pos rfl]
            refine ⟨_, rfl, _, rfl, x, o, t, kindsOf false, rfl, treeAt_same sHF tx, SqL.of (s1 _ _ (s3 _ _ upd_same)), by omega, by omega, fun G2 s2 => ⟨_, s2 _ _ gD, ?_, ?_, ?_⟩⟩
            · rw [List.length_map, List.length_take]
              omega
            · intro b u hb
              rw [upd_ne (ne_of_none hb hD)]
              exact s2 _ _ (s1 _ _ hb)
            · rw [take_snoc ht, List.map_append]
              exact upd_same
          · rintro F ⟨s1, gD⟩
            rw [w8, List.take_length] at gD
            have w14 := sum_len (f := fun t => clo (kindsOf false) t (txtN n t)) (fun t => by
              have h := txt_len n t
              have h2 := clo_len (ks := kindsOf false) (t := t) (s := txtN n t)
              omega) (flatL false ts)
            have w15 : ((flatL false ts).map fun t => clo (kindsOf false) t (txtN n t)).length * (" " ++ kindOf false ++ " " : Str).length ≤ ((flatL false ts).map fun t => clo (kindsOf false) t (txtN n t)).length * 5 := Nat.mul_le_mul_left _ w5
            refine ⟨_, D, (flatL false ts).map fun t => clo (kindsOf false) t (txtN n t), rfl, rfl, .inl (SqL.of (by rw [List.map_map]; exact gD)), ?_, ?_⟩
            · show _ + _ * (" " ++ kindOf false ++ " " : Str).length ≤ _
              omega
            · rw [join_eq]
              exact q F (sHG.trans s1)
      · refine ⟨_, rfl, p, _, 0, .str (headOf (.nary true ts)), rfl, rfl, SqT.of hp, atI_zero, rfl, _, rfl, ?_⟩
        rw [hE (.nary true ts) "word" false (by exact (show ((("and" : Str) : Str) == "word") = false by decide +kernel))]
        refine iteF ?_
        refine ⟨_, rfl, p, _, 0, .str (headOf (.nary true ts)), rfl, rfl, SqT.of hp, atI_zero, rfl, _, rfl, ?_⟩
        rw [hE (.nary true ts) "not" false (by exact (show ((("and" : Str) : Str) == "not") = false by decide +kernel))]
        refine iteF ?_
        refine ⟨_, rfl, p, _, 0, .str (headOf (.nary true ts)), rfl, rfl, SqT.of hp, atI_zero, (by show 2 ≤ sizeLine; decide), fun g hg => ⟨g, [.str "and", .str "or"], rfl, .inr (SqT.of upd_same), rfl, rfl, _, rfl, ?_⟩⟩
        rw [show (if (false : Bool) = true then !inV (.str (headOf (.nary true ts))) [.str "and", .str "or"] else inV (.str (headOf (.nary true ts))) [.str "and", .str "or"]) = true from (show (if (false : Bool) = true then !inV (.str ("and" : Str)) [.str "and", .str "or"] else inV (.str ("and" : Str)) [.str "and", .str "or"]) = true by decide +kernel)]
        have hp := same_new hg (u := .tup [.str "and", .str "or"]) _ _ hp
        refine iteT ?_
        obtain ⟨p1, l2, us, e1, hp1, hl, tus⟩ := tr
        cases e1
        have w2 : depT (.nary true ts) = depL ts + 1 := rfl
        have w3 : lenT (.nary true ts) = lenL ts + 1 := rfl
        have w4 := sizL_lenL ts
        have w5 := sep_len true
        have w6 := kind_len true
        refine ⟨_, rfl, p, _, 0, .str (headOf (.nary true ts)), rfl, rfl, SqT.of hp, atI_zero, rfl, _, rfl, ?_⟩
        rw [hE (.nary true ts) "and" true (by exact (show (("and" : Str) == "and") = true by decide +kernel))]
        refine iteT ⟨(by show 1 ≤ sizeLine; decide), fun o ho => ?_⟩
        have sg := same_new hg (u := .tup [.str "and", .str "or"])
        have so := same_new ho (u := .lst [.str "or"])
        have s0 := sg.trans so
        refine ⟨_, rfl, p, _, 0, .str (headOf (.nary true ts)), rfl, rfl, SqT.of (so _ _ hp), atI_zero, _, _, rfl, rfl, ?_, _, _, rfl, rfl, ?_, ?_⟩
        · rw [show (" " : Str).length = 1 from rfl]
          have w7 : (headOf (.nary true ts)).length ≤ 3 := kind_len true
          omega
        · rw [len_apS, show (" " : Str).length = 1 from rfl]
          have w7 : (headOf (.nary true ts)).length ≤ 3 := kind_len true
          omega
        · refine ⟨rfl, ?_⟩
          refine ⟨_, rfl, p, _, 0, .str (headOf (.nary true ts)), rfl, rfl, SqT.of (so _ _ hp), atI_zero, _, rfl, p, _, 1, .ref l2, rfl, rfl, SqT.of (s0 _ _ hp1), rfl, true, l2, ts, us, H, rfl, s0 _ _ hl, s0, tus, by omega, by omega, fun pf G vs3 s3 n3 g3 t3 => ⟨pf, rfl, ⟨_, SqL.of g3⟩, fun D hD => ?_⟩⟩
          have w8 := t3.len
          have w9 := flatL_len true ts
          have w10 := len_flatL true ts
          have w11 := dep_flatL true ts
          have sHG := s0.trans s3
          refine lc_list (K := K) (a := pf) (xs := vs3) (fun i F => Same G F ∧ F D = some (.lst ((((flatL true ts).take i).map fun t => V.str (clo (kindsOf true) t (txtN n t)))))) ⟨same_new hD, upd_same⟩ (fun i F _ h => SqL.of (h.1 _ _ g3)) ?_ ?_
          · rintro i x F hi ⟨s1, gD⟩
            obtain ⟨t, ht, tx⟩ := t3.at hi
            have w12 := depL_mem ht
            have w13 := lenL_mem ht
            have sHF := sHG.trans s1
            refine ⟨rfl, ?_⟩
            dsimp only [tYes]
            rw [if_pos rfl]
            refine ⟨_, rfl, _, rfl, x, o, t, kindsOf true, rfl, treeAt_same sHF tx, SqL.of (s1 _ _ (s3 _ _ upd_same)), by omega, by omega, fun G2 s2 => ⟨_, s2 _ _ gD, ?_, ?_, ?_⟩⟩
            · rw [List.length_map, List.length_take]
              omega
            · intro b u hb
              rw [upd_ne (ne_of_none hb hD)]
              exact s2 _ _ (s1 _ _ hb)
            · rw [take_snoc ht, List.map_append]
              exact upd_same
          · rintro F ⟨s1, gD⟩
            rw [w8, List.take_length] at gD
            have w14 := sum_len (f := fun t => clo (kindsOf true) t (txtN n t)) (fun t => by
              have h := txt_len n t
              have h2 := clo_len (ks := kindsOf true) (t := t) (s := txtN n t)
              omega) (flatL true ts)
            have w15 : ((flatL true ts).map fun t => clo (kindsOf true) t (txtN n t)).length * (" " ++ kindOf true ++ " " : Str).length ≤ ((flatL true ts).map fun t => clo (kindsOf true) t (txtN n t)).length * 5 := Nat.mul_le_mul_left _ w5
            refine ⟨_, D, (flatL true ts).map fun t => clo (kindsOf true) t (txtN n t), rfl, rfl, .inl (SqL.of (by rw [List.map_map]; exact gD)), ?_, ?_⟩
            · show _ + _ * (" " ++ kindOf true ++ " " : Str).length ≤ _
              omega
            · rw [join_eq]
              exact q F (sHG.trans s1)
end
end Fx
set_option maxHeartbeats 2000000
namespace Fx
open PySem PySem.Spec PyProof.Rows L2 TL

def wrapN (t : LT) (u : Str) : Str := if ((["and", "or"] : List Str).any fun y => y == headOf t) = true then "not (" ++ u ++ ")" else "not " ++ u
def wrapK (k : Bool) (t : LT) (u : Str) : Str := if ((headOf t == "or") && k) = true then "(" ++ u ++ ")" else u
/-- texts of a tree: brackets at will -/
def paren (s : Str) (P : Str → Prop) : Prop := P s ∨ ∃ c, P c ∧ s = "(" ++ c ++ ")"
mutual
def Core : LT → Str → Prop
  | .word z, s => s = z
  | .cst b, s => s = cstOf b
  | .neg t, s => ∃ u, paren u (Core t) ∧ s = wrapN t u
  | .nary k ts, s => ∃ us, Cores k ts us ∧ s = Str.join (" " ++ kindOf k ++ " ") us
def Cores (k : Bool) : List LT → List Str → Prop
  | [], us => us = []
  | t :: ts, us => ∃ u r, us = wrapK k t u :: r ∧ paren u (Core t) ∧ Cores k ts r
end
def Loose (t : LT) (s : Str) : Prop := paren s (Core t)
theorem Cores.snoc {k : Bool} {T : LT} {u : Str} : ∀ {ts : List LT} {us : List Str}, Cores k ts us → Loose T u → Cores k (ts ++ [T]) (us ++ [wrapK k T u])
  | [], us, h, ht => by
    have e : us = [] := h
    subst e
    exact ⟨u, [], rfl, ht, rfl⟩
  | _ :: _, _, ⟨u, r, e, h1, h2⟩, ht => ⟨u, r ++ [_], by rw [e] <;> rfl, h1, Cores.snoc h2 ht⟩
mutual
def lenQ : LT → Nat
  | .word z => z.length + 2
  | .cst _ => 6
  | .neg t => lenQ t + 8
  | .nary _ ts => lenR ts + 2
def lenR : List LT → Nat
  | [] => 0
  | t :: ts => lenQ t + 7 + lenR ts
end
theorem paren_len {s : Str} {P : Str → Prop} {n : Nat} (hP : ∀ c, P c → c.length ≤ n) (h : paren s P) : s.length ≤ n + 2 := by
  rcases h with h | ⟨c, h, e⟩
  · exact Nat.le_trans (hP s h) (by omega)
  · have w := hP c h
    rw [e, len_apS, len_apS, show ("(" : Str).length = 1 from rfl, show (")" : Str).length = 1 from rfl]
    omega
theorem wrapN_len (t : LT) (u : Str) : (wrapN t u).length ≤ u.length + 6 := by
  unfold wrapN
  split
  · rw [len_apS, len_apS, show ("not (" : Str).length = 5 from rfl, show (")" : Str).length = 1 from rfl]
    omega
  · rw [len_apS, show ("not " : Str).length = 4 from rfl]
    omega
theorem wrapK_len (k : Bool) (t : LT) (u : Str) : (wrapK k t u).length ≤ u.length + 2 := by
  unfold wrapK
  split
  · rw [len_apS, len_apS, show ("(" : Str).length = 1 from rfl, show (")" : Str).length = 1 from rfl]
    omega
  · omega
mutual
theorem core_len : ∀ (t : LT) (s : Str), Core t s → s.length + 2 ≤ lenQ t
  | .word z, s, h => by
    have e : s = z := h
    rw [e]
    exact Nat.le_refl _
  | .cst b, s, h => by
    have e : s = cstOf b := h
    have w := cst_len b
    rw [e]
    show _ ≤ 6
    omega
  | .neg t, s, ⟨u, h, e⟩ => by
    have w1 := paren_len (n := lenQ t - 2) (fun c hc => by have := core_len t c hc; omega) h
    have w2 := wrapN_len t u
    have w3 : 2 ≤ lenQ t := by
      rcases h with h | ⟨c, h, _⟩
      · have := core_len t u h; omega
      · have := core_len t c h; omega
    rw [e]
    show _ ≤ lenQ t + 8
    omega
  | .nary k ts, s, ⟨us, h, e⟩ => by
    have w1 := cores_len k ts us h
    have w2 := len_join (" " ++ kindOf k ++ " ") us
    have w3 : us.length * (" " ++ kindOf k ++ " " : Str).length ≤ us.length * 5 := Nat.mul_le_mul_left _ (sep_len k)
    rw [e]
    show _ ≤ lenR ts + 2
    omega
theorem cores_len (k : Bool) : ∀ (ts : List LT) (us : List Str), Cores k ts us → (us.map (·.length)).sum + us.length * 5 ≤ lenR ts
  | [], us, h => by
    have e : us = [] := h
    subst e
    exact Nat.le_refl _
  | t :: ts, us, ⟨u, r, e, h1, h2⟩ => by
    have w1 := paren_len (n := lenQ t - 2) (fun c hc => by have := core_len t c hc; omega) h1
    have w2 := wrapK_len k t u
    have w3 : 2 ≤ lenQ t := by
      rcases h1 with h | ⟨c, h, _⟩
      · have := core_len t u h; omega
      · have := core_len t c h; omega
    have w4 := cores_len k ts r h2
    rw [e]
    show ((wrapK k t u).length + (r.map (·.length)).sum) + (r.length + 1) * 5 ≤ lenQ t + 7 + lenR ts
    omega
end
theorem lenR_mem : ∀ {ts : List LT} {i : Nat} {t : LT}, ts[i]? = some t → lenQ t + 7 ≤ lenR ts
  | [], i, t, h => by simp at h
  | x :: ts, 0, t, h => by
    have e : x = t := by simpa using h
    subst e
    show lenQ x + 7 ≤ lenQ x + 7 + lenR ts
    omega
  | x :: ts, i + 1, t, h => by
    have e : ts[i]? = some t := by simpa using h
    have h2 := lenR_mem e
    show lenQ t + 7 ≤ lenQ x + 7 + lenR ts
    omega
theorem lenR_take {ts : List LT} {i : Nat} {t : LT} (h : ts[i]? = some t) : i * 7 + 7 ≤ lenR ts := by
  induction ts generalizing i with
  | nil => simp at h
  | cons x ts ih =>
    cases i with
    | zero => show _ ≤ lenQ x + 7 + lenR ts; omega
    | succ i =>
      have e : ts[i]? = some t := by simpa using h
      have := ih e
      show _ ≤ lenQ x + 7 + lenR ts
      omega
theorem atI_lst2 {a b : V} : atI [a, b] (-1) = some b := atI_last [a] b
theorem atI_lst1 {a : V} : atI [a] (-1) = some a := atI_last [] a
theorem hid_frm {l : Addr} {H G : Hp} (f : Frm l H G) : Same (hid l H) (hid l G) := fun b o h => by
  obtain ⟨n, h⟩ := hid_some h
  exact hid_at n (f b o n h)
def looseN : List Str := ["_law_tree_here", "_law_left", "_law_draw", "_law_text_here", "_law_inner", "_law_parts", "_law_part"]
theorem looseL {t : LT} {s : Str} (h : Loose t s) : s.length ≤ lenQ t := by
  rcases h with h | ⟨c, h, e⟩
  · have := core_len t s h; omega
  · have := core_len t c h
    rw [e, len_apS, len_apS, show ("(" : Str).length = 1 from rfl, show (")" : Str).length = 1 from rfl]
    omega
section
variable {P : Program} {w : World} {K : PySem.W.Frag} {mg : Str → Option Value} {base : Heap} {f : Addr} {fd : FuncData}
def spLoose (n : Nat) : Sp := fun vs H Q _ => ∃ (v : V) (lf : Addr) (t : LT) (ns : List Int), vs = [v, .ref lf] ∧ H lf = some (.lst (ns.map V.int)) ∧ TreeAt (hid lf H) t v ∧ depT t ≤ n ∧ lenQ t ≤ 100000 ∧
  ∀ s G ns', Loose t s → Frm lf H G → G lf = some (.lst (List.map V.int ns')) → Q (.str s) G
theorem sc_loose : FnScope ["_law_tree_here", "_law_left", "_law_draw", "_law_text_here", "_law_inner", "_law_parts", "_law_part"] ["_law_tree_here", "_law_left"] (defScope (tp 33)) := ⟨rfl, rfl, rfl, by decide +kernel, rfl, by decide +kernel, by decide +kernel⟩
theorem base_loose (F : FnT K "_law_loose" 33 f fd) : FnOk P w K mg base CX0 1 f fd ["_law_tree_here", "_law_left"] (spLoose 0) := by
  refine F.ok sc_loose (fun vs H Q E h => by
    obtain ⟨v, lf, t, ns, rfl, _⟩ := h
    rfl) (fun cdv A outer s H vs Q E hr h => ?_)
  suffices z : ∃ t, PSs (cxOf CX0 P w K mg base looseN "_law_loose" (defScope (tp 33)) f cdv A outer s H E).nox (defBody (tp 33)) t ∧ t { nx := fun _ H' => Q .non H', rt := Q } (L2.start looseN vs) H by
    obtain ⟨t, h1, h2⟩ := z
    exact ⟨t, PSs.nox h1, h2⟩
  have line : (200000 : Nat) ≤ sizeLine := by decide
  have last : ∃ t, PSs (cxOf CX0 P w K mg base looseN "_law_loose" (defScope (tp 33)) f cdv A outer s H E).nox ((defBody (tp 33)).drop 2) t ∧ ∀ (a0 a1 a4 a5 a6 : Option V) (dr : Int) (c : Str) (G : Hp), c.length ≤ 100000 → (∀ s, (s = c ∨ s = "(" ++ c ++ ")") → Q (.str s) G) → t { nx := fun _ H' => Q .non H', rt := Q } [a0, a1, some (.int dr), some (.str c), a4, a5, a6] G := by
    refine ⟨_, pss_one (ps_ret (pe_ifExp (pt_cmpR op_eq (pv 2) pe_int (nomark _)) (pe_op op_add_str (pe_op op_add_str pe_str (pv 3)) pe_str) (pv 3))), ?_⟩
    intro a0 a1 a4 a5 a6 dr c G hc q
    refine ⟨_, rfl, rfl, _, rfl, ?_⟩
    rw [dec_int]
    cases c1 : (dr == 0) with
    | true =>
      refine iteT ⟨_, rfl, _, _, rfl, rfl, ?_, _, _, rfl, rfl, ?_, q _ (.inr rfl)⟩
      · rw [show ("(" : Str).length = 1 from rfl]
        omega
      · rw [len_apS, show ("(" : Str).length = 1 from rfl, show (")" : Str).length = 1 from rfl]
        omega
    | false => exact iteF ⟨_, rfl, q _ (.inl rfl)⟩
  obtain ⟨t2, ht2, hq2⟩ := last
  have rest : ∃ t, PSs (cxOf CX0 P w K mg base looseN "_law_loose" (defScope (tp 33)) f cdv A outer s H E).nox ((defBody (tp 33)).drop 1) t ∧ ∀ (v : V) (lf : Addr) (t0 : LT) (ns : List Int), H lf = some (.lst (ns.map V.int)) → TreeAt (hid lf H) t0 v → depT t0 ≤ 0 → lenQ t0 ≤ 100000 →
      (∀ s G ns', Loose t0 s → Frm lf H G → G lf = some (.lst (List.map V.int ns')) → Q (.str s) G) →
      ∀ (dr : Int) (G : Hp) (ns1 : List Int), Frm lf H G → G lf = some (.lst (ns1.map V.int)) → t { nx := fun _ H' => Q .non H', rt := Q } [some v, some (.ref lf), some (.int dr), none, none, none, none] G := by
    refine ⟨_, pss_cons (ps_if (PW.pt (pw_or (pt_cmpR op_eq (pe_ix ix_tup (pv 0) pe_int (fun _ _ => rfl)) pe_str (nomark _)) (pw_or1 (pt_cmpR op_in_seq (pe_ix ix_tup (pv 0) pe_int (fun _ _ => rfl)) (pe_tup (pa_cons pe_str (pa_cons pe_str pa_nil))) (by rfl))))) (pss_one (ps_set (i := 3) sc_loose.nd rfl (Or.inl rfl) (pe_ix ix_tup (pv 0) (pe_un un_neg pe_int) (fun _ _ => rfl)))) (pss_one (ps_if (pt_cmpR op_eq (pe_ix ix_tup (pv 0) pe_int (fun _ _ => rfl)) pe_str (nomark _)) (pss_cons (ps_never)
      (pss_one (ps_never))) (pss_cons (ps_never)
      (pss_cons (ps_never)
      (pss_one (ps_never))))))) ht2, ?_⟩
    intro v lf t ns hlf tr hd hs q dr G ns1 f1 g1
    obtain ⟨p, rest, rfl, hp⟩ := treeHead tr
    have at_ : ∀ {b : Addr} {u : HO} {F : Hp}, hid lf H b = some u → Frm lf H F → F b = some u := fun h fr => fr _ _ (hid_some h).1 (hid_some h).2
    have fin : ∀ (a0 a1 a4 a5 a6 : Option V) (c : Str) (G2 : Hp) (ns2 : List Int), Core t c → Frm lf H G2 → G2 lf = some (.lst (List.map V.int ns2)) → t2 { nx := fun _ H' => Q .non H', rt := Q } [a0, a1, some (.int dr), some (.str c), a4, a5, a6] G2 := by
      intro a0 a1 a4 a5 a6 c G2 ns2 hc f2 g2
      have w1 := core_len t c hc
      refine hq2 _ _ _ _ _ _ _ _ (by omega) fun s hs2 => q s G2 ns2 ?_ f2 g2
      rcases hs2 with rfl | rfl
      · exact .inl hc
      · exact .inr ⟨c, hc, rfl⟩
    cases t with
    | word z =>
        refine ⟨_, rfl, p, _, 0, .str (headOf (.word z)), rfl, rfl, SqT.of (at_ hp f1), atI_zero, rfl, _, rfl, ?_⟩
        rw [hE (.word z) "word" true (by exact (show (("word" : Str) == "word") = true by decide +kernel))]
        refine iteT (iteT ?_)
        obtain ⟨p1, e1, hp1⟩ := tr
        cases e1
        exact ⟨_, rfl, _, rfl, p, _, -1, .str z, rfl, rfl, SqT.of (at_ hp1 f1), atI_lst2, fin _ _ _ _ _ z G ns1 rfl f1 g1⟩
    | cst b =>
      cases b
      · refine ⟨_, rfl, p, _, 0, .str (headOf (.cst false)), rfl, rfl, SqT.of (at_ hp f1), atI_zero, rfl, _, rfl, ?_⟩
        rw [hE (.cst false) "word" false (by exact (show ((("none" : Str) : Str) == "word") = false by decide +kernel))]
        refine iteF ?_
        refine ⟨_, rfl, p, _, 0, .str (headOf (.cst false)), rfl, rfl, SqT.of (at_ hp f1), atI_zero, (by show 2 ≤ sizeLine; decide), fun g hg => ⟨g, [.str "all", .str "none"], rfl, .inr (SqT.of upd_same), rfl, rfl, _, rfl, ?_⟩⟩
        rw [show (if (false : Bool) = true then !inV (.str (headOf (.cst false))) [.str "all", .str "none"] else inV (.str (headOf (.cst false))) [.str "all", .str "none"]) = true from (show (if (false : Bool) = true then !inV (.str ("none" : Str)) [.str "all", .str "none"] else inV (.str ("none" : Str)) [.str "all", .str "none"]) = true by decide +kernel)]
        have fg : Frm lf H (upd G g (.tup [.str "all", .str "none"])) := f1.trans (Frm.same (same_new hg))
        have gg : (upd G g (.tup [.str "all", .str "none"])) lf = some (.lst (List.map V.int ns1)) := same_new hg _ _ g1
        refine iteT ?_
        obtain ⟨p1, e1, hp1⟩ := tr
        cases e1
        exact ⟨_, rfl, _, rfl, p, _, -1, .str (cstOf false), rfl, rfl, SqT.of (at_ hp1 fg), atI_lst1, fin _ _ _ _ _ (cstOf false) _ ns1 rfl fg gg⟩
      · refine ⟨_, rfl, p, _, 0, .str (headOf (.cst true)), rfl, rfl, SqT.of (at_ hp f1), atI_zero, rfl, _, rfl, ?_⟩
        rw [hE (.cst true) "word" false (by exact (show ((("all" : Str) : Str) == "word") = false by decide +kernel))]
        refine iteF ?_
        refine ⟨_, rfl, p, _, 0, .str (headOf (.cst true)), rfl, rfl, SqT.of (at_ hp f1), atI_zero, (by show 2 ≤ sizeLine; decide), fun g hg => ⟨g, [.str "all", .str "none"], rfl, .inr (SqT.of upd_same), rfl, rfl, _, rfl, ?_⟩⟩
        rw [show (if (false : Bool) = true then !inV (.str (headOf (.cst true))) [.str "all", .str "none"] else inV (.str (headOf (.cst true))) [.str "all", .str "none"]) = true from (show (if (false : Bool) = true then !inV (.str ("all" : Str)) [.str "all", .str "none"] else inV (.str ("all" : Str)) [.str "all", .str "none"]) = true by decide +kernel)]
        have fg : Frm lf H (upd G g (.tup [.str "all", .str "none"])) := f1.trans (Frm.same (same_new hg))
        have gg : (upd G g (.tup [.str "all", .str "none"])) lf = some (.lst (List.map V.int ns1)) := same_new hg _ _ g1
        refine iteT ?_
        obtain ⟨p1, e1, hp1⟩ := tr
        cases e1
        exact ⟨_, rfl, _, rfl, p, _, -1, .str (cstOf true), rfl, rfl, SqT.of (at_ hp1 fg), atI_lst1, fin _ _ _ _ _ (cstOf true) _ ns1 rfl fg gg⟩
    | neg t0 =>
        exfalso
        have w2 : depT (.neg t0) = depT t0 + 1 := rfl
        omega
    | nary k ts =>
        exfalso
        have w2 : depT (.nary k ts) = depL ts + 1 := rfl
        omega
  obtain ⟨t, ht, hq⟩ := rest
  refine ⟨_, pss_cons (ps_set (i := 2) sc_loose.nd rfl (Or.inl rfl) (pe_ifExp (pt_cmpR (op_neD hr.units) (pv 1) (pe_lst pa_nil) (nomark _)) (pe_bm PySem.F.plainAttrs_list PySem.F.slot_list_pop PySem.F.type_list_pop mt_popAt (pv 1) (pa_cons pe_int pa_nil)) pe_int)) ht, ?_⟩
  obtain ⟨v, lf, t0, ns, rfl, hlf, tr, hd, hs, q⟩ := h
  refine ⟨_, rfl, Nat.zero_le _, fun e he => ?_⟩
  have s0 := same_new he (u := .lst [])
  have f0 : Frm lf H (upd H e (.lst [])) := Frm.same s0
  refine ⟨.list (ns.map PyData.int), .list [], .lst (SqL.of (s0 _ _ hlf)) (dp_ints ns), .lst (SqL.of upd_same) .nil, shaped_ints ns, shaped_ints [], _, rfl, ?_⟩
  cases ns with
  | nil => exact iteF (hq v lf t0 [] hlf tr hd hs q 0 _ [] f0 (s0 _ _ hlf))
  | cons n r =>
    refine iteT ⟨_, rfl, .inl ⟨rfl, _, SqL.of (s0 _ _ hlf)⟩, lf, _, 0, 0, .int n, rfl, rfl, s0 _ _ hlf, by decide, by decide, seq_zero (by simp), rfl, ?_⟩
    exact hq v lf t0 (n :: r) hlf tr hd hs q n _ r (f0.trans Frm.upd) upd_same
theorem step_loose (F : FnT K "_law_loose" 33 f fd) (gF : mg "_law_loose" = some (.ref f)) (n : Nat) (IH : FnOk P w K mg base CX0 (n + 1) f fd ["_law_tree_here", "_law_left"] (spLoose n)) : FnOk P w K mg base CX0 (n + 1 + 1) f fd ["_law_tree_here", "_law_left"] (spLoose (n + 1)) := by
  have bF : L2.Binds K fd ["_law_tree_here", "_law_left"] [] := F.bindsN fun _ _ _ _ _ _ us hl => match us, hl with | [_, _], _ => rfl
  refine F.ok sc_loose (fun vs H Q E h => by
    obtain ⟨v, lf, t, ns, rfl, _⟩ := h
    rfl) (fun cdv A outer s H vs Q E hr h => ?_)
  suffices z : ∃ t, PSs (cxOf CX0 P w K mg base looseN "_law_loose" (defScope (tp 33)) f cdv A outer s H E).nox (defBody (tp 33)) t ∧ t { nx := fun _ H' => Q .non H', rt := Q } (L2.start looseN vs) H by
    obtain ⟨t, h1, h2⟩ := z
    exact ⟨t, PSs.nox h1, h2⟩
  have line : (200000 : Nat) ≤ sizeLine := by decide
  have last : ∃ t, PSs (cxOf CX0 P w K mg base looseN "_law_loose" (defScope (tp 33)) f cdv A outer s H E).nox ((defBody (tp 33)).drop 2) t ∧ ∀ (a0 a1 a4 a5 a6 : Option V) (dr : Int) (c : Str) (G : Hp), c.length ≤ 100000 → (∀ s, (s = c ∨ s = "(" ++ c ++ ")") → Q (.str s) G) → t { nx := fun _ H' => Q .non H', rt := Q } [a0, a1, some (.int dr), some (.str c), a4, a5, a6] G := by
    refine ⟨_, pss_one (ps_ret (pe_ifExp (pt_cmpR op_eq (pv 2) pe_int (nomark _)) (pe_op op_add_str (pe_op op_add_str pe_str (pv 3)) pe_str) (pv 3))), ?_⟩
    intro a0 a1 a4 a5 a6 dr c G hc q
    refine ⟨_, rfl, rfl, _, rfl, ?_⟩
    rw [dec_int]
    cases c1 : (dr == 0) with
    | true =>
      refine iteT ⟨_, rfl, _, _, rfl, rfl, ?_, _, _, rfl, rfl, ?_, q _ (.inr rfl)⟩
      · rw [show ("(" : Str).length = 1 from rfl]
        omega
      · rw [len_apS, show ("(" : Str).length = 1 from rfl, show (")" : Str).length = 1 from rfl]
        omega
    | false => exact iteF ⟨_, rfl, q _ (.inl rfl)⟩
  obtain ⟨t2, ht2, hq2⟩ := last
  have rest : ∃ t, PSs (cxOf CX0 P w K mg base looseN "_law_loose" (defScope (tp 33)) f cdv A outer s H E).nox ((defBody (tp 33)).drop 1) t ∧ ∀ (v : V) (lf : Addr) (t0 : LT) (ns : List Int), H lf = some (.lst (ns.map V.int)) → TreeAt (hid lf H) t0 v → depT t0 ≤ (n + 1) → lenQ t0 ≤ 100000 →
      (∀ s G ns', Loose t0 s → Frm lf H G → G lf = some (.lst (List.map V.int ns')) → Q (.str s) G) →
      ∀ (dr : Int) (G : Hp) (ns1 : List Int), Frm lf H G → G lf = some (.lst (ns1.map V.int)) → t { nx := fun _ H' => Q .non H', rt := Q } [some v, some (.ref lf), some (.int dr), none, none, none, none] G := by
    refine ⟨_, pss_cons (ps_if (PW.pt (pw_or (pt_cmpR op_eq (pe_ix ix_tup (pv 0) pe_int (fun _ _ => rfl)) pe_str (nomark _)) (pw_or1 (pt_cmpR op_in_seq (pe_ix ix_tup (pv 0) pe_int (fun _ _ => rfl)) (pe_tup (pa_cons pe_str (pa_cons pe_str pa_nil))) (by rfl))))) (pss_one (ps_set (i := 3) sc_loose.nd rfl (Or.inl rfl) (pe_ix ix_tup (pv 0) (pe_un un_neg pe_int) (fun _ _ => rfl)))) (pss_one (ps_if (pt_cmpR op_eq (pe_ix ix_tup (pv 0) pe_int (fun _ _ => rfl)) pe_str (nomark _)) (pss_cons (ps_set (i := 4) sc_loose.nd rfl (Or.inl rfl) (pe_call IH hr rfl gF F.kp bF .nil pass0 (pa_cons (pe_ix ix_tup (pv 0) pe_int (fun _ _ => rfl)) (pa_cons (pv 1) pa_nil))))
      (pss_one (ps_set (i := 3) sc_loose.nd rfl (Or.inl rfl) (pe_ifExp (pt_cmpR op_in_seq (pe_ix ix_tup (pe_ix ix_tup (pv 0) pe_int (fun _ _ => rfl)) pe_int (fun _ _ => rfl)) (pe_tup (pa_cons pe_str (pa_cons pe_str pa_nil))) (by rfl)) (pe_op op_add_str (pe_op op_add_str pe_str (pv 4)) pe_str) (pe_op op_add_str pe_str (pv 4)))))) (pss_cons (ps_set (i := 5) sc_loose.nd rfl (Or.inl rfl) (pe_lst pa_nil))
      (pss_cons (ps_for PassesOwn.never rfl (pi_list (pe_ix ix_tup (pv 0) pe_int (fun _ _ => rfl))) (pg_name (i := 6) sc_loose.nd rfl (Or.inl rfl)) (pss_cons (ps_set (i := 4) sc_loose.nd rfl (Or.inl rfl) (pe_call IH hr rfl gF F.kp bF .nil pass0 (pa_cons (pv 6) (pa_cons (pv 1) pa_nil))))
      (pss_one (ps_expr (pe_bm PySem.F.plainAttrs_list PySem.F.slot_list_append PySem.F.type_list_append mt_append (pv 5) (pa_cons (pe_ifExp (PW.pt (pw_and (pt_cmpR op_eq (pe_ix ix_tup (pv 6) pe_int (fun _ _ => rfl)) pe_str (nomark _)) (pw_and1 (pt_cmpR op_eq (pe_ix ix_tup (pv 0) pe_int (fun _ _ => rfl)) pe_str (nomark _))))) (pe_op op_add_str (pe_op op_add_str pe_str (pv 4)) pe_str) (pv 4)) pa_nil))))))
      (pss_one (ps_set (i := 3) sc_loose.nd rfl (Or.inl rfl) (pe_bm PySem.F.plainAttrs_str PySem.F.slot_str_join PySem.F.type_str_join mt_join (pe_op op_add_str (pe_op op_add_str pe_str (pe_ix ix_tup (pv 0) pe_int (fun _ _ => rfl))) pe_str) (pa_cons (pv 5) pa_nil))))))))) ht2, ?_⟩
    intro v lf t ns hlf tr hd hs q dr G ns1 f1 g1
    obtain ⟨p, rest, rfl, hp⟩ := treeHead tr
    have at_ : ∀ {b : Addr} {u : HO} {F : Hp}, hid lf H b = some u → Frm lf H F → F b = some u := fun h fr => fr _ _ (hid_some h).1 (hid_some h).2
    have fin : ∀ (a0 a1 a4 a5 a6 : Option V) (c : Str) (G2 : Hp) (ns2 : List Int), Core t c → Frm lf H G2 → G2 lf = some (.lst (List.map V.int ns2)) → t2 { nx := fun _ H' => Q .non H', rt := Q } [a0, a1, some (.int dr), some (.str c), a4, a5, a6] G2 := by
      intro a0 a1 a4 a5 a6 c G2 ns2 hc f2 g2
      have w1 := core_len t c hc
      refine hq2 _ _ _ _ _ _ _ _ (by omega) fun s hs2 => q s G2 ns2 ?_ f2 g2
      rcases hs2 with rfl | rfl
      · exact .inl hc
      · exact .inr ⟨c, hc, rfl⟩
    cases t with
    | word z =>
        refine ⟨_, rfl, p, _, 0, .str (headOf (.word z)), rfl, rfl, SqT.of (at_ hp f1), atI_zero, rfl, _, rfl, ?_⟩
        rw [hE (.word z) "word" true (by exact (show (("word" : Str) == "word") = true by decide +kernel))]
        refine iteT (iteT ?_)
        obtain ⟨p1, e1, hp1⟩ := tr
        cases e1
        exact ⟨_, rfl, _, rfl, p, _, -1, .str z, rfl, rfl, SqT.of (at_ hp1 f1), atI_lst2, fin _ _ _ _ _ z G ns1 rfl f1 g1⟩
    | cst b =>
      cases b
      · refine ⟨_, rfl, p, _, 0, .str (headOf (.cst false)), rfl, rfl, SqT.of (at_ hp f1), atI_zero, rfl, _, rfl, ?_⟩
        rw [hE (.cst false) "word" false (by exact (show ((("none" : Str) : Str) == "word") = false by decide +kernel))]
        refine iteF ?_
        refine ⟨_, rfl, p, _, 0, .str (headOf (.cst false)), rfl, rfl, SqT.of (at_ hp f1), atI_zero, (by show 2 ≤ sizeLine; decide), fun g hg => ⟨g, [.str "all", .str "none"], rfl, .inr (SqT.of upd_same), rfl, rfl, _, rfl, ?_⟩⟩
        rw [show (if (false : Bool) = true then !inV (.str (headOf (.cst false))) [.str "all", .str "none"] else inV (.str (headOf (.cst false))) [.str "all", .str "none"]) = true from (show (if (false : Bool) = true then !inV (.str ("none" : Str)) [.str "all", .str "none"] else inV (.str ("none" : Str)) [.str "all", .str "none"]) = true by decide +kernel)]
        have fg : Frm lf H (upd G g (.tup [.str "all", .str "none"])) := f1.trans (Frm.same (same_new hg))
        have gg : (upd G g (.tup [.str "all", .str "none"])) lf = some (.lst (List.map V.int ns1)) := same_new hg _ _ g1
        refine iteT ?_
        obtain ⟨p1, e1, hp1⟩ := tr
        cases e1
        exact ⟨_, rfl, _, rfl, p, _, -1, .str (cstOf false), rfl, rfl, SqT.of (at_ hp1 fg), atI_lst1, fin _ _ _ _ _ (cstOf false) _ ns1 rfl fg gg⟩
      · refine ⟨_, rfl, p, _, 0, .str (headOf (.cst true)), rfl, rfl, SqT.of (at_ hp f1), atI_zero, rfl, _, rfl, ?_⟩
        rw [hE (.cst true) "word" false (by exact (show ((("all" : Str) : Str) == "word") = false by decide +kernel))]
        refine iteF ?_
        refine ⟨_, rfl, p, _, 0, .str (headOf (.cst true)), rfl, rfl, SqT.of (at_ hp f1), atI_zero, (by show 2 ≤ sizeLine; decide), fun g hg => ⟨g, [.str "all", .str "none"], rfl, .inr (SqT.of upd_same), rfl, rfl, _, rfl, ?_⟩⟩
        rw [show (if (false : Bool) = true then !inV (.str (headOf (.cst true))) [.str "all", .str "none"] else inV (.str (headOf (.cst true))) [.str "all", .str "none"]) = true from (show (if (false : Bool) = true then !inV (.str ("all" : Str)) [.str "all", .str "none"] else inV (.str ("all" : Str)) [.str "all", .str "none"]) = true by decide +kernel)]
        have fg : Frm lf H (upd G g (.tup [.str "all", .str "none"])) := f1.trans (Frm.same (same_new hg))
        have gg : (upd G g (.tup [.str "all", .str "none"])) lf = some (.lst (List.map V.int ns1)) := same_new hg _ _ g1
        refine iteT ?_
        obtain ⟨p1, e1, hp1⟩ := tr
        cases e1
        exact ⟨_, rfl, _, rfl, p, _, -1, .str (cstOf true), rfl, rfl, SqT.of (at_ hp1 fg), atI_lst1, fin _ _ _ _ _ (cstOf true) _ ns1 rfl fg gg⟩
    | neg t0 =>
        refine ⟨_, rfl, p, _, 0, .str (headOf (.neg t0)), rfl, rfl, SqT.of (at_ hp f1), atI_zero, rfl, _, rfl, ?_⟩
        rw [hE (.neg t0) "word" false (by exact (show ((("not" : Str) : Str) == "word") = false by decide +kernel))]
        refine iteF ?_
        refine ⟨_, rfl, p, _, 0, .str (headOf (.neg t0)), rfl, rfl, SqT.of (at_ hp f1), atI_zero, (by show 2 ≤ sizeLine; decide), fun g hg => ⟨g, [.str "all", .str "none"], rfl, .inr (SqT.of upd_same), rfl, rfl, _, rfl, ?_⟩⟩
        rw [show (if (false : Bool) = true then !inV (.str (headOf (.neg t0))) [.str "all", .str "none"] else inV (.str (headOf (.neg t0))) [.str "all", .str "none"]) = false from (show (if (false : Bool) = true then !inV (.str ("not" : Str)) [.str "all", .str "none"] else inV (.str ("not" : Str)) [.str "all", .str "none"]) = false by decide +kernel)]
        have fg : Frm lf H (upd G g (.tup [.str "all", .str "none"])) := f1.trans (Frm.same (same_new hg))
        have gg : (upd G g (.tup [.str "all", .str "none"])) lf = some (.lst (List.map V.int ns1)) := same_new hg _ _ g1
        refine iteF ?_
        refine ⟨_, rfl, p, _, 0, .str (headOf (.neg t0)), rfl, rfl, SqT.of (at_ hp fg), atI_zero, rfl, _, rfl, ?_⟩
        rw [hE (.neg t0) "not" true (by exact (show (("not" : Str) == "not") = true by decide +kernel))]
        refine iteT ?_
        obtain ⟨p1, u, e1, hp1, tu⟩ := tr
        cases e1
        have w2 : depT (.neg t0) = depT t0 + 1 := rfl
        have w3 : lenQ (.neg t0) = lenQ t0 + 8 := rfl
        refine ⟨_, rfl, p, _, 1, u, rfl, rfl, SqT.of (at_ hp1 fg), rfl, _, rfl, u, lf, t0, ns1, rfl, gg, treeAt_same (hid_frm fg) tu, by omega, by omega, fun s G2 ns2 ls f2 g2 => ?_⟩
        have f3 := fg.trans f2
        have w4 := looseL ls
        obtain ⟨p2, rest2, rfl, hp2⟩ := treeHead tu
        refine ⟨_, rfl, p, _, 1, .ref p2, rfl, rfl, SqT.of (at_ hp1 f3), rfl, p2, _, 0, .str (headOf t0), rfl, rfl, SqT.of (at_ hp2 f3), atI_zero, (by show 2 ≤ sizeLine; decide), fun g2 hg2 => ⟨g2, [.str "and", .str "or"], rfl, .inr (SqT.of upd_same), rfl, rfl, _, rfl, ?_⟩⟩
        rw [show (if (false : Bool) = true then !inV (.str (headOf t0)) [.str "and", .str "or"] else inV (.str (headOf t0)) [.str "and", .str "or"]) = (["and", "or"] : List Str).any fun y => y == headOf t0 from in_val (headOf t0) ["and", "or"]]
        have f4 := f3.trans (Frm.same (same_new hg2 (u := .tup [.str "and", .str "or"])))
        have g4 := same_new hg2 (u := .tup [.str "and", .str "or"]) _ _ (by assumption : G2 lf = _)
        cases c : (["and", "or"] : List Str).any fun y => y == headOf t0 with
        | true =>
          refine iteT ⟨_, rfl, _, _, rfl, rfl, ?_, _, _, rfl, rfl, ?_, fin _ _ _ _ _ _ _ ns2 ⟨s, ls, ?_⟩ f4 g4⟩
          · rw [show ("not (" : Str).length = 5 from rfl]
            omega
          · rw [len_apS, show ("not (" : Str).length = 5 from rfl, show (")" : Str).length = 1 from rfl]
            omega
          · unfold wrapN
            rw [if_pos c]
        | false =>
          refine iteF ⟨_, rfl, _, _, rfl, rfl, ?_, fin _ _ _ _ _ _ _ ns2 ⟨s, ls, ?_⟩ f4 g4⟩
          · rw [show ("not " : Str).length = 4 from rfl]
            omega
          · unfold wrapN
            rw [if_neg (by rw [c]; decide)]
    | nary k ts =>
      cases k
      · refine ⟨_, rfl, p, _, 0, .str (headOf (.nary false ts)), rfl, rfl, SqT.of (at_ hp f1), atI_zero, rfl, _, rfl, ?_⟩
        rw [hE (.nary false ts) "word" false (by exact (show ((("or" : Str) : Str) == "word") = false by decide +kernel))]
        refine iteF ?_
        refine ⟨_, rfl, p, _, 0, .str (headOf (.nary false ts)), rfl, rfl, SqT.of (at_ hp f1), atI_zero, (by show 2 ≤ sizeLine; decide), fun g hg => ⟨g, [.str "all", .str "none"], rfl, .inr (SqT.of upd_same), rfl, rfl, _, rfl, ?_⟩⟩
        rw [show (if (false : Bool) = true then !inV (.str (headOf (.nary false ts))) [.str "all", .str "none"] else inV (.str (headOf (.nary false ts))) [.str "all", .str "none"]) = false from (show (if (false : Bool) = true then !inV (.str ("or" : Str)) [.str "all", .str "none"] else inV (.str ("or" : Str)) [.str "all", .str "none"]) = false by decide +kernel)]
        have fg : Frm lf H (upd G g (.tup [.str "all", .str "none"])) := f1.trans (Frm.same (same_new hg))
        have gg : (upd G g (.tup [.str "all", .str "none"])) lf = some (.lst (List.map V.int ns1)) := same_new hg _ _ g1
        refine iteF ?_
        refine ⟨_, rfl, p, _, 0, .str (headOf (.nary false ts)), rfl, rfl, SqT.of (at_ hp fg), atI_zero, rfl, _, rfl, ?_⟩
        rw [hE (.nary false ts) "not" false (by exact (show (("or" : Str) == "not") = false by decide +kernel))]
        refine iteF ?_
        obtain ⟨p1, l2, us, e1, hp1, hl, tus⟩ := tr
        cases e1
        have w2 : depT (.nary false ts) = depL ts + 1 := rfl
        have w3 : lenQ (.nary false ts) = lenR ts + 2 := rfl
        have w5 := sep_len false
        have w6 : (headOf (.nary false ts)).length ≤ 3 := kind_len false
        have wl := tus.len
        refine ⟨Nat.zero_le _, fun o ho => ?_⟩
        have fo := fg.trans (Frm.same (same_new ho (u := .lst [])))
        have go := same_new ho (u := .lst []) _ _ gg
        have hoH : H o = none := fg.none ⟨_, hlf⟩ gg ho
        have nlf : o ≠ lf := fun e => by rw [e, gg] at ho; cases ho
        refine ⟨_, rfl, p, _, 1, .ref l2, rfl, rfl, SqT.of (at_ hp1 fo), rfl, l2, rfl, ⟨_, SqL.of (at_ hl fo)⟩, for_list (K := K) (a := l2) (xs := us)
          (fun i σ F => ∃ o4 o6 vs2 ns2, σ = [some (.ref p), some (.ref lf), some (.int dr), none, o4, some (.ref o), o6] ∧ Frm lf H F ∧ F lf = some (.lst (List.map V.int ns2)) ∧ F o = some (.lst (List.map V.str vs2)) ∧ Cores false (ts.take i) vs2 ∧ vs2.length = i)
          ⟨none, none, [], ns1, rfl, fo, go, upd_same, rfl, rfl⟩ (fun i σ F _ h => by
            obtain ⟨_, _, _, _, _, h, _⟩ := h
            exact SqL.of (at_ hl h)) ?_ ?_⟩
        · rintro i x σ F hi ⟨o4, o6, vs2, ns2, rfl, f2, g2, gO, cs, hn⟩
          obtain ⟨t, ht, tx⟩ := tus.at hi
          have w7 := depL_mem ht
          have w8 := lenR_mem ht
          have w12 := lenR_take ht
          refine ⟨_, rfl, _, rfl, x, lf, t, ns2, rfl, g2, treeAt_same (hid_frm f2) tx, by omega, by omega, fun s F2 ns3 ls f3 g3 => ?_⟩
          have f4 := f2.trans f3
          have gO2 := f3 _ _ nlf gO
          have w9 := looseL ls
          obtain ⟨p6, rest6, rfl, hp6⟩ := treeHead tx
          have app : ∀ z, z = wrapK false t s → rAppend (.ref o) [.str z] F2 (fun _ F3 => ∃ o4' o6' vs2 ns2, [some (V.ref p), some (.ref lf), some (.int dr), none, some (.str s), some (.ref o), some (.ref p6)] = [some (V.ref p), some (.ref lf), some (.int dr), none, o4', some (.ref o), o6'] ∧ Frm lf H F3 ∧ F3 lf = some (.lst (List.map V.int ns2)) ∧ F3 o = some (.lst (List.map V.str vs2)) ∧ Cores false (ts.take (i + 1)) vs2 ∧ vs2.length = i + 1) := by
            rintro z rfl
            refine ⟨o, _, _, rfl, rfl, gO2, by rw [List.length_map]; omega, _, _, vs2 ++ [wrapK false t s], ns3, rfl, ?_, ?_, ?_, ?_, ?_⟩
            · intro b u nb hb
              rw [upd_ne (ne_of_none hb hoH)]
              exact f4 _ _ nb hb
            · rw [upd_ne (Ne.symm nlf)]
              exact g3
            · rw [List.map_append]
              exact upd_same
            · rw [take_snoc ht]
              exact cs.snoc ls
            · rw [List.length_append, hn] <;> rfl
          refine ⟨_, rfl, .inl ⟨rfl, _, SqL.of gO2⟩, _, rfl, p6, _, 0, .str (headOf t), rfl, rfl, SqT.of (at_ hp6 f4), atI_zero, rfl, _, rfl, ?_⟩
          rw [dec_str]
          cases c : (headOf t == "or") with
          | false => exact iteF (iteF ⟨_, rfl, app s (by unfold wrapK; rw [c] <;> rfl)⟩)
          | true =>
            refine iteT ⟨_, rfl, p, _, 0, .str (headOf (.nary false ts)), rfl, rfl, SqT.of (at_ hp f4), atI_zero, rfl, _, rfl, ?_⟩
            rw [hE (.nary false ts) "and" false (by exact (show (("or" : Str) == "and") = false by decide +kernel))]
            exact iteF ⟨_, rfl, app s (by unfold wrapK; rw [c] <;> rfl)⟩
        · rintro σ F ⟨o4, o6, vs2, ns2, rfl, f2, g2, gO, cs, hn⟩
          rw [wl, List.take_length] at cs
          have w10 := cores_len false ts vs2 cs
          have w11 : vs2.length * (" " ++ kindOf false ++ " " : Str).length ≤ vs2.length * 5 := Nat.mul_le_mul_left _ w5
          refine ⟨_, rfl, p, _, 0, .str (headOf (.nary false ts)), rfl, rfl, SqT.of (at_ hp f2), atI_zero, _, _, rfl, rfl, ?_, _, _, rfl, rfl, ?_, rfl, _, rfl, _, o, vs2, rfl, rfl, .inl (SqL.of gO), ?_, ?_⟩
          · rw [show (" " : Str).length = 1 from rfl]
            omega
          · rw [len_apS, show (" " : Str).length = 1 from rfl]
            omega
          · show _ + _ * (" " ++ kindOf false ++ " " : Str).length ≤ _
            omega
          · rw [join_eq]
            exact fin _ _ _ _ _ _ _ ns2 ⟨vs2, cs, rfl⟩ f2 g2
      · refine ⟨_, rfl, p, _, 0, .str (headOf (.nary true ts)), rfl, rfl, SqT.of (at_ hp f1), atI_zero, rfl, _, rfl, ?_⟩
        rw [hE (.nary true ts) "word" false (by exact (show ((("and" : Str) : Str) == "word") = false by decide +kernel))]
        refine iteF ?_
        refine ⟨_, rfl, p, _, 0, .str (headOf (.nary true ts)), rfl, rfl, SqT.of (at_ hp f1), atI_zero, (by show 2 ≤ sizeLine; decide), fun g hg => ⟨g, [.str "all", .str "none"], rfl, .inr (SqT.of upd_same), rfl, rfl, _, rfl, ?_⟩⟩
        rw [show (if (false : Bool) = true then !inV (.str (headOf (.nary true ts))) [.str "all", .str "none"] else inV (.str (headOf (.nary true ts))) [.str "all", .str "none"]) = false from (show (if (false : Bool) = true then !inV (.str ("and" : Str)) [.str "all", .str "none"] else inV (.str ("and" : Str)) [.str "all", .str "none"]) = false by decide +kernel)]
        have fg : Frm lf H (upd G g (.tup [.str "all", .str "none"])) := f1.trans (Frm.same (same_new hg))
        have gg : (upd G g (.tup [.str "all", .str "none"])) lf = some (.lst (List.map V.int ns1)) := same_new hg _ _ g1
        refine iteF ?_
        refine ⟨_, rfl, p, _, 0, .str (headOf (.nary true ts)), rfl, rfl, SqT.of (at_ hp fg), atI_zero, rfl, _, rfl, ?_⟩
        rw [hE (.nary true ts) "not" false (by exact (show (("and" : Str) == "not") = false by decide +kernel))]
        refine iteF ?_
        obtain ⟨p1, l2, us, e1, hp1, hl, tus⟩ := tr
        cases e1
        have w2 : depT (.nary true ts) = depL ts + 1 := rfl
        have w3 : lenQ (.nary true ts) = lenR ts + 2 := rfl
        have w5 := sep_len true
        have w6 : (headOf (.nary true ts)).length ≤ 3 := kind_len true
        have wl := tus.len
        refine ⟨Nat.zero_le _, fun o ho => ?_⟩
        have fo := fg.trans (Frm.same (same_new ho (u := .lst [])))
        have go := same_new ho (u := .lst []) _ _ gg
        have hoH : H o = none := fg.none ⟨_, hlf⟩ gg ho
        have nlf : o ≠ lf := fun e => by rw [e, gg] at ho; cases ho
        refine ⟨_, rfl, p, _, 1, .ref l2, rfl, rfl, SqT.of (at_ hp1 fo), rfl, l2, rfl, ⟨_, SqL.of (at_ hl fo)⟩, for_list (K := K) (a := l2) (xs := us)
          (fun i σ F => ∃ o4 o6 vs2 ns2, σ = [some (.ref p), some (.ref lf), some (.int dr), none, o4, some (.ref o), o6] ∧ Frm lf H F ∧ F lf = some (.lst (List.map V.int ns2)) ∧ F o = some (.lst (List.map V.str vs2)) ∧ Cores true (ts.take i) vs2 ∧ vs2.length = i)
          ⟨none, none, [], ns1, rfl, fo, go, upd_same, rfl, rfl⟩ (fun i σ F _ h => by
            obtain ⟨_, _, _, _, _, h, _⟩ := h
            exact SqL.of (at_ hl h)) ?_ ?_⟩
        · rintro i x σ F hi ⟨o4, o6, vs2, ns2, rfl, f2, g2, gO, cs, hn⟩
          obtain ⟨t, ht, tx⟩ := tus.at hi
          have w7 := depL_mem ht
          have w8 := lenR_mem ht
          have w12 := lenR_take ht
          refine ⟨_, rfl, _, rfl, x, lf, t, ns2, rfl, g2, treeAt_same (hid_frm f2) tx, by omega, by omega, fun s F2 ns3 ls f3 g3 => ?_⟩
          have f4 := f2.trans f3
          have gO2 := f3 _ _ nlf gO
          have w9 := looseL ls
          obtain ⟨p6, rest6, rfl, hp6⟩ := treeHead tx
          have app : ∀ z, z = wrapK true t s → rAppend (.ref o) [.str z] F2 (fun _ F3 => ∃ o4' o6' vs2 ns2, [some (V.ref p), some (.ref lf), some (.int dr), none, some (.str s), some (.ref o), some (.ref p6)] = [some (V.ref p), some (.ref lf), some (.int dr), none, o4', some (.ref o), o6'] ∧ Frm lf H F3 ∧ F3 lf = some (.lst (List.map V.int ns2)) ∧ F3 o = some (.lst (List.map V.str vs2)) ∧ Cores true (ts.take (i + 1)) vs2 ∧ vs2.length = i + 1) := by
            rintro z rfl
            refine ⟨o, _, _, rfl, rfl, gO2, by rw [List.length_map]; omega, _, _, vs2 ++ [wrapK true t s], ns3, rfl, ?_, ?_, ?_, ?_, ?_⟩
            · intro b u nb hb
              rw [upd_ne (ne_of_none hb hoH)]
              exact f4 _ _ nb hb
            · rw [upd_ne (Ne.symm nlf)]
              exact g3
            · rw [List.map_append]
              exact upd_same
            · rw [take_snoc ht]
              exact cs.snoc ls
            · rw [List.length_append, hn] <;> rfl
          refine ⟨_, rfl, .inl ⟨rfl, _, SqL.of gO2⟩, _, rfl, p6, _, 0, .str (headOf t), rfl, rfl, SqT.of (at_ hp6 f4), atI_zero, rfl, _, rfl, ?_⟩
          rw [dec_str]
          cases c : (headOf t == "or") with
          | false => exact iteF (iteF ⟨_, rfl, app s (by unfold wrapK; rw [c] <;> rfl)⟩)
          | true =>
            refine iteT ⟨_, rfl, p, _, 0, .str (headOf (.nary true ts)), rfl, rfl, SqT.of (at_ hp f4), atI_zero, rfl, _, rfl, ?_⟩
            rw [hE (.nary true ts) "and" true (by exact (show (("and" : Str) == "and") = true by decide +kernel))]
            refine iteT ⟨_, rfl, _, _, rfl, rfl, ?_, _, _, rfl, rfl, ?_, app _ (by unfold wrapK; rw [c] <;> rfl)⟩
            · rw [show ("(" : Str).length = 1 from rfl]
              omega
            · rw [len_apS, show ("(" : Str).length = 1 from rfl, show (")" : Str).length = 1 from rfl]
              omega
        · rintro σ F ⟨o4, o6, vs2, ns2, rfl, f2, g2, gO, cs, hn⟩
          rw [wl, List.take_length] at cs
          have w10 := cores_len true ts vs2 cs
          have w11 : vs2.length * (" " ++ kindOf true ++ " " : Str).length ≤ vs2.length * 5 := Nat.mul_le_mul_left _ w5
          refine ⟨_, rfl, p, _, 0, .str (headOf (.nary true ts)), rfl, rfl, SqT.of (at_ hp f2), atI_zero, _, _, rfl, rfl, ?_, _, _, rfl, rfl, ?_, rfl, _, rfl, _, o, vs2, rfl, rfl, .inl (SqL.of gO), ?_, ?_⟩
          · rw [show (" " : Str).length = 1 from rfl]
            omega
          · rw [len_apS, show (" " : Str).length = 1 from rfl]
            omega
          · show _ + _ * (" " ++ kindOf true ++ " " : Str).length ≤ _
            omega
          · rw [join_eq]
            exact fin _ _ _ _ _ _ _ ns2 ⟨vs2, cs, rfl⟩ f2 g2
  obtain ⟨t, ht, hq⟩ := rest
  refine ⟨_, pss_cons (ps_set (i := 2) sc_loose.nd rfl (Or.inl rfl) (pe_ifExp (pt_cmpR (op_neD hr.units) (pv 1) (pe_lst pa_nil) (nomark _)) (pe_bm PySem.F.plainAttrs_list PySem.F.slot_list_pop PySem.F.type_list_pop mt_popAt (pv 1) (pa_cons pe_int pa_nil)) pe_int)) ht, ?_⟩
  obtain ⟨v, lf, t0, ns, rfl, hlf, tr, hd, hs, q⟩ := h
  refine ⟨_, rfl, Nat.zero_le _, fun e he => ?_⟩
  have s0 := same_new he (u := .lst [])
  have f0 : Frm lf H (upd H e (.lst [])) := Frm.same s0
  refine ⟨.list (ns.map PyData.int), .list [], .lst (SqL.of (s0 _ _ hlf)) (dp_ints ns), .lst (SqL.of upd_same) .nil, shaped_ints ns, shaped_ints [], _, rfl, ?_⟩
  cases ns with
  | nil => exact iteF (hq v lf t0 [] hlf tr hd hs q 0 _ [] f0 (s0 _ _ hlf))
  | cons n r =>
    refine iteT ⟨_, rfl, .inl ⟨rfl, _, SqL.of (s0 _ _ hlf)⟩, lf, _, 0, 0, .int n, rfl, rfl, s0 _ _ hlf, by decide, by decide, seq_zero (by simp), rfl, ?_⟩
    exact hq v lf t0 (n :: r) hlf tr hd hs q n _ r (f0.trans Frm.upd) upd_same
end
end Fx
set_option maxHeartbeats 2000000
namespace Fx
open PySem PySem.Spec PyProof.Rows L2 TL

mutual
theorem leavT_len : ∀ t : LT, (leavT t).length ≤ sizT t
  | .word _ => Nat.le_refl _
  | .cst _ => Nat.zero_le _
  | .neg t => Nat.le_trans (leavT_len t) (Nat.le_succ _)
  | .nary _ ts => Nat.le_trans (leavL_len ts) (Nat.le_succ _)
theorem leavL_len : ∀ ts : List LT, (leavL ts).length ≤ sizL ts
  | [] => Nat.le_refl _
  | t :: ts => by
    have h1 := leavT_len t
    have h2 := leavL_len ts
    show (leavT t ++ leavL ts).length ≤ sizT t + sizL ts
    rw [List.length_append]
    omega
end
theorem leavL_app : ∀ a b, leavL (a ++ b) = leavL a ++ leavL b
  | [], _ => rfl
  | t :: a, b => by
    show leavT t ++ leavL (a ++ b) = leavT t ++ leavL a ++ leavL b
    rw [leavL_app a b, List.append_assoc]
section
variable {P : Program} {w : World} {K : PySem.W.Frag} {mg : Str → Option Value} {base : Heap} {f : Addr} {fd : FuncData}
def spLeaves (n : Nat) : Sp := fun vs H Q _ => ∃ (v : V) (t : LT), vs = [v] ∧ TreeAt H t v ∧ depT t ≤ n ∧ sizT t ≤ 100000 ∧ ∀ p G, Same H G → H p = none → G p = some (.lst ((leavT t).map V.str)) → Q (.ref p) G
theorem sc_leaves : FnScope ["_law_tree_here", "_law_out", "_law_part"] ["_law_tree_here"] (defScope (tp 39)) := ⟨rfl, rfl, rfl, by decide +kernel, rfl, by decide +kernel, by decide +kernel⟩
theorem base_leaves (F : FnT K "_law_leaves" 39 f fd) : FnOk P w K mg base CX0 1 f fd ["_law_tree_here"] (spLeaves 0) := by
  refine F.ok sc_leaves (fun vs H Q E h => ?_) (fun cdv A outer s H vs Q E hr h => ⟨_, PSs.nox (pss_cons (ps_if (pt_cmpR op_eq (pe_ix ix_tup (pv 0) pe_int (fun _ _ => rfl)) pe_str (nomark _)) (pss_one (ps_ret (pe_lst (pa_cons (pe_ix ix_tup (pv 0) pe_int (fun _ _ => rfl)) pa_nil)))) pss_nil)
      (pss_cons (ps_if (pt_cmpR op_eq (pe_ix ix_tup (pv 0) pe_int (fun _ _ => rfl)) pe_str (nomark _)) (pss_one (ps_never)) pss_nil)
      (pss_cons (ps_set (i := 1) sc_leaves.nd rfl (Or.inl rfl) (pe_lst pa_nil))
      (pss_cons (ps_for PassesOwn.never rfl (pi_list (pe_ifExp (pt_cmpR op_in_seq (pe_ix ix_tup (pv 0) pe_int (fun _ _ => rfl)) (pe_tup (pa_cons pe_str (pa_cons pe_str pa_nil))) (by rfl)) (pe_ix ix_tup (pv 0) pe_int (fun _ _ => rfl)) (pe_lst pa_nil))) (pg_name (i := 2) sc_leaves.nd rfl (Or.inl rfl)) (pss_one (ps_never)))
      (pss_one (ps_ret (pv 1))))))), ?_⟩)
  · obtain ⟨v, t, rfl, _⟩ := h
    rfl
  · obtain ⟨v, t, rfl, tr, hd, hs, q⟩ := h
    have line : (200000 : Nat) ≤ sizeLine := by decide
    obtain ⟨p, rest, rfl, hp⟩ := treeHead tr
    cases t with
    | word z =>
      refine ⟨_, rfl, p, _, 0, .str (headOf (.word z)), rfl, rfl, SqT.of hp, atI_zero, rfl, _, rfl, ?_⟩
      rw [hE (.word z) "word" true (by exact (show (("word" : Str) == "word") = true by decide +kernel))]
      refine iteT ?_
      obtain ⟨p1, e1, hp1⟩ := tr
      cases e1
      exact ⟨_, rfl, p, _, 1, .str z, rfl, rfl, SqT.of hp1, rfl, (by show 1 ≤ sizeLine; decide), fun o ho => q o _ (same_new ho) ho upd_same⟩
    | cst b =>
      cases b
      · refine ⟨_, rfl, p, _, 0, .str (headOf (.cst false)), rfl, rfl, SqT.of hp, atI_zero, rfl, _, rfl, ?_⟩
        rw [hE (.cst false) "word" false (by exact (show ((("none" : Str) : Str) == "word") = false by decide +kernel))]
        refine iteF ?_
        refine ⟨_, rfl, p, _, 0, .str (headOf (.cst false)), rfl, rfl, SqT.of hp, atI_zero, rfl, _, rfl, ?_⟩
        rw [hE (.cst false) "not" false (by exact (show ((("none" : Str) : Str) == "not") = false by decide +kernel))]
        refine iteF ?_
        refine ⟨Nat.zero_le _, fun o ho => ?_⟩
        have so := same_new ho (u := .lst [])
        have hp := so _ _ hp
        refine ⟨_, rfl, p, _, 0, .str (headOf (.cst false)), rfl, rfl, SqT.of hp, atI_zero, (by show 2 ≤ sizeLine; decide), fun g hg => ⟨g, [.str "and", .str "or"], rfl, .inr (SqT.of upd_same), rfl, rfl, _, rfl, ?_⟩⟩
        rw [show (if (false : Bool) = true then !inV (.str (headOf (.cst false))) [.str "and", .str "or"] else inV (.str (headOf (.cst false))) [.str "and", .str "or"]) = false from (show (if (false : Bool) = true then !inV (.str ("none" : Str)) [.str "and", .str "or"] else inV (.str ("none" : Str)) [.str "and", .str "or"]) = false by decide +kernel)]
        have sg := same_new hg (u := .tup [.str "and", .str "or"])
        have s2 := so.trans sg
        have go := sg _ _ (upd_same (H := H) (a := o) (o := .lst []))
        refine iteF ⟨Nat.zero_le _, fun e he => ?_⟩
        have se := same_new he (u := .lst [])
        refine ⟨e, rfl, ⟨_, SqL.of upd_same⟩, for_list (K := K) (a := e) (xs := [])
          (fun i σ F => ∃ o2, σ = [some (.ref p), some (.ref o), o2] ∧ Same H F ∧ F o = some (.lst []) ∧ F e = some (.lst []))
          ⟨none, rfl, s2.trans se, se _ _ go, upd_same⟩ (fun i σ F _ h => by
            obtain ⟨_, _, _, _, h⟩ := h
            exact SqL.of h) ?_ ?_⟩
        · intro i x σ F hi
          simp at hi
        · rintro σ F ⟨o2, rfl, s1, g1, _⟩
          exact ⟨_, rfl, q o F s1 ho g1⟩
      · refine ⟨_, rfl, p, _, 0, .str (headOf (.cst true)), rfl, rfl, SqT.of hp, atI_zero, rfl, _, rfl, ?_⟩
        rw [hE (.cst true) "word" false (by exact (show ((("all" : Str) : Str) == "word") = false by decide +kernel))]
        refine iteF ?_
        refine ⟨_, rfl, p, _, 0, .str (headOf (.cst true)), rfl, rfl, SqT.of hp, atI_zero, rfl, _, rfl, ?_⟩
        rw [hE (.cst true) "not" false (by exact (show ((("all" : Str) : Str) == "not") = false by decide +kernel))]
        refine iteF ?_
        refine ⟨Nat.zero_le _, fun o ho => ?_⟩
        have so := same_new ho (u := .lst [])
        have hp := so _ _ hp
        refine ⟨_, rfl, p, _, 0, .str (headOf (.cst true)), rfl, rfl, SqT.of hp, atI_zero, (by show 2 ≤ sizeLine; decide), fun g hg => ⟨g, [.str "and", .str "or"], rfl, .inr (SqT.of upd_same), rfl, rfl, _, rfl, ?_⟩⟩
        rw [show (if (false : Bool) = true then !inV (.str (headOf (.cst true))) [.str "and", .str "or"] else inV (.str (headOf (.cst true))) [.str "and", .str "or"]) = false from (show (if (false : Bool) = true then !inV (.str ("all" : Str)) [.str "and", .str "or"] else inV (.str ("all" : Str)) [.str "and", .str "or"]) = false by decide +kernel)]
        have sg := same_new hg (u := .tup [.str "and", .str "or"])
        have s2 := so.trans sg
        have go := sg _ _ (upd_same (H := H) (a := o) (o := .lst []))
        refine iteF ⟨Nat.zero_le _, fun e he => ?_⟩
        have se := same_new he (u := .lst [])
        refine ⟨e, rfl, ⟨_, SqL.of upd_same⟩, for_list (K := K) (a := e) (xs := [])
          (fun i σ F => ∃ o2, σ = [some (.ref p), some (.ref o), o2] ∧ Same H F ∧ F o = some (.lst []) ∧ F e = some (.lst []))
          ⟨none, rfl, s2.trans se, se _ _ go, upd_same⟩ (fun i σ F _ h => by
            obtain ⟨_, _, _, _, h⟩ := h
            exact SqL.of h) ?_ ?_⟩
        · intro i x σ F hi
          simp at hi
        · rintro σ F ⟨o2, rfl, s1, g1, _⟩
          exact ⟨_, rfl, q o F s1 ho g1⟩
    | neg t =>
      exfalso
      have w2 : depT (.neg t) = depT t + 1 := rfl
      omega
    | nary k ts =>
      exfalso
      have w2 : depT (.nary k ts) = depL ts + 1 := rfl
      omega
theorem step_leaves (F : FnT K "_law_leaves" 39 f fd) (gF : mg "_law_leaves" = some (.ref f)) (n : Nat) (IH : FnOk P w K mg base CX0 (n + 1) f fd ["_law_tree_here"] (spLeaves n)) : FnOk P w K mg base CX0 (n + 1 + 1) f fd ["_law_tree_here"] (spLeaves (n + 1)) := by
  have bF : L2.Binds K fd ["_law_tree_here"] [] := F.bindsN fun _ _ _ _ _ _ us hl => match us, hl with | [_], _ => rfl
  refine F.ok sc_leaves (fun vs H Q E h => ?_) (fun cdv A outer s H vs Q E hr h => ⟨_, PSs.nox (pss_cons (ps_if (pt_cmpR op_eq (pe_ix ix_tup (pv 0) pe_int (fun _ _ => rfl)) pe_str (nomark _)) (pss_one (ps_ret (pe_lst (pa_cons (pe_ix ix_tup (pv 0) pe_int (fun _ _ => rfl)) pa_nil)))) pss_nil)
      (pss_cons (ps_if (pt_cmpR op_eq (pe_ix ix_tup (pv 0) pe_int (fun _ _ => rfl)) pe_str (nomark _)) (pss_one (ps_ret (pe_call IH hr rfl gF F.kp bF .nil pass0 (pa_cons (pe_ix ix_tup (pv 0) pe_int (fun _ _ => rfl)) pa_nil)))) pss_nil)
      (pss_cons (ps_set (i := 1) sc_leaves.nd rfl (Or.inl rfl) (pe_lst pa_nil))
      (pss_cons (ps_for PassesOwn.never rfl (pi_list (pe_ifExp (pt_cmpR op_in_seq (pe_ix ix_tup (pv 0) pe_int (fun _ _ => rfl)) (pe_tup (pa_cons pe_str (pa_cons pe_str pa_nil))) (by rfl)) (pe_ix ix_tup (pv 0) pe_int (fun _ _ => rfl)) (pe_lst pa_nil))) (pg_name (i := 2) sc_leaves.nd rfl (Or.inl rfl)) (pss_one (ps_expr (pe_bm PySem.F.plainAttrs_list PySem.F.slot_list_extend PySem.F.type_list_extend mt_extend (pv 1) (pa_cons (pe_call IH hr rfl gF F.kp bF .nil pass0 (pa_cons (pv 2) pa_nil)) pa_nil)))))
      (pss_one (ps_ret (pv 1))))))), ?_⟩)
  · obtain ⟨v, t, rfl, _⟩ := h
    rfl
  · obtain ⟨v, t, rfl, tr, hd, hs, q⟩ := h
    have line : (200000 : Nat) ≤ sizeLine := by decide
    obtain ⟨p, rest, rfl, hp⟩ := treeHead tr
    cases t with
    | word z =>
      refine ⟨_, rfl, p, _, 0, .str (headOf (.word z)), rfl, rfl, SqT.of hp, atI_zero, rfl, _, rfl, ?_⟩
      rw [hE (.word z) "word" true (by exact (show (("word" : Str) == "word") = true by decide +kernel))]
      refine iteT ?_
      obtain ⟨p1, e1, hp1⟩ := tr
      cases e1
      exact ⟨_, rfl, p, _, 1, .str z, rfl, rfl, SqT.of hp1, rfl, (by show 1 ≤ sizeLine; decide), fun o ho => q o _ (same_new ho) ho upd_same⟩
    | cst b =>
      cases b
      · refine ⟨_, rfl, p, _, 0, .str (headOf (.cst false)), rfl, rfl, SqT.of hp, atI_zero, rfl, _, rfl, ?_⟩
        rw [hE (.cst false) "word" false (by exact (show ((("none" : Str) : Str) == "word") = false by decide +kernel))]
        refine iteF ?_
        refine ⟨_, rfl, p, _, 0, .str (headOf (.cst false)), rfl, rfl, SqT.of hp, atI_zero, rfl, _, rfl, ?_⟩
        rw [hE (.cst false) "not" false (by exact (show ((("none" : Str) : Str) == "not") = false by decide +kernel))]
        refine iteF ?_
        refine ⟨Nat.zero_le _, fun o ho => ?_⟩
        have so := same_new ho (u := .lst [])
        have hp := so _ _ hp
        refine ⟨_, rfl, p, _, 0, .str (headOf (.cst false)), rfl, rfl, SqT.of hp, atI_zero, (by show 2 ≤ sizeLine; decide), fun g hg => ⟨g, [.str "and", .str "or"], rfl, .inr (SqT.of upd_same), rfl, rfl, _, rfl, ?_⟩⟩
        rw [show (if (false : Bool) = true then !inV (.str (headOf (.cst false))) [.str "and", .str "or"] else inV (.str (headOf (.cst false))) [.str "and", .str "or"]) = false from (show (if (false : Bool) = true then !inV (.str ("none" : Str)) [.str "and", .str "or"] else inV (.str ("none" : Str)) [.str "and", .str "or"]) = false by decide +kernel)]
        have sg := same_new hg (u := .tup [.str "and", .str "or"])
        have s2 := so.trans sg
        have go := sg _ _ (upd_same (H := H) (a := o) (o := .lst []))
        refine iteF ⟨Nat.zero_le _, fun e he => ?_⟩
        have se := same_new he (u := .lst [])
        refine ⟨e, rfl, ⟨_, SqL.of upd_same⟩, for_list (K := K) (a := e) (xs := [])
          (fun i σ F => ∃ o2, σ = [some (.ref p), some (.ref o), o2] ∧ Same H F ∧ F o = some (.lst []) ∧ F e = some (.lst []))
          ⟨none, rfl, s2.trans se, se _ _ go, upd_same⟩ (fun i σ F _ h => by
            obtain ⟨_, _, _, _, h⟩ := h
            exact SqL.of h) ?_ ?_⟩
        · intro i x σ F hi
          simp at hi
        · rintro σ F ⟨o2, rfl, s1, g1, _⟩
          exact ⟨_, rfl, q o F s1 ho g1⟩
      · refine ⟨_, rfl, p, _, 0, .str (headOf (.cst true)), rfl, rfl, SqT.of hp, atI_zero, rfl, _, rfl, ?_⟩
        rw [hE (.cst true) "word" false (by exact (show ((("all" : Str) : Str) == "word") = false by decide +kernel))]
        refine iteF ?_
        refine ⟨_, rfl, p, _, 0, .str (headOf (.cst true)), rfl, rfl, SqT.of hp, atI_zero, rfl, _, rfl, ?_⟩
        rw [hE (.cst true) "not" false (by exact (show ((("all" : Str) : Str) == "not") = false by decide +kernel))]
        refine iteF ?_
        refine ⟨Nat.zero_le _, fun o ho => ?_⟩
        have so := same_new ho (u := .lst [])
        have hp := so _ _ hp
        refine ⟨_, rfl, p, _, 0, .str (headOf (.cst true)), rfl, rfl, SqT.of hp, atI_zero, (by show 2 ≤ sizeLine; decide), fun g hg => ⟨g, [.str "and", .str "or"], rfl, .inr (SqT.of upd_same), rfl, rfl, _, rfl, ?_⟩⟩
        rw [show (if (false : Bool) = true then !inV (.str (headOf (.cst true))) [.str "and", .str "or"] else inV (.str (headOf (.cst true))) [.str "and", .str "or"]) = false from (show (if (false : Bool) = true then !inV (.str ("all" : Str)) [.str "and", .str "or"] else inV (.str ("all" : Str)) [.str "and", .str "or"]) = false by decide +kernel)]
        have sg := same_new hg (u := .tup [.str "and", .str "or"])
        have s2 := so.trans sg
        have go := sg _ _ (upd_same (H := H) (a := o) (o := .lst []))
        refine iteF ⟨Nat.zero_le _, fun e he => ?_⟩
        have se := same_new he (u := .lst [])
        refine ⟨e, rfl, ⟨_, SqL.of upd_same⟩, for_list (K := K) (a := e) (xs := [])
          (fun i σ F => ∃ o2, σ = [some (.ref p), some (.ref o), o2] ∧ Same H F ∧ F o = some (.lst []) ∧ F e = some (.lst []))
          ⟨none, rfl, s2.trans se, se _ _ go, upd_same⟩ (fun i σ F _ h => by
            obtain ⟨_, _, _, _, h⟩ := h
            exact SqL.of h) ?_ ?_⟩
        · intro i x σ F hi
          simp at hi
        · rintro σ F ⟨o2, rfl, s1, g1, _⟩
          exact ⟨_, rfl, q o F s1 ho g1⟩
    | neg t =>
      refine ⟨_, rfl, p, _, 0, .str (headOf (.neg t)), rfl, rfl, SqT.of hp, atI_zero, rfl, _, rfl, ?_⟩
      rw [hE (.neg t) "word" false (by exact (show ((("not" : Str) : Str) == "word") = false by decide +kernel))]
      refine iteF ?_
      refine ⟨_, rfl, p, _, 0, .str (headOf (.neg t)), rfl, rfl, SqT.of hp, atI_zero, rfl, _, rfl, ?_⟩
      rw [hE (.neg t) "not" true (by exact (show ((("not" : Str) : Str) == "not") = true by decide +kernel))]
      refine iteT ?_
      obtain ⟨p1, u, e1, hp1, tu⟩ := tr
      cases e1
      have w2 : depT (.neg t) = depT t + 1 := rfl
      have w3 : sizT (.neg t) = sizT t + 1 := rfl
      exact ⟨_, rfl, p, _, 1, u, rfl, rfl, SqT.of hp1, rfl, u, t, rfl, tu, by omega, by omega, fun p G s n g => q p G s n g⟩
    | nary k ts =>
      cases k
      · refine ⟨_, rfl, p, _, 0, .str (headOf (.nary false ts)), rfl, rfl, SqT.of hp, atI_zero, rfl, _, rfl, ?_⟩
        rw [hE (.nary false ts) "word" false (by exact (show ((("or" : Str) : Str) == "word") = false by decide +kernel))]
        refine iteF ?_
        refine ⟨_, rfl, p, _, 0, .str (headOf (.nary false ts)), rfl, rfl, SqT.of hp, atI_zero, rfl, _, rfl, ?_⟩
        rw [hE (.nary false ts) "not" false (by exact (show ((("or" : Str) : Str) == "not") = false by decide +kernel))]
        refine iteF ?_
        refine ⟨Nat.zero_le _, fun o ho => ?_⟩
        have so := same_new ho (u := .lst [])
        have hp := so _ _ hp
        refine ⟨_, rfl, p, _, 0, .str (headOf (.nary false ts)), rfl, rfl, SqT.of hp, atI_zero, (by show 2 ≤ sizeLine; decide), fun g hg => ⟨g, [.str "and", .str "or"], rfl, .inr (SqT.of upd_same), rfl, rfl, _, rfl, ?_⟩⟩
        rw [show (if (false : Bool) = true then !inV (.str (headOf (.nary false ts))) [.str "and", .str "or"] else inV (.str (headOf (.nary false ts))) [.str "and", .str "or"]) = true from (show (if (false : Bool) = true then !inV (.str ("or" : Str)) [.str "and", .str "or"] else inV (.str ("or" : Str)) [.str "and", .str "or"]) = true by decide +kernel)]
        have sg := same_new hg (u := .tup [.str "and", .str "or"])
        have s2 := so.trans sg
        have go := sg _ _ (upd_same (H := H) (a := o) (o := .lst []))
        refine iteT ?_
        obtain ⟨p1, l2, us, e1, hp1, hl, tus⟩ := tr
        cases e1
        have w2 : depT (.nary false ts) = depL ts + 1 := rfl
        have w3 : sizT (.nary false ts) = sizL ts + 1 := rfl
        have w4 := tus.len
        refine ⟨_, rfl, p, _, 1, .ref l2, rfl, rfl, SqT.of (s2 _ _ hp1), rfl, l2, rfl, ⟨_, SqL.of (s2 _ _ hl)⟩, for_list (K := K) (a := l2) (xs := us)
          (fun i σ F => ∃ o2, σ = [some (.ref p), some (.ref o), o2] ∧ Same H F ∧ F o = some (.lst ((leavL (ts.take i)).map V.str)))
          ⟨none, rfl, s2, go⟩ (fun i σ F _ h => by
            obtain ⟨_, _, h, _⟩ := h
            exact SqL.of (h _ _ hl)) ?_ ?_⟩
        · rintro i x σ F hi ⟨o2, rfl, s1, g1⟩
          obtain ⟨t, ht, tx⟩ := tus.at hi
          have w5 := depL_mem ht
          have w6 := sizL_take ht
          have w7 := leavL_len (ts.take i)
          have w8 := leavT_len t
          refine ⟨_, rfl, .inl ⟨rfl, _, SqL.of g1⟩, _, rfl, x, t, rfl, treeAt_same s1 tx, by omega, by omega, fun p3 F3 s3 n3 g3 => ?_⟩
          refine ⟨o, p3, _, _, rfl, rfl, s3 _ _ g1, g3, by rw [List.length_map, List.length_map]; omega, _, rfl, ?_, ?_⟩
          · intro b u hb
            rw [upd_ne (ne_of_none hb ho)]
            exact s3 _ _ (s1 _ _ hb)
          · rw [take_snoc ht, leavL_app, List.map_append]
            show upd _ _ _ _ = some (.lst (_ ++ List.map V.str (leavT t ++ [])))
            rw [List.append_nil]
            exact upd_same
        · rintro σ F ⟨o2, rfl, s1, g1⟩
          rw [w4, List.take_length] at g1
          exact ⟨_, rfl, q o F s1 ho g1⟩
      · refine ⟨_, rfl, p, _, 0, .str (headOf (.nary true ts)), rfl, rfl, SqT.of hp, atI_zero, rfl, _, rfl, ?_⟩
        rw [hE (.nary true ts) "word" false (by exact (show ((("and" : Str) : Str) == "word") = false by decide +kernel))]
        refine iteF ?_
        refine ⟨_, rfl, p, _, 0, .str (headOf (.nary true ts)), rfl, rfl, SqT.of hp, atI_zero, rfl, _, rfl, ?_⟩
        rw [hE (.nary true ts) "not" false (by exact (show ((("and" : Str) : Str) == "not") = false by decide +kernel))]
        refine iteF ?_
        refine ⟨Nat.zero_le _, fun o ho => ?_⟩
        have so := same_new ho (u := .lst [])
        have hp := so _ _ hp
        refine ⟨_, rfl, p, _, 0, .str (headOf (.nary true ts)), rfl, rfl, SqT.of hp, atI_zero, (by show 2 ≤ sizeLine; decide), fun g hg => ⟨g, [.str "and", .str "or"], rfl, .inr (SqT.of upd_same), rfl, rfl, _, rfl, ?_⟩⟩
        rw [show (if (false : Bool) = true then !inV (.str (headOf (.nary true ts))) [.str "and", .str "or"] else inV (.str (headOf (.nary true ts))) [.str "and", .str "or"]) = true from (show (if (false : Bool) = true then !inV (.str ("and" : Str)) [.str "and", .str "or"] else inV (.str ("and" : Str)) [.str "and", .str "or"]) = true by decide +kernel)]
        have sg := same_new hg (u := .tup [.str "and", .str "or"])
        have s2 := so.trans sg
        have go := sg _ _ (upd_same (H := H) (a := o) (o := .lst []))
        refine iteT ?_
        obtain ⟨p1, l2, us, e1, hp1, hl, tus⟩ := tr
        cases e1
        have w2 : depT (.nary true ts) = depL ts + 1 := rfl
        have w3 : sizT (.nary true ts) = sizL ts + 1 := rfl
        have w4 := tus.len
        refine ⟨_, rfl, p, _, 1, .ref l2, rfl, rfl, SqT.of (s2 _ _ hp1), rfl, l2, rfl, ⟨_, SqL.of (s2 _ _ hl)⟩, for_list (K := K) (a := l2) (xs := us)
          (fun i σ F => ∃ o2, σ = [some (.ref p), some (.ref o), o2] ∧ Same H F ∧ F o = some (.lst ((leavL (ts.take i)).map V.str)))
          ⟨none, rfl, s2, go⟩ (fun i σ F _ h => by
            obtain ⟨_, _, h, _⟩ := h
            exact SqL.of (h _ _ hl)) ?_ ?_⟩
        · rintro i x σ F hi ⟨o2, rfl, s1, g1⟩
          obtain ⟨t, ht, tx⟩ := tus.at hi
          have w5 := depL_mem ht
          have w6 := sizL_take ht
          have w7 := leavL_len (ts.take i)
          have w8 := leavT_len t
          refine ⟨_, rfl, .inl ⟨rfl, _, SqL.of g1⟩, _, rfl, x, t, rfl, treeAt_same s1 tx, by omega, by omega, fun p3 F3 s3 n3 g3 => ?_⟩
          refine ⟨o, p3, _, _, rfl, rfl, s3 _ _ g1, g3, by rw [List.length_map, List.length_map]; omega, _, rfl, ?_, ?_⟩
          · intro b u hb
            rw [upd_ne (ne_of_none hb ho)]
            exact s3 _ _ (s1 _ _ hb)
          · rw [take_snoc ht, leavL_app, List.map_append]
            show upd _ _ _ _ = some (.lst (_ ++ List.map V.str (leavT t ++ [])))
            rw [List.append_nil]
            exact upd_same
        · rintro σ F ⟨o2, rfl, s1, g1⟩
          rw [w4, List.take_length] at g1
          exact ⟨_, rfl, q o F s1 ho g1⟩
end
end Fx
set_option maxHeartbeats 2000000
namespace Fx
open PySem PySem.Spec PyProof.Rows L2 TL
def sixWords : List Str := ["open", "order@noted", "there", "android", "there@allowed", "nonesuch"]
section
variable {P : Program} {w : World} {K : PySem.W.Frag} {mg : Str → Option Value} {base : Heap} {f : Addr} {fd : FuncData}
def spSix : Sp := fun vs H Q _ => vs = [] ∧ ∀ p, H p = none → Q (.ref p) (upd H p (.lst (sixWords.map V.str)))
theorem sc_six : FnScope [] [] (defScope (tp 42)) := ⟨rfl, rfl, rfl, by decide +kernel, rfl, by decide +kernel, by decide +kernel⟩
theorem ok_six (F : FnT K "_law_six_words" 42 f fd) : FnOk P w K mg base CX0 1 f fd [] spSix := by
  refine F.ok sc_six (fun vs H Q E h => ?_) (fun cdv A outer s H vs Q E hr h => ⟨_, PSs.nox (pss_one (ps_ret (pe_lst (pa_cons pe_str (pa_cons pe_str (pa_cons pe_str (pa_cons pe_str (pa_cons pe_str (pa_cons pe_str pa_nil))))))))), ?_⟩)
  · obtain ⟨rfl, _⟩ := h
    rfl
  · obtain ⟨rfl, q⟩ := h
    exact ⟨(by show 6 ≤ sizeLine; decide), q⟩
def spSpoilt : Sp := fun vs H Q _ => ∃ (z : Str) (a b c : Int), vs = [.str z, .int a, .int b, .int c] ∧ z.length ≤ 100000 ∧ (∀ x ∈ tl z, x < 256) ∧ ∀ s, s.length ≤ 2 * z.length + 1 → (∀ x ∈ tl s, x < 256) → Q (.str s) H
theorem sc_spoilt : FnScope ["_law_text_here", "_law_way", "_law_at", "_law_more", "_law_sign"] ["_law_text_here", "_law_way", "_law_at", "_law_more"] (defScope (tp 41)) := ⟨rfl, rfl, rfl, by decide +kernel, rfl, by decide +kernel, by decide +kernel⟩
theorem at_mod {xs : List Nat} {n : Nat} (h : xs.length = n) (c : Int) (hn : 0 < n) : ∃ y, atI xs (c % (n : Int)) = some y ∧ y ∈ xs := by
  have w1 := Int.emod_nonneg c (show (n : Int) ≠ 0 by omega)
  have w2 := Int.emod_lt_of_pos c (show (0 : Int) < (n : Int) by omega)
  obtain ⟨k, hk⟩ := Int.eq_ofNat_of_zero_le w1
  have hk2 : k < xs.length := by omega
  exact ⟨xs[k], by rw [hk]; exact atI_nat (by simp [hk2]), List.getElem_mem hk2⟩
theorem ok_spoilt (F : FnT K "_law_spoilt" 41 f fd) (T : LTxt mg) : FnOk P w K mg base CX0 1 f fd ["_law_text_here", "_law_way", "_law_at", "_law_more"] spSpoilt := by
  refine F.ok sc_spoilt (fun vs H Q E h => ?_) (fun cdv A outer s H vs Q E hr h => ⟨_, PSs.nox (pss_cons (ps_set (i := 4) sc_spoilt.nd rfl (Or.inl rfl) (pe_ix ix_str pe_str (pe_op op_mod (pv 3) pe_int) (fun _ _ => rfl)))
      (pss_cons (ps_set (i := 2) sc_spoilt.nd rfl (Or.inl rfl) (pe_op op_mod (pv 2) (pe_op op_add (pe_callB call_len rfl T.len boot_len (pa_cons (pv 0) pa_nil)) pe_int)))
      (pss_cons (ps_if (pt_cmpR op_eq (pv 1) pe_int (nomark _)) (pss_one (ps_ret (pe_op op_add_str (pe_op op_add_str (pe_slice sl_str (pv 0) po_none (po_some (pv 2))) (pv 4)) (pe_slice sl_str (pv 0) (po_some (pv 2)) po_none)))) pss_nil)
      (pss_cons (ps_if (pt_cmpR op_eq (pv 1) pe_int (nomark _)) (pss_one (ps_ret (pe_op op_add_str (pe_slice sl_str (pv 0) po_none (po_some (pv 2))) (pe_slice sl_str (pv 0) (po_some (pe_op op_add (pv 2) pe_int)) po_none)))) pss_nil)
      (pss_one (ps_ret (pe_op op_add_str (pe_op op_add_str (pe_slice sl_str (pv 0) po_none (po_some (pv 2))) (pv 4)) (pe_slice sl_str (pv 0) (po_some (pe_op op_add (pv 2) pe_int)) po_none)))))))), ?_⟩)
  · obtain ⟨z, a, b, c, rfl, _⟩ := h
    rfl
  · obtain ⟨z, a, b, c, rfl, hz, hk, q⟩ := h
    have line : (300000 : Nat) ≤ sizeLine := by decide
    obtain ⟨y, hy, hym⟩ := at_mod (xs := ("() @abnortd" : Str).cps.toList) (n := 11) (by decide +kernel) c (by decide)
    have hcut := fun lo hi => cutS_length z lo hi
    have l1 : ((⟨#[y]⟩ : Str)).length = 1 := rfl
    have hy2 : y < 256 := (show ∀ y ∈ ("() @abnortd" : Str).cps.toList, y < 256 by decide +kernel) y hym
    have ky : ∀ x ∈ tl (⟨#[y]⟩ : Str), x < 256 := fun x hx => by
      rw [List.mem_singleton.mp (show x ∈ [y] from hx)]
      exact hy2
    have kc : ∀ lo hi, ∀ x ∈ tl (cutS z lo hi), x < 256 := fun lo hi x hx => hk x (List.mem_of_mem_drop (List.mem_of_mem_take (show x ∈ (z.cps.toList.drop (HT.sIx z.length 0 lo)).take (HT.sIx z.length z.length hi - HT.sIx z.length 0 lo) from hx)))
    have ka : ∀ {a b : Str}, (∀ x ∈ tl a, x < 256) → (∀ x ∈ tl b, x < 256) → ∀ x ∈ tl (a ++ b), x < 256 := fun ha hb x hx => by
      rw [tl_append] at hx
      rcases List.mem_append.mp hx with w | w
      · exact ha x w
      · exact hb x w
    refine ⟨_, rfl, _, _, rfl, rfl, (show (0 : Int) < 11 by decide), _, _, y, rfl, rfl, (by decide +kernel), hy, ?_⟩
    refine ⟨_, rfl, _, rfl, _, z.length, rfl, ⟨by omega, rfl⟩, _, _, rfl, rfl, _, _, rfl, rfl, (show (0 : Int) < (z.length : Int) + 1 by omega), ?_⟩
    refine ⟨_, rfl, rfl, _, rfl, ?_⟩
    refine ite2 (fun c1 => ?_) fun c1 => ?_
    · refine ⟨_, rfl, _, rfl, _, rfl, z, rfl, by omega, _, rfl, _, _, rfl, rfl, ?_, _, rfl, _, rfl, _, rfl, z, rfl, by omega, _, _, rfl, rfl, ?_, q _ ?_ (ka (ka (kc _ _) ky) (kc _ _))⟩
      · have := hcut none (some (b % ((z.length : Int) + 1)))
        omega
      · rw [len_apS]
        have := hcut none (some (b % ((z.length : Int) + 1)))
        have := hcut (some (b % ((z.length : Int) + 1))) none
        omega
      · rw [len_apS, len_apS]
        have := hcut none (some (b % ((z.length : Int) + 1)))
        have := hcut (some (b % ((z.length : Int) + 1))) none
        omega
    · refine ⟨_, rfl, rfl, _, rfl, ?_⟩
      refine ite2 (fun c2 => ?_) fun c2 => ?_
      · refine ⟨_, rfl, _, rfl, _, rfl, z, rfl, by omega, _, rfl, _, rfl, _, _, rfl, rfl, _, rfl, z, rfl, by omega, _, _, rfl, rfl, ?_, q _ ?_ (ka (kc _ _) (kc _ _))⟩
        · have := hcut none (some (b % ((z.length : Int) + 1)))
          have := hcut (some (b % ((z.length : Int) + 1) + 1)) none
          omega
        · rw [len_apS]
          have := hcut none (some (b % ((z.length : Int) + 1)))
          have := hcut (some (b % ((z.length : Int) + 1) + 1)) none
          omega
      · refine ⟨_, rfl, _, rfl, _, rfl, z, rfl, by omega, _, rfl, _, _, rfl, rfl, ?_, _, rfl, _, rfl, _, _, rfl, rfl, _, rfl, z, rfl, by omega, _, _, rfl, rfl, ?_, q _ ?_ (ka (ka (kc _ _) ky) (kc _ _))⟩
        · have := hcut none (some (b % ((z.length : Int) + 1)))
          omega
        · rw [len_apS]
          have := hcut none (some (b % ((z.length : Int) + 1)))
          have := hcut (some (b % ((z.length : Int) + 1) + 1)) none
          omega
        · rw [len_apS, len_apS]
          have := hcut none (some (b % ((z.length : Int) + 1)))
          have := hcut (some (b % ((z.length : Int) + 1) + 1)) none
          omega
end
end Fx
set_option maxHeartbeats 2000000
namespace Fx
open PySem PySem.Spec PyProof.Rows L2 TL
def olds : List Str := ["not w", "w and w", "w or w", "(w)"]
def cutAt (z o : Str) : Str := cutS z none (some (Txt.find z o)) ++ "w" ++ cutS z (some (Txt.find z o + o.length)) none
def shrL (z : Str) : List Str → Str
  | [] => z
  | o :: os => if decide (Txt.find z o ≥ 0) = true then cutAt z o else shrL z os
def shrunk (z : Str) : Str := shrL z olds
section
variable {P : Program} {w : World} {K : PySem.W.Frag} {mg : Str → Option Value} {base : Heap} {f : Addr} {fd : FuncData}
def spShrunk : Sp := fun vs H Q _ => ∃ (z : Str), vs = [.str z] ∧ z.length ≤ 100000 ∧ ∀ G, Same H G → Q (.str (shrunk z)) G
theorem sc_shrunk : FnScope ["_law_text_here", "_law_old", "_law_new", "_law_at"] ["_law_text_here"] (defScope (tp 35)) := ⟨rfl, rfl, rfl, by decide +kernel, rfl, by decide +kernel, by decide +kernel⟩
theorem ok_shrunk (F : FnT K "_law_shrunk" 35 f fd) (T : LTxt mg) : FnOk P w K mg base CX0 1 f fd ["_law_text_here"] spShrunk := by
  refine F.ok sc_shrunk (fun vs H Q E h => ?_) (fun cdv A outer s H vs Q E hr h => ⟨_, PSs.nox (pss_cons (ps_for PassesOwn.never rfl (pi_list (pe_lst (pa_cons (pe_tup (pa_cons pe_str (pa_cons pe_str pa_nil))) (pa_cons (pe_tup (pa_cons pe_str (pa_cons pe_str pa_nil))) (pa_cons (pe_tup (pa_cons pe_str (pa_cons pe_str pa_nil))) (pa_cons (pe_tup (pa_cons pe_str (pa_cons pe_str pa_nil))) pa_nil)))))) (pg_tup rfl (pgs_cons (pg_name (i := 1) sc_shrunk.nd rfl (Or.inl rfl)) (pgs_cons (pg_name (i := 2) sc_shrunk.nd rfl (Or.inl rfl)) pgs_nil))) (pss_cons (ps_set (i := 3) sc_shrunk.nd rfl (Or.inl rfl) (pe_bm PySem.F.plainAttrs_str PySem.F.slot_str_find PySem.F.type_str_find mt_find (pv 0) (pa_cons (pv 1) pa_nil)))
      (pss_one (ps_if (pt_cmpR op_ge (pv 3) pe_int (nomark _)) (pss_one (ps_ret (pe_op op_add_str (pe_op op_add_str (pe_slice sl_str (pv 0) po_none (po_some (pv 3))) (pv 2)) (pe_slice sl_str (pv 0) (po_some (pe_op op_add (pv 3) (pe_callB call_len rfl T.len boot_len (pa_cons (pv 1) pa_nil)))) po_none)))) pss_nil))))
      (pss_one (ps_ret (pv 0)))), ?_⟩)
  · obtain ⟨z, rfl, _⟩ := h
    rfl
  · obtain ⟨z, rfl, hz, q⟩ := h
    have line : (300000 : Nat) ≤ sizeLine := by decide
    have hcut := fun lo hi => cutS_length z lo hi
    have l2 : (2 : Nat) ≤ sizeLine := by decide
    refine ⟨l2, fun p1 n1 => ⟨l2, fun p2 n2 => ⟨l2, fun p3 n3 => ⟨l2, fun p4 n4 => ⟨(by show 4 ≤ sizeLine; decide), fun o no => ?_⟩⟩⟩⟩⟩
    have s1 := same_new n1 (u := .tup [.str "not w", .str "w"])
    have s2 := same_new n2 (u := .tup [.str "w and w", .str "w"])
    have s3 := same_new n3 (u := .tup [.str "w or w", .str "w"])
    have s4 := same_new n4 (u := .tup [.str "(w)", .str "w"])
    have s5 := same_new no (u := .lst [.ref p1, .ref p2, .ref p3, .ref p4])
    have g1 := s5 _ _ (s4 _ _ (s3 _ _ (s2 _ _ (upd_same (H := H) (a := p1) (o := .tup [.str "not w", .str "w"])))))
    have g2 := s5 _ _ (s4 _ _ (s3 _ _ (upd_same (H := upd H p1 (.tup [.str "not w", .str "w"])) (a := p2) (o := .tup [.str "w and w", .str "w"]))))
    have g3 := s5 _ _ (s4 _ _ (upd_same (H := upd (upd H p1 (.tup [.str "not w", .str "w"])) p2 (.tup [.str "w and w", .str "w"])) (a := p3) (o := .tup [.str "w or w", .str "w"])))
    have g4 := s5 _ _ (upd_same (H := upd (upd (upd H p1 (.tup [.str "not w", .str "w"])) p2 (.tup [.str "w and w", .str "w"])) p3 (.tup [.str "w or w", .str "w"])) (a := p4) (o := .tup [.str "(w)", .str "w"]))
    have go := upd_same (H := upd (upd (upd (upd H p1 (.tup [.str "not w", .str "w"])) p2 (.tup [.str "w and w", .str "w"])) p3 (.tup [.str "w or w", .str "w"])) p4 (.tup [.str "(w)", .str "w"])) (a := o) (o := .lst [.ref p1, .ref p2, .ref p3, .ref p4])
    have sH := (((s1.trans s2).trans s3).trans s4).trans s5
    generalize upd (upd (upd (upd (upd H p1 (.tup [.str "not w", .str "w"])) p2 (.tup [.str "w and w", .str "w"])) p3 (.tup [.str "w or w", .str "w"])) p4 (.tup [.str "(w)", .str "w"])) o (.lst [.ref p1, .ref p2, .ref p3, .ref p4]) = G at g1 g2 g3 g4 go sH ⊢
    have each : ∀ i x, [V.ref p1, .ref p2, .ref p3, .ref p4][i]? = some x → ∃ p d, x = .ref p ∧ G p = some (.tup [.str d, .str "w"]) ∧ d.length ≤ 10 ∧ olds.drop i = d :: olds.drop (i + 1) := by
      intro i x hi
      match i, hi with
      | 0, hi => exact ⟨p1, "not w", (Option.some.inj hi).symm, g1, by decide +kernel, rfl⟩
      | 1, hi => exact ⟨p2, "w and w", (Option.some.inj hi).symm, g2, by decide +kernel, rfl⟩
      | 2, hi => exact ⟨p3, "w or w", (Option.some.inj hi).symm, g3, by decide +kernel, rfl⟩
      | 3, hi => exact ⟨p4, "(w)", (Option.some.inj hi).symm, g4, by decide +kernel, rfl⟩
      | i + 4, hi => simp at hi
    refine ⟨o, rfl, ⟨_, SqL.of go⟩, for_list (K := K) (a := o) (xs := [.ref p1, .ref p2, .ref p3, .ref p4])
      (fun i σ F => ∃ o1 o2 o3, σ = [some (.str z), o1, o2, o3] ∧ F = G ∧ shrunk z = shrL z (olds.drop i))
      ⟨none, none, none, rfl, rfl, rfl⟩ (fun i σ F _ h => by
        obtain ⟨_, _, _, _, h, _⟩ := h
        rw [h]
        exact SqL.of go) ?_ ?_⟩
    · rintro i x σ F hi ⟨o1, o2, o3, rfl, rfl, he⟩
      obtain ⟨p, d, rfl, gp, hd, hdr⟩ := each i x hi
      refine ⟨p, _, rfl, SqT.of gp, rfl, _, _, rfl, _, _, rfl, rfl, ?_⟩
      refine ⟨_, rfl, rfl, _, rfl, z, d, rfl, rfl, ?_⟩
      refine ⟨_, rfl, _, _, rfl, rfl, _, rfl, ?_⟩
      rw [hdr] at he
      refine ite2 (fun c1 => ?_) fun c1 => ?_
      · have e : shrunk z = cutAt z d := by
          rw [he]
          show (if decide (Txt.find z d ≥ 0) = true then cutAt z d else _) = _
          exact if_pos c1
        refine ⟨_, rfl, _, rfl, _, rfl, z, rfl, by omega, _, rfl, _, _, rfl, rfl, ?_, _, rfl, _, rfl, _, rfl, _, d.length, rfl, ⟨by omega, rfl⟩, _, _, rfl, rfl, _, rfl, z, rfl, by omega, _, _, rfl, rfl, ?_, ?_⟩
        · have := hcut none (some (Txt.find z d))
          rw [show ("w" : Str).length = 1 from rfl]
          omega
        · have := hcut none (some (Txt.find z d))
          have := hcut (some (Txt.find z d + d.length)) none
          rw [len_apS, show ("w" : Str).length = 1 from rfl]
          omega
        · have w1 := q _ sH
          rw [e] at w1
          exact w1
      · refine ⟨_, _, _, rfl, rfl, ?_⟩
        rw [he]
        show (if decide (Txt.find z d ≥ 0) = true then cutAt z d else shrL z (olds.drop (i + 1))) = _
        exact if_neg c1
    · rintro σ F ⟨o1, o2, o3, rfl, rfl, he⟩
      have w1 := q _ sH
      rw [he] at w1
      exact ⟨_, rfl, w1⟩
end
end Fx
set_option maxHeartbeats 2000000
namespace Fx
open PySem PySem.Spec PyProof.Rows L2 TL
def five : List Str := ["and", "or", "not", "all", "none"]
def sixth : List Str := ["and", "or", "not", "all", "none", "there"]
def partsOf (z : Str) : List Str := Txt.split z "@"
def lawWord (z : Str) : Bool :=
  let ps := partsOf z
  if !(((tl (Txt.join "" ps)).filter fun c => !isLetter c).isEmpty) then false
  else if (ps.map fun p => decide (0 < p.length) && decide (p.length < 9)).any (fun y => y == false) then false
  else match ps with
    | [] => false
    | [a] => !(five.any fun y => y == a)
    | [a, b] => !(five.any fun y => y == a) && !(sixth.any fun y => y == b)
    | _ => false
theorem spl_sub : ∀ (l acc p : List Nat), p ∈ spl [64] 0 acc l → ∀ c ∈ p, c ∈ acc ∨ c ∈ l
  | [], acc, p, h, c, hc => by
    have e : p = acc := List.mem_singleton.mp h
    exact .inl (e ▸ hc)
  | x :: r, acc, p, h, c, hc => by
    unfold spl at h
    split at h
    · rcases List.mem_cons.mp h with e | h
      · exact .inl (e ▸ hc)
      · rcases spl_sub r [] p h c hc with w | w
        · cases w
        · exact .inr (List.mem_cons_of_mem _ w)
    · rcases spl_sub r (acc ++ [x]) p h c hc with w | w
      · rcases List.mem_append.mp w with w | w
        · exact .inl w
        · exact .inr (by rw [List.mem_singleton.mp w]; exact List.mem_cons_self ..)
      · exact .inr (List.mem_cons_of_mem _ w)
theorem spl_sum : ∀ (l acc : List Nat), ((spl [64] 0 acc l).map (·.length)).sum ≤ acc.length + l.length
  | [], acc => by show acc.length + 0 ≤ acc.length + 0; exact Nat.le_refl _
  | x :: r, acc => by
    unfold spl
    split
    · have h := spl_sum r []
      have h0 : ([] : List Nat).length = 0 := rfl
      show acc.length + ((spl [64] 0 [] r).map (·.length)).sum ≤ acc.length + (r.length + 1)
      omega
    · have h := spl_sum r (acc ++ [x])
      rw [List.length_append] at h
      have h1 : [x].length = 1 := rfl
      show ((spl [64] 0 (acc ++ [x]) r).map (·.length)).sum ≤ acc.length + (r.length + 1)
      omega
theorem parts_tl (z : Str) : (partsOf z).map tl = spl [64] 0 [] (tl z) :=
  split_spl z "@" (by decide +kernel) (kind_ok (by decide +kernel))
theorem spl_ne : ∀ (l acc : List Nat), spl [64] 0 acc l ≠ []
  | [], acc => by
    intro h
    cases h
  | x :: r, acc => by
    unfold spl
    split
    · intro h
      cases h
    · exact spl_ne r _
theorem parts_ne (z : Str) : partsOf z ≠ [] := fun h => by
  have e := parts_tl z
  rw [h] at e
  exact spl_ne _ _ e.symm
theorem parts_sum (z : Str) : ((partsOf z).map (·.length)).sum ≤ z.length := by
  have h := spl_sum (tl z) []
  rw [← parts_tl, List.map_map] at h
  have e : ((fun x : List Nat => x.length) ∘ tl) = fun x : Str => x.length := funext fun x => (len_tl x).symm
  rw [e] at h
  have h0 : ([] : List Nat).length = 0 := rfl
  have h2 := len_tl z
  omega
theorem parts_one {z p : Str} (h : p ∈ partsOf z) : p.length ≤ z.length := by
  refine Nat.le_trans ?_ (parts_sum z)
  generalize partsOf z = ps at h
  induction ps with
  | nil => cases h
  | cons x r ih =>
    show _ ≤ x.length + (r.map (·.length)).sum
    rcases List.mem_cons.mp h with e | h
    · rw [e]; omega
    · have := ih h; omega
theorem joinL_mem : ∀ (qs : List (List Nat)) (c : Nat), c ∈ joinL [] qs → ∃ q ∈ qs, c ∈ q
  | [], c, h => by cases h
  | [p], c, h => ⟨p, List.mem_singleton.mpr rfl, h⟩
  | p :: q :: r, c, h => by
    have h : c ∈ p ++ ([] ++ joinL [] (q :: r)) := h
    rcases List.mem_append.mp h with w | w
    · exact ⟨p, List.mem_cons_self .., w⟩
    · obtain ⟨x, hx, hc⟩ := joinL_mem (q :: r) c w
      exact ⟨x, List.mem_cons_of_mem _ hx, hc⟩
theorem joined_sub (z : Str) (c : Nat) (h : c ∈ tl (Txt.join "" (partsOf z))) : c ∈ tl z := by
  rw [join_eq, tl_join, parts_tl] at h
  obtain ⟨q, hq, hc⟩ := joinL_mem _ c h
  rcases spl_sub _ _ q hq c hc with w | w
  · cases w
  · exact w
theorem joined_len (z : Str) : (Txt.join "" (partsOf z)).length ≤ z.length := by
  rw [join_eq]
  have h1 := len_join "" (partsOf z)
  have h2 := parts_sum z
  have h3 : ("" : Str).length = 0 := rfl
  rw [h3] at h1
  omega
theorem can_strs : ∀ {cs : List Nat}, (∀ c ∈ cs, c < 256) → PyData.canLayAll0 (cs.map fun c => PyData.str ⟨#[c]⟩) = true
  | [], _ => rfl
  | c :: cs, h => by
    show (PyData.strOk ⟨#[c]⟩ && PyData.canLayAll0 (cs.map fun c => PyData.str ⟨#[c]⟩)) = true
    rw [can_strs fun x hx => h x (List.mem_cons_of_mem _ hx), Bool.and_true]
    have w := h c (List.mem_cons_self ..)
    unfold PyData.strOk
    simp
    omega
theorem depth_strs : ∀ cs : List Nat, PyData.depthAll (cs.map fun c => PyData.str ⟨#[c]⟩) ≤ 0
  | [] => Nat.le_refl _
  | c :: cs => Nat.max_le.mpr ⟨Nat.le_refl _, depth_strs cs⟩
theorem shaped_strs {cs : List Nat} (h : ∀ c ∈ cs, c < 256) : SeqAt.shaped (.list (cs.map fun c => PyData.str ⟨#[c]⟩)) = true := by
  have h1 := depth_strs cs
  have h2 : PyData.depth (.list (cs.map fun c => PyData.str ⟨#[c]⟩)) ≤ 64 := by
    show PyData.depthAll _ + 1 ≤ 64
    omega
  unfold SeqAt.shaped
  rw [decide_eq_true h2]
  show (PyData.canLayAll0 _ && true) = true
  rw [can_strs h] <;> rfl
theorem dp_strs {K : PySem.W.Frag} {H : Hp} : ∀ cs : List Nat, DpAll K H (cs.map fun c => V.str ⟨#[c]⟩) (cs.map fun c => PyData.str ⟨#[c]⟩)
  | [] => .nil
  | c :: cs => .cons (.str _) (dp_strs cs)
section
variable {P : Program} {w : World} {K : PySem.W.Frag} {mg : Str → Option Value} {base : Heap} {f : Addr} {fd : FuncData}
def spLawWord : Sp := fun vs H Q _ => ∃ (z : Str), vs = [.str z] ∧ z.length ≤ 100000 ∧ (∀ c ∈ tl z, c < 256) ∧ ∀ G, Same H G → Q (.bl (lawWord z)) G
theorem sc_lw : FnScope ["_law_text_here", "_law_parts", "_law_letters", "_law_sizes", "_law_sign", "_law_part"] ["_law_text_here"] (defScope (tp 34)) := ⟨rfl, rfl, rfl, by decide +kernel, rfl, by decide +kernel, by decide +kernel⟩
theorem ok_lawword (F : FnT K "_law_is_word" 34 f fd) (T : LTxt mg) : FnOk P w K mg base CX0 1 f fd ["_law_text_here"] spLawWord := by
  refine F.ok sc_lw (fun vs H Q E h => ?_) (fun cdv A outer s H vs Q E hr h => ⟨_, PSs.nox (pss_cons (ps_set (i := 1) sc_lw.nd rfl (Or.inl rfl) (pe_split (pv 0) pe_str))
      (pss_cons (ps_setLc (i := 2) (own := [("_law_sign", 4)]) (g := gName 4) (tt := _) rfl sc_lw.nd rfl rfl (sw_true rfl rfl rfl (by decide +kernel)) (pi_str (pe_bm PySem.F.plainAttrs_str PySem.F.slot_str_join PySem.F.type_str_join mt_join pe_str (pa_cons (pv 1) pa_nil))) (blkOk_by (N := ["_law_text_here", "_law_parts", "_law_letters", "_law_sizes", "_law_sign", "_law_part"]) (sc := defScope (tp 34)) (by decide +kernel)) (fun _ _ _ _ _ => pg_name (i := 4) sc_lw.nd rfl (Or.inl rfl)) (fun _ _ _ _ _ => pts_one (pt_cmpR op_notIn_sign (pv 4) pe_str (by rfl))) (fun _ _ _ _ _ => pv 4))
      (pss_cons (ps_setLc (i := 3) (own := [("_law_part", 5)]) (g := gName 5) (tt := tYes) rfl sc_lw.nd rfl rfl (sw_true rfl rfl rfl (by decide +kernel)) (pi_list (pv 1)) (blkOk_by (N := ["_law_text_here", "_law_parts", "_law_letters", "_law_sizes", "_law_sign", "_law_part"]) (sc := defScope (tp 34)) (by decide +kernel)) (fun _ _ _ _ _ => pg_name (i := 5) sc_lw.nd rfl (Or.inl rfl)) (fun _ _ _ _ _ => pts_nil) (fun _ _ _ _ _ => pe_chain op_lt op_lt pe_int (pe_callB call_len_str rfl T.len boot_len (pa_cons (pv 5) pa_nil)) pe_int))
      (pss_cons (ps_if (PW.pt (pw_or (pt_cmpR (op_neD hr.units) (pv 2) (pe_lst pa_nil) (nomark _)) (pw_or (pt_cmpR op_in_seq pe_bl (pv 3) (by rfl)) (pw_or (pt_cmpR op_gt (pe_callB call_len rfl T.len boot_len (pa_cons (pv 1) pa_nil)) pe_int (nomark _)) (pw_or1 (pt_cmpR op_in_seq (pe_ix ix_list (pv 1) pe_int (fun _ _ => rfl)) (pe_tup (pa_cons pe_str (pa_cons pe_str (pa_cons pe_str (pa_cons pe_str (pa_cons pe_str pa_nil)))))) (by rfl))))))) (pss_one (ps_ret pe_bl)) pss_nil)
      (pss_one (ps_ret (pe_or (pe_cmpR op_eq (pe_callB call_len rfl T.len boot_len (pa_cons (pv 1) pa_nil)) pe_int (nomark _)) (pe_one (pe_cmpR op_notIn_seq (pe_ix ix_list (pv 1) pe_int (fun _ _ => rfl)) (pe_tup (pa_cons pe_str (pa_cons pe_str (pa_cons pe_str (pa_cons pe_str (pa_cons pe_str (pa_cons pe_str pa_nil))))))) (by rfl)))))))))), ?_⟩)
  · obtain ⟨z, rfl, _⟩ := h
    rfl
  · obtain ⟨z, rfl, hz, hk, q⟩ := h
    have line : (300000 : Nat) ≤ sizeLine := by decide
    have hsum := parts_sum z
    have hone := fun p => parts_one (z := z) (p := p)
    have hjl := joined_len z
    have hpl : (partsOf z).length ≤ z.length + 2 := PyProof.Rows.split_le z "@"
    have hjs := joined_sub z
    refine ⟨_, rfl, ⟨_, rfl⟩, z, "@", rfl, rfl, (by decide +kernel), by omega, fun a ha => ?_⟩
    have s0 := same_new ha (u := .lst ((Txt.split z "@").map V.str))
    have g0 : upd H a (.lst ((Txt.split z "@").map V.str)) a = some (.lst ((partsOf z).map V.str)) := upd_same
    have hne := parts_ne z
    generalize hG : upd H a (.lst ((Txt.split z "@").map V.str)) = G at s0 g0 ⊢
    have h3 : ("" : Str).length = 0 := rfl
    refine ⟨rfl, _, rfl, "", a, partsOf z, rfl, rfl, .inl (SqL.of g0), by rw [h3]; omega, Txt.join "" (partsOf z), rfl, fun D hD => ?_⟩
    generalize hJ : Txt.join "" (partsOf z) = J at hjl hjs ⊢
    refine lc_it walk_str (fun i F => Same G F ∧ F D = some (.lst ((((tl J).take i).filter fun c => !isLetter c).map fun c => V.str ⟨#[c]⟩))) ⟨same_new hD, upd_same⟩ (fun _ _ _ _ => trivial) ?_ ?_
    · rintro i x F F' hi ⟨s1, h1⟩ ⟨rfl, c, hc, rfl⟩
      have hc2 : (tl J)[i]? = some c := by
        show J.cps.toList[i]? = some c
        rw [Array.getElem?_toList]
        exact hc
      refine ⟨rfl, _, rfl, c, _, rfl, rfl, _, rfl, ?_⟩
      show if (!isLetter c) = true then _ else _
      have hlt : i < z.length := Nat.lt_of_lt_of_le hi hjl
      have et : ((tl J).take (i + 1)).filter (fun c => !isLetter c) = ((tl J).take i).filter (fun c => !isLetter c) ++ [c].filter (fun c => !isLetter c) := by rw [take_snoc hc2, List.filter_append]
      cases hL : isLetter c with
      | true =>
        refine iteF ⟨s1, ?_⟩
        rw [et, h1, show [c].filter (fun c => !isLetter c) = [] by simp [hL], List.append_nil]
      | false =>
        refine iteT ⟨_, rfl, _, h1, ?_, ?_, ?_⟩
        · rw [List.length_map]
          have w1 := List.length_filter_le (fun c => !isLetter c) ((tl J).take i)
          have w2 := List.length_take_le i (tl J)
          omega
        · intro b u hb
          rw [upd_ne (ne_of_none hb hD)]
          exact s1 _ _ hb
        · rw [et, show [c].filter (fun c => !isLetter c) = [c] by simp [hL], List.map_append]
          exact upd_same
    rintro G1 ⟨s1, h1⟩
    rw [show (tl J).take J.cps.size = tl J from List.take_of_length_le (by show J.cps.toList.length ≤ J.cps.size; rw [Array.length_toList]; exact Nat.le_refl _)] at h1
    have g1 := s1 _ _ g0
    refine ⟨_, rfl, a, rfl, ⟨_, SqL.of g1⟩, fun D2 hD2 => ?_⟩
    refine lc_list (K := K) (a := a) (xs := (partsOf z).map V.str) (fun i F => Same G1 F ∧ F D2 = some (.lst (((((partsOf z).take i).map fun p => decide (0 < p.length) && decide (p.length < 9))).map V.bl))) ⟨same_new hD2, upd_same⟩ (fun i F _ h => SqL.of (h.1 _ _ g1)) ?_ ?_
    · rintro i x F hi ⟨s2, h2⟩
      obtain ⟨y, hy, rfl⟩ : ∃ y, (partsOf z)[i]? = some y ∧ x = V.str y := by
        rw [List.getElem?_map] at hi
        cases e : (partsOf z)[i]? with
        | none =>
          rw [e] at hi
          cases hi
        | some y =>
          rw [e] at hi
          exact ⟨y, rfl, (Option.some.inj hi).symm⟩
      have hy1 := hone y (List.mem_of_getElem? hy)
      have hyi := (List.getElem?_eq_some_iff.mp hy).1
      refine ⟨rfl, ?_⟩
      dsimp only [tYes]
      rw [if_pos rfl]
      have key : ∀ b, b = (decide (0 < y.length) && decide (y.length < 9)) → ∃ acc, F D2 = some (.lst acc) ∧ acc.length < sizeLine ∧ Same G1 (upd F D2 (.lst (acc ++ [V.bl b]))) ∧ (upd F D2 (.lst (acc ++ [V.bl b]))) D2 = some (.lst (((((partsOf z).take (i + 1)).map fun p => decide (0 < p.length) && decide (p.length < 9))).map V.bl)) := by
        rintro b rfl
        refine ⟨_, h2, ?_, ?_, ?_⟩
        · rw [List.length_map, List.length_map]
          have w2 := List.length_take_le i (partsOf z)
          omega
        · intro b u hb
          rw [upd_ne (ne_of_none hb hD2)]
          exact s2 _ _ hb
        · rw [take_snoc hy, List.map_append, List.map_append]
          exact upd_same
      refine ⟨_, rfl, y, rfl, by omega, _, _, rfl, rfl, _, rfl, ?_⟩
      refine ite2 (fun c1 => ?_) fun c1 => ?_
      · refine ⟨_, _, rfl, rfl, key _ ?_⟩
        have c2 : (0 : Int) < (y.length : Int) := of_decide_eq_true c1
        rw [decide_eq_true (show 0 < y.length by omega), Bool.true_and]
        exact decide_eq_decide.mpr (by omega)
      · refine key _ ?_
        have c2 : ¬ (0 : Int) < (y.length : Int) := fun h => c1 (decide_eq_true h)
        rw [decide_eq_false (show ¬ 0 < y.length by omega), Bool.false_and]
    rintro G2 ⟨s2, h2⟩
    rw [List.length_map, List.take_length] at h2
    have hd2 := s2 _ _ h1
    have ga2 := s2 _ _ g1
    have sH := (s0.trans s1).trans s2
    refine ⟨_, rfl, Nat.zero_le _, fun e he => ?_⟩
    have se := same_new he (u := .lst [])
    unfold lawWord at q
    dsimp only at q
    rw [hJ] at q
    have hk2 : ∀ c ∈ (tl J).filter (fun c => !isLetter c), c < 256 := fun c hc => hk c (hjs c (List.mem_filter.mp hc).1)
    generalize (tl J).filter (fun c => !isLetter c) = cs at hd2 q hk2
    refine ⟨.list (cs.map fun c => PyData.str ⟨#[c]⟩), .list [], .lst (SqL.of (se _ _ hd2)) (dp_strs cs), .lst (SqL.of upd_same) .nil, shaped_strs hk2, shaped_ints [], _, rfl, ?_⟩
    have sE := sH.trans se
    cases cs with
    | cons c r =>
      refine iteT (iteT ?_)
      exact q _ sE
    | nil =>
      rw [if_neg (by simp)] at q
      refine iteF ⟨_, rfl, D2, _, rfl, .inl (SqL.of (se _ _ h2)), rfl, flat_bls _, _, rfl, ?_⟩
      rw [in_bl]
      cases c1 : (((partsOf z).map fun p => decide (0 < p.length) && decide (p.length < 9)).any fun y => y == false) with
      | true =>
        rw [c1, if_pos rfl] at q
        exact iteT (iteT (q _ sE))
      | false =>
        rw [c1, if_neg Bool.false_ne_true] at q
        have gaE := se _ _ ga2
        refine iteF ⟨_, rfl, _, (partsOf z).length, rfl, .inl ⟨_, SqL.of gaE, by rw [List.length_map]⟩, _, _, rfl, rfl, _, rfl, ?_⟩
        generalize partsOf z = ps at gaE q hpl hne ⊢
        have tail : ∀ (x : Str) (r : List Str) (G : Hp), ps = x :: r → Same H G → G a = some (.lst (ps.map V.str)) → ∀ (Q2 : VK), (∀ G2, Same G G2 → Q2 (.bl (five.any fun y => y == x)) G2) → tOp (rIn K false) (tOp (rIxL K) (tVar 1) (tC (.int 0))) (tTup (tCons (tC (.str "and")) (tCons (tC (.str "or")) (tCons (tC (.str "not")) (tCons (tC (.str "all")) (tCons (tC (.str "none")) tNil)))))) [some (.str z), some (.ref a), some (.ref D), some (.ref D2), none, none] G Q2 := by
          intro x r G hps sG gG Q2 hq
          refine ⟨_, rfl, a, _, 0, .str x, rfl, rfl, SqL.of gG, by rw [hps]; exact atI_zero, (by show 5 ≤ sizeLine; decide), fun g hg => ⟨g, five.map V.str, rfl, .inr (SqT.of upd_same), rfl, flat_strs _, ?_⟩⟩
          rw [in_val]
          exact hq _ (same_new hg)
        match ps, gaE, q, hne, tail with
        | [], gaE, q, hne, _ => exact absurd rfl hne
        | [x], gaE, q, hne, tail =>
          refine iteF (tail x [] _ rfl sE gaE _ fun G4 s4 => ⟨_, rfl, ?_⟩)
          cases c2 : five.any fun y => y == x with
          | true =>
            refine iteT ?_
            have w1 := q _ (sE.trans s4)
            dsimp only at w1
            rw [c2] at w1
            exact w1
          | false =>
            refine iteF ⟨_, rfl, _, 1, rfl, .inl ⟨_, SqL.of (s4 _ _ gaE), rfl⟩, rfl, _, rfl, ?_⟩
            rw [dec_int]
            refine iteT ?_
            have w1 := q _ (sE.trans s4)
            dsimp only at w1
            rw [c2] at w1
            exact w1
        | [x, y], gaE, q, hne, tail =>
          refine iteF (tail x [y] _ rfl sE gaE _ fun G4 s4 => ⟨_, rfl, ?_⟩)
          cases c2 : five.any fun y => y == x with
          | true =>
            refine iteT ?_
            have w1 := q _ (sE.trans s4)
            dsimp only at w1
            rw [c2] at w1
            exact w1
          | false =>
            refine iteF ⟨_, rfl, _, 2, rfl, .inl ⟨_, SqL.of (s4 _ _ gaE), rfl⟩, rfl, _, rfl, ?_⟩
            rw [dec_int]
            refine iteF ⟨_, rfl, a, _, 1, .str y, rfl, rfl, SqL.of (s4 _ _ gaE), rfl, (by show 6 ≤ sizeLine; decide), fun g hg => ⟨g, sixth.map V.str, rfl, .inr (SqT.of upd_same), rfl, flat_strs _, ?_⟩⟩
            rw [notin_val]
            have w1 := q _ ((sE.trans s4).trans (same_new hg (u := .tup (sixth.map V.str))))
            dsimp only at w1
            rw [c2, Bool.not_false, Bool.true_and] at w1
            exact w1
        | x :: y :: t :: r, gaE, q, hne, tail =>
          rw [show decide ((2 : Int) < (((x :: y :: t :: r).length : Nat) : Int)) = true from decide_eq_true (by simp only [List.length_cons]; omega)]
          exact iteT (iteT (q _ sE))
end
end Fx
set_option maxHeartbeats 2000000
namespace Fx
open PySem PySem.Spec PyProof.Rows L2 TL
def plain4 : List Str := ["and", "or", "not", ""]
def two : List Str := ["all", "none"]
def code1 (x : Str) : Str := if (plain4.any fun y => y == x) = true then x else if ((two.any fun y => y == x) || lawWord x) = true then "w" else "?"
def isBrk (c : Nat) : Bool := decide (c ∈ ("() " : Str).cps.toList)
def lstep (r : Str × Str) (c : Nat) : Str × Str := if (!isBrk c) = true then (r.1, r.2 ++ ⟨#[c]⟩) else (r.1 ++ code1 r.2 ++ ⟨#[c]⟩, "")
def lrun (l : List Nat) : Str × Str := l.foldl lstep ("", "")
def lawSigns (z : Str) : Str := cutS (lrun (tl (z ++ " "))).1 none (some (-1))
theorem lrun_snoc (l : List Nat) (c : Nat) : lrun (l ++ [c]) = lstep (lrun l) c := by
  unfold lrun
  rw [List.foldl_append] <;> rfl
theorem code1_len (x : Str) : (code1 x).length ≤ x.length := by
  unfold code1
  split
  · exact Nat.le_refl _
  · rename_i h
    have hx : 1 ≤ x.length := by
      by_cases e : x.length = 0
      · exfalso
        apply h
        have e2 : x = ("" : Str) := ext_tl (by
          have w := len_tl x
          rw [e] at w
          rw [List.eq_nil_of_length_eq_zero w.symm] <;> rfl)
        rw [e2]
        decide +kernel
      · omega
    split
    · exact hx
    · exact hx
theorem one_len (c : Nat) : ((⟨#[c]⟩ : Str)).length = 1 := rfl
theorem lstep_ok {r : Str × Str} {c n : Nat} (h : r.1.length + r.2.length ≤ n) (hk : ∀ x ∈ tl r.2, x < 256) (hc : c < 256) : (lstep r c).1.length + (lstep r c).2.length ≤ n + 1 ∧ ∀ x ∈ tl (lstep r c).2, x < 256 := by
  unfold lstep
  split
  · refine ⟨?_, fun x hx => ?_⟩
    · show r.1.length + (r.2 ++ (⟨#[c]⟩ : Str)).length ≤ n + 1
      rw [len_apS, one_len]
      omega
    · have hx : x ∈ tl (r.2 ++ (⟨#[c]⟩ : Str)) := hx
      rw [tl_append] at hx
      rcases List.mem_append.mp hx with w | w
      · exact hk x w
      · have e : x = c := List.mem_singleton.mp w
        rw [e]
        exact hc
  · refine ⟨?_, fun x hx => by cases hx⟩
    have w := code1_len r.2
    show (r.1 ++ code1 r.2 ++ (⟨#[c]⟩ : Str)).length + 0 ≤ n + 1
    rw [len_apS, len_apS, one_len]
    omega
section
variable {P : Program} {w : World} {K : PySem.W.Frag} {mg : Str → Option Value} {base : Heap} {f fW : Addr} {fd fdW : FuncData}
def spLawSigns : Sp := fun vs H Q _ => ∃ (z : Str), vs = [.str z] ∧ z.length ≤ 50000 ∧ (∀ c ∈ tl z, c < 256) ∧ ∀ G, Same H G → Q (.str (lawSigns z)) G
theorem sc_ls : FnScope ["_law_text_here", "_law_out", "_law_word", "_law_sign"] ["_law_text_here"] (defScope (tp 36)) := ⟨rfl, rfl, rfl, by decide +kernel, rfl, by decide +kernel, by decide +kernel⟩
theorem ok_lawsigns (F : FnT K "_law_signs" 36 f fd) (FW : FnT K "_law_is_word" 34 fW fdW) (gW : mg "_law_is_word" = some (.ref fW)) (GW : FnOk P w K mg base CX0 1 fW fdW ["_law_text_here"] spLawWord) : FnOk P w K mg base CX0 2 f fd ["_law_text_here"] spLawSigns := by
  have bW : L2.Binds K fdW ["_law_text_here"] [] := FW.bindsN fun _ _ _ _ _ _ us hl => match us, hl with | [_], _ => rfl
  refine F.ok sc_ls (fun vs H Q E h => ?_) (fun cdv A outer s H vs Q E hr h => ⟨_, PSs.nox (pss_cons (ps_asg (pe_tup (pa_cons pe_str (pa_cons pe_str pa_nil))) (pg_tup rfl (pgs_cons (pg_name (i := 1) sc_ls.nd rfl (Or.inl rfl)) (pgs_cons (pg_name (i := 2) sc_ls.nd rfl (Or.inl rfl)) pgs_nil))))
      (pss_cons (ps_for PassesOwn.never rfl (pi_str (pe_op op_add_str (pv 0) pe_str)) (pg_name (i := 3) sc_ls.nd rfl (Or.inl rfl)) (pss_one (ps_if (pt_cmpR op_notIn_sign (pv 3) pe_str (by rfl)) (pss_one (ps_set (i := 2) sc_ls.nd rfl (Or.inl rfl) (pe_op op_add_str (pv 2) (pv 3)))) (pss_cons (ps_if (pt_cmpR op_in_seq (pv 2) (pe_tup (pa_cons pe_str (pa_cons pe_str (pa_cons pe_str (pa_cons pe_str pa_nil))))) (by rfl)) (pss_one (ps_set (i := 1) sc_ls.nd rfl (Or.inl rfl) (pe_op op_add_str (pv 1) (pv 2)))) (pss_one (ps_set (i := 1) sc_ls.nd rfl (Or.inl rfl) (pe_op op_add_str (pv 1) (pe_ifExp (PW.pt (pw_or (pt_cmpR op_in_seq (pv 2) (pe_tup (pa_cons pe_str (pa_cons pe_str pa_nil))) (by rfl)) (pw_or1 (pt_val (pe_call GW hr rfl gW FW.kp bW .nil pass0 (pa_cons (pv 2) pa_nil)))))) pe_str pe_str)))))
      (pss_one (ps_par (i := 1) (j := 2) rfl sc_ls.nd rfl rfl (by decide) rfl rfl (pa_cons (pe_op op_add_str (pv 1) (pv 3)) (pa_cons pe_str pa_nil)) (by rfl)))))))
      (pss_one (ps_ret (pe_slice sl_str (pv 1) po_none (po_some (pe_un un_neg pe_int))))))), ?_⟩)
  · obtain ⟨z, rfl, _⟩ := h
    rfl
  · obtain ⟨z, rfl, hz, hk, q⟩ := h
    have line : (300000 : Nat) ≤ sizeLine := by decide
    have hj : (z ++ (" " : Str)).length = z.length + 1 := by rw [len_apS] <;> rfl
    have hkj : ∀ c ∈ tl (z ++ (" " : Str)), c < 256 := fun c hc => by
      rw [tl_append] at hc
      rcases List.mem_append.mp hc with w | w
      · exact hk c w
      · have e : c = 32 := List.mem_singleton.mp (show c ∈ [32] from w)
        omega
    refine ⟨(by show 2 ≤ sizeLine; decide), fun p hp => ⟨p, _, rfl, SqT.of upd_same, rfl, _, _, rfl, _, _, rfl, rfl, ?_⟩⟩
    have s0 := same_new hp (u := .tup [.str "", .str ""])
    refine ⟨_, rfl, _, _, rfl, rfl, (by rw [show (" " : Str).length = 1 from rfl]; omega), z ++ " ", rfl, ?_⟩
    unfold lawSigns at q
    generalize z ++ (" " : Str) = J at hj hkj q ⊢
    refine for_it walk_str (fun i σ F => ∃ o3, σ = [some (.str z), some (.str (lrun ((tl J).take i)).1), some (.str (lrun ((tl J).take i)).2), o3] ∧ Same H F ∧ (lrun ((tl J).take i)).1.length + (lrun ((tl J).take i)).2.length ≤ i ∧ ∀ x ∈ tl (lrun ((tl J).take i)).2, x < 256)
      ⟨none, rfl, s0, Nat.le_refl _, fun x hx => by cases hx⟩ (fun _ _ _ _ _ => trivial) ?_ ?_
    · rintro i x σ F F' hi ⟨o3, rfl, s1, h1, h2⟩ ⟨rfl, c, hc, rfl⟩
      have hc2 : (tl J)[i]? = some c := by
        show J.cps.toList[i]? = some c
        rw [Array.getElem?_toList]
        exact hc
      have hlt : i < z.length + 1 := by
        have w : J.cps.size = z.length + 1 := hj
        omega
      have ok := lstep_ok h1 h2 (hkj c (List.mem_of_getElem? hc2))
      have fin : ∀ o3' (F3 : Hp), Same H F3 → ∃ o3, [some (V.str z), some (.str (lstep (lrun ((tl J).take i)) c).1), some (.str (lstep (lrun ((tl J).take i)) c).2), o3'] = [some (V.str z), some (.str (lrun ((tl J).take (i + 1))).1), some (.str (lrun ((tl J).take (i + 1))).2), o3] ∧ Same H F3 ∧ (lrun ((tl J).take (i + 1))).1.length + (lrun ((tl J).take (i + 1))).2.length ≤ i + 1 ∧ ∀ x ∈ tl (lrun ((tl J).take (i + 1))).2, x < 256 := by
        intro o3' F3 s3
        rw [take_snoc hc2, lrun_snoc]
        exact ⟨o3', rfl, s3, ok⟩
      generalize lrun ((tl J).take i) = r at h1 h2 fin ⊢
      obtain ⟨o, wd⟩ := r
      dsimp only at h1 h2 fin ⊢
      refine ⟨_, rfl, c, _, rfl, rfl, _, rfl, ?_⟩
      show if (!isBrk c) = true then _ else _
      unfold lstep at fin
      dsimp only at fin
      cases hb : isBrk c with
      | false =>
        rw [hb, if_pos (show (!false) = true from rfl)] at fin
        refine iteT ⟨_, rfl, _, rfl, _, _, rfl, rfl, ?_, fin _ F' s1⟩
        rw [one_len]
        omega
      | true =>
        rw [hb, if_neg (show ¬ (!true) = true by decide)] at fin
        have cl := code1_len wd
        have le2 : (o ++ code1 wd).length + ((⟨#[c]⟩ : Str)).length ≤ sizeLine := by
          rw [len_apS, one_len]
          omega
        have e4 : code1 wd = if (plain4.any fun y => y == wd) = true then wd else if ((two.any fun y => y == wd) || lawWord wd) = true then "w" else "?" := rfl
        refine iteF ⟨_, rfl, (by show 4 ≤ sizeLine; decide), fun g hg => ⟨g, plain4.map V.str, rfl, .inr (SqT.of upd_same), rfl, flat_strs _, _, rfl, ?_⟩⟩
        have s2 := s1.trans (same_new hg (u := .tup (plain4.map V.str)))
        rw [in_val]
        cases c1 : plain4.any fun y => y == wd with
        | true =>
          rw [c1, if_pos rfl] at e4
          rw [e4] at fin le2
          refine iteT ⟨_, rfl, _, rfl, _, _, rfl, rfl, by omega, _, rfl, _, rfl, _, _, rfl, rfl, le2, _, _, rfl, fin _ _ s2⟩
        | false =>
          rw [c1, if_neg Bool.false_ne_true] at e4
          have lo : o.length + 1 ≤ sizeLine := by omega
          refine iteF ⟨_, rfl, _, rfl, (by show 2 ≤ sizeLine; decide), fun g2 hg2 => ⟨g2, two.map V.str, rfl, .inr (SqT.of upd_same), rfl, flat_strs _, _, rfl, ?_⟩⟩
          have s3 := s2.trans (same_new hg2 (u := .tup (two.map V.str)))
          rw [in_val]
          cases c2 : two.any fun y => y == wd with
          | true =>
            rw [c2, Bool.true_or, if_pos rfl] at e4
            rw [e4] at fin le2
            exact iteT (iteT ⟨_, _, rfl, rfl, lo, _, rfl, _, rfl, _, _, rfl, rfl, le2, _, _, rfl, fin _ _ s3⟩)
          | false =>
            rw [c2, Bool.false_or] at e4
            refine iteF ⟨_, rfl, wd, rfl, by omega, h2, fun G s4 => ⟨_, rfl, ?_⟩⟩
            cases c3 : lawWord wd with
            | true =>
              rw [c3, if_pos rfl] at e4
              rw [e4] at fin le2
              exact iteT ⟨_, _, rfl, rfl, lo, _, rfl, _, rfl, _, _, rfl, rfl, le2, _, _, rfl, fin _ _ (s3.trans s4)⟩
            | false =>
              rw [c3, if_neg Bool.false_ne_true] at e4
              rw [e4] at fin le2
              exact iteF ⟨_, _, rfl, rfl, lo, _, rfl, _, rfl, _, _, rfl, rfl, le2, _, _, rfl, fin _ _ (s3.trans s4)⟩
    · rintro σ F ⟨o3, rfl, s1, h1, h2⟩
      rw [show (tl J).take J.cps.size = tl J from List.take_of_length_le (by show J.cps.toList.length ≤ J.cps.size; rw [Array.length_toList]; exact Nat.le_refl _)] at h1 h2 ⊢
      have w : J.cps.size = z.length + 1 := hj
      exact ⟨_, rfl, _, rfl, _, rfl, _, rfl, by omega, q F s1⟩
end
end Fx
set_option maxHeartbeats 2000000
namespace Fx
open PySem PySem.Spec PyProof.Rows L2 TL
theorem cutAt_len {z o : Str} (h : 0 ≤ Txt.find z o) : (cutAt z o).length ≤ z.length + 1 := by
  unfold cutAt
  have nn : ¬ Txt.find z o < 0 := by omega
  have n2 : ¬ Txt.find z o + (o.length : Int) < 0 := by omega
  have e1 : (cutS z none (some (Txt.find z o))).length ≤ min (Txt.find z o).toNat z.length := by
    show (((z.cps.toList.drop (HT.sIx z.length 0 none)).take (HT.sIx z.length z.length (some (Txt.find z o)) - HT.sIx z.length 0 none)).toArray).size ≤ _
    rw [List.size_toArray, List.length_take, List.length_drop, Array.length_toList]
    have ez : z.cps.size = z.length := rfl
    unfold HT.sIx
    dsimp only
    rw [if_neg nn, ez]
    omega
  have e2 : (cutS z (some (Txt.find z o + o.length)) none).length ≤ z.length - min (Txt.find z o + o.length).toNat z.length := by
    show (((z.cps.toList.drop (HT.sIx z.length 0 (some (Txt.find z o + o.length)))).take (HT.sIx z.length z.length none - HT.sIx z.length 0 (some (Txt.find z o + o.length)))).toArray).size ≤ _
    rw [List.size_toArray, List.length_take, List.length_drop, Array.length_toList]
    have ez : z.cps.size = z.length := rfl
    unfold HT.sIx
    dsimp only
    rw [if_neg n2, ez]
    omega
  rw [len_apS, len_apS, show ("w" : Str).length = 1 from rfl]
  omega
theorem shrL_len (z : Str) : ∀ os : List Str, (shrL z os).length ≤ z.length + 1
  | [] => Nat.le_succ _
  | o :: os => by
    unfold shrL
    split
    · rename_i h
      exact cutAt_len (of_decide_eq_true h)
    · exact shrL_len z os
def shrN : Nat → Str → Str
  | 0, x => x
  | n + 1, x => shrunk (shrN n x)
theorem shrN_len : ∀ (n : Nat) (x : Str), (shrN n x).length ≤ x.length + n
  | 0, x => Nat.le_refl _
  | n + 1, x => by
    have h1 := shrN_len n x
    have h2 := shrL_len (shrN n x) olds
    show (shrL (shrN n x) olds).length ≤ x.length + (n + 1)
    omega
def lawFormula (z : Str) : Bool := shrN (lawSigns z).length (lawSigns z) == "w"
def lawFormulaV : V → Bool
  | .str z => lawFormula z
  | _ => false
theorem lstep_len (r : Str × Str) (c : Nat) : (lstep r c).1.length + (lstep r c).2.length ≤ r.1.length + r.2.length + 1 := by
  unfold lstep
  split
  · show r.1.length + (r.2 ++ (⟨#[c]⟩ : Str)).length ≤ _
    rw [len_apS, one_len]
    omega
  · have w := code1_len r.2
    show (r.1 ++ code1 r.2 ++ (⟨#[c]⟩ : Str)).length + 0 ≤ _
    rw [len_apS, len_apS, one_len]
    omega
theorem lrun_len : ∀ (l : List Nat) (r : Str × Str), (l.foldl lstep r).1.length + (l.foldl lstep r).2.length ≤ r.1.length + r.2.length + l.length
  | [], r => Nat.le_refl _
  | c :: l, r => by
    have h1 := lrun_len l (lstep r c)
    have h2 := lstep_len r c
    show (l.foldl lstep (lstep r c)).1.length + (l.foldl lstep (lstep r c)).2.length ≤ r.1.length + r.2.length + (l.length + 1)
    omega
theorem lawSigns_len (z : Str) : (lawSigns z).length ≤ z.length + 1 := by
  unfold lawSigns lrun
  refine Nat.le_trans (cutS_length _ _ _) ?_
  have h := lrun_len (tl (z ++ " ")) ("", "")
  have h2 : (tl (z ++ (" " : Str))).length = z.length + 1 := by
    rw [tl_append, List.length_append, ← len_tl] <;> rfl
  have h3 : (("", "") : Str × Str).1.length + (("", "") : Str × Str).2.length = 0 := rfl
  omega
section
variable {P : Program} {w : World} {K : PySem.W.Frag} {mg : Str → Option Value} {base : Heap} {f fS fH : Addr} {fd fdS fdH : FuncData}
def spLawFormula (K : PySem.W.Frag) : Sp := fun vs H Q _ => ∃ (v : V), vs = [v] ∧ Any K H v ∧ (∀ z, v = .str z → z.length ≤ 20000 ∧ ∀ c ∈ tl z, c < 256) ∧ ∀ G, Same H G → Q (.bl (lawFormulaV v)) G
theorem sc_lf : FnScope ["_law_thing", "_law_text_here", "_law_turn"] ["_law_thing"] (defScope (tp 37)) := ⟨rfl, rfl, rfl, by decide +kernel, rfl, by decide +kernel, by decide +kernel⟩
theorem ok_lawformula (F : FnT K "_law_is_formula" 37 f fd) (T : NTxt K mg) (T2 : LTxt mg) (FS : FnT K "_law_signs" 36 fS fdS) (gS : mg "_law_signs" = some (.ref fS)) (GS : FnOk P w K mg base CX0 2 fS fdS ["_law_text_here"] spLawSigns)
    (FH : FnT K "_law_shrunk" 35 fH fdH) (gH : mg "_law_shrunk" = some (.ref fH)) (GH : FnOk P w K mg base CX0 1 fH fdH ["_law_text_here"] spShrunk) : FnOk P w K mg base CX0 3 f fd ["_law_thing"] (spLawFormula K) := by
  have bS : L2.Binds K fdS ["_law_text_here"] [] := FS.bindsN fun _ _ _ _ _ _ us hl => match us, hl with | [_], _ => rfl
  have bH : L2.Binds K fdH ["_law_text_here"] [] := FH.bindsN fun _ _ _ _ _ _ us hl => match us, hl with | [_], _ => rfl
  refine F.ok sc_lf (fun vs H Q E h => ?_) (fun cdv A outer s H vs Q E hr h => ⟨_, PSs.nox (pss_cons (ps_if (pt_not (pt_val (pe_callB call_isi rfl T.isi (by decide +kernel) (pa_cons (pv 0) (pa_cons (pe_bltn (v := .ty "str") rfl T.str (by decide +kernel) rfl) pa_nil))))) (pss_one (ps_ret pe_bl)) pss_nil)
      (pss_cons (ps_set (i := 1) sc_lf.nd rfl (Or.inl rfl) (pe_call GS hr rfl gS FS.kp bS .nil pass0 (pa_cons (pv 0) pa_nil)))
      (pss_cons (ps_for PassesOwn.never rfl (pi_range1 rfl T2.range (pa_cons (pe_callB call_len rfl T2.len boot_len (pa_cons (pv 1) pa_nil)) pa_nil)) (pg_name (i := 2) sc_lf.nd rfl (Or.inl rfl)) (pss_one (ps_set (i := 1) sc_lf.nd rfl (Or.inl rfl) (pe_call GH (hr.mono (by decide)) rfl gH FH.kp bH .nil pass0 (pa_cons (pv 1) pa_nil)))))
      (pss_one (ps_ret (pe_cmpR op_eq (pv 1) pe_str (nomark _))))))), ?_⟩)
  · obtain ⟨v, rfl, _⟩ := h
    rfl
  · obtain ⟨v, rfl, ⟨t, b, ty, kb, hb, hz⟩, hk, q⟩ := h
    have line : (300000 : Nat) ≤ sizeLine := by decide
    refine ⟨_, rfl, v, .ty "str", t, .type "str", b, rfl, .ty _, ty, kb, b, rfl, ?_⟩
    cases b with
    | false =>
      have e : lawFormulaV v = false := by
        cases v with
        | str z => exact absurd (hb.mpr ⟨z, rfl⟩) Bool.false_ne_true
        | _ => rfl
      refine iteT ?_
      have w1 := q H (Same.refl H)
      rw [e] at w1
      exact w1
    | true =>
      obtain ⟨z, rfl⟩ := hb.mp rfl
      obtain ⟨hz2, hk2⟩ := hk z rfl
      have e62 : (2 : Int) ^ 62 = 4611686018427387904 := by decide
      have sl := lawSigns_len z
      refine iteF ⟨_, rfl, z, rfl, by omega, hk2, fun G s1 => ?_⟩
      have q2 : ∀ G, Same H G → Q (.bl (shrN (lawSigns z).length (lawSigns z) == "w")) G := q
      generalize lawSigns z = x at sl q2 ⊢
      refine ⟨_, rfl, _, x.length, rfl, ⟨by omega, rfl⟩, (x.length : Int), rfl, by omega, by omega, for_range (n := ((x.length : Int)).toNat)
        (fun i σ F => ∃ o2, σ = [some (.str z), some (.str (shrN i x)), o2] ∧ Same H F)
        ⟨none, rfl, s1⟩ ?_ ?_⟩
      · rintro i σ F hi ⟨o2, rfl, s2⟩
        have hl := shrN_len i x
        exact ⟨_, rfl, shrN i x, rfl, by omega, fun F2 s3 => ⟨_, rfl, s2.trans s3⟩⟩
      · rintro σ F ⟨o2, rfl, s2⟩
        have e : ((x.length : Int)).toNat = x.length := by omega
        rw [e]
        refine ⟨_, rfl, rfl, ?_⟩
        rw [dec_str]
        exact q2 F s2
end
end Fx
set_option maxHeartbeats 2000000
namespace Fx
open PySem PySem.Spec PyProof.Rows L2 TL
theorem if3 {x y z : Bool} : (if (!x) = true then false else if y = true then false else z) = (x && (!y && z)) := by
  cases x <;> cases y <;> rfl
theorem filter_all (p : Nat → Bool) : ∀ l : List Nat, (l.filter fun c => !p c).isEmpty = l.all p
  | [] => rfl
  | c :: l => by
    cases h : p c with
    | true =>
      rw [List.filter_cons_of_neg (by simp [h]), List.all_cons, h, Bool.true_and]
      exact filter_all p l
    | false =>
      rw [List.filter_cons_of_pos (by simp [h]), List.all_cons, h, Bool.false_and] <;> rfl
def size9 (p : Str) : Bool := decide (0 < p.length) && decide (p.length < 9)
theorem any_false (l : List Bool) : (l.any fun y => y == false) = !(l.all fun y => y) := by
  induction l with
  | nil => rfl
  | cons y l ih => rw [List.any_cons, List.all_cons, ih]; cases y <;> rfl
theorem lw1 {z a : Str} (h : partsOf z = [a]) : lawWord z = ((tl a).all isLetter && (size9 a && !(five.any fun y => y == a))) := by
  unfold lawWord
  rw [h]
  dsimp only
  rw [if3, filter_all, any_false, Bool.not_not, join_eq]
  show ((tl a).all isLetter && ((size9 a && true) && !(five.any fun y => y == a))) = _
  rw [Bool.and_true]
theorem lw2 {z a b : Str} (h : partsOf z = [a, b]) : lawWord z = (((tl a).all isLetter && (tl b).all isLetter) && ((size9 a && size9 b) && (!(five.any fun y => y == a) && !(sixth.any fun y => y == b)))) := by
  unfold lawWord
  rw [h]
  dsimp only
  rw [if3, filter_all, any_false, Bool.not_not, join_eq]
  have e : tl (Str.join "" [a, b]) = tl a ++ tl b := by
    rw [tl_join]
    show tl a ++ ([] ++ tl b) = _
    rw [List.nil_append]
  rw [e, List.all_append]
  show (_ && ((size9 a && (size9 b && true)) && _)) = _
  rw [Bool.and_true]
theorem lw3 {z a b c : Str} {r : List Str} (h : partsOf z = a :: b :: c :: r) : lawWord z = false := by
  unfold lawWord
  rw [h]
  dsimp only
  rw [if3, Bool.and_false, Bool.and_false]
theorem parts_none {z : Str} (h : 64 ∉ tl z) : partsOf z = [z] := by
  refine map_tl_inj ?_
  rw [parts_tl, spl_last1 (S := []) h] <;> rfl
theorem parts_cut {a b : Str} (h : 64 ∉ tl a) : partsOf (a ++ "@" ++ b) = a :: partsOf b := by
  refine map_tl_inj ?_
  rw [parts_tl, tl_append, tl_append, List.map_cons, parts_tl, List.append_assoc]
  show spl [64] 0 [] (tl a ++ ([64] ++ tl b)) = _
  rw [spl_part1 (S := []) h, List.nil_append]
theorem name_split (x : Str) : isName x = ((tl x).all isLetter && (size9 x && !(sixth.any fun y => y == x))) := by
  have e : (reserved.any fun y => y == x) = (sixth.any fun y => y == x) := by
    show ((_ == x) || _) = ((_ == x) || _)
    simp only [List.any_cons, List.any_nil, Bool.or_false]
    cases ("and" : Str) == x <;> cases ("or" : Str) == x <;> cases ("not" : Str) == x <;> cases ("all" : Str) == x <;> cases ("none" : Str) == x <;> cases ("there" : Str) == x <;> rfl
  unfold isName
  rw [e]
  have e2 : size9 x = (decide (1 ≤ x.length) && decide (x.length ≤ 8)) := by
    unfold size9
    congr 1
    exact decide_eq_decide.mpr (by omega)
  rw [e2]
  cases decide (1 ≤ x.length) <;> cases decide (x.length ≤ 8) <;> cases (tl x).all isLetter <;> cases (sixth.any fun y => y == x) <;> rfl
theorem six_five (x : Str) : (sixth.any fun y => y == x) = ((five.any fun y => y == x) || x == "there") := by
  have e : (("there" : Str) == x) = (x == "there") := by
    by_cases h : x = "there"
    · subst h; rfl
    · rw [beq_eq_false_iff_ne.mpr h, beq_eq_false_iff_ne.mpr (Ne.symm h)]
  show (_ == x || (_ == x || (_ == x || (_ == x || (_ == x || (("there" : Str) == x || false)))))) = ((_ == x || (_ == x || (_ == x || (_ == x || (_ == x || false))))) || _)
  rw [e]
  cases ("and" : Str) == x <;> cases ("or" : Str) == x <;> cases ("not" : Str) == x <;> cases ("all" : Str) == x <;> cases ("none" : Str) == x <;> cases x == ("there" : Str) <;> rfl
theorem head_split (x : Str) : (x == "there" || isName x) = ((tl x).all isLetter && (size9 x && !(five.any fun y => y == x))) := by
  rw [name_split, six_five]
  by_cases h : x = "there"
  · subst h
    decide +kernel
  · rw [beq_eq_false_iff_ne.mpr h, Bool.or_false, Bool.false_or]
/-- the law's words are the document's -/
theorem lawWord_is (z : Str) : lawWord z = isWord z := by
  have ey : tl ("@" : Str) = 64 :: [] := by decide +kernel
  by_cases h : 64 ∈ tl z
  · obtain ⟨a, b, e, ha⟩ := List.eq_append_cons_of_mem h
    have ez : z = (⟨a.toArray⟩ : Str) ++ ("@" : Str) ++ (⟨b.toArray⟩ : Str) := ext_tl (by
      rw [tl_append, tl_append, ey, e, List.append_assoc] <;> rfl)
    have ha2 : 64 ∉ tl (⟨a.toArray⟩ : Str) := ha
    generalize (⟨a.toArray⟩ : Str) = x at ez ha2
    generalize (⟨b.toArray⟩ : Str) = y at ez
    subst ez
    have ew : isWord (x ++ "@" ++ y) = ((x == "there" || isName x) && (("@" : Str) == "" || isName y)) := by
      unfold isWord
      rw [partition_app ey ha2]
    rw [ew, show (("@" : Str) == "") = false by decide +kernel, Bool.false_or]
    by_cases h2 : 64 ∈ tl y
    · have e1 : isName y = false := by
        rw [name_split]
        have e2 : (tl y).all isLetter = false := by
          rw [List.all_eq_false]
          exact ⟨64, h2, by decide +kernel⟩
        rw [e2, Bool.false_and]
      rw [e1, Bool.and_false]
      have hp := parts_cut (b := y) ha2
      obtain ⟨a2, b2, e2, ha3⟩ := List.eq_append_cons_of_mem h2
      have ey2 : y = (⟨a2.toArray⟩ : Str) ++ ("@" : Str) ++ (⟨b2.toArray⟩ : Str) := ext_tl (by
        rw [tl_append, tl_append, ey, e2, List.append_assoc] <;> rfl)
      have hy : partsOf y = (⟨a2.toArray⟩ : Str) :: partsOf (⟨b2.toArray⟩ : Str) := by
        rw [ey2]
        exact parts_cut (show 64 ∉ tl (⟨a2.toArray⟩ : Str) from ha3)
      rw [hy] at hp
      cases q : partsOf (⟨b2.toArray⟩ : Str) with
      | nil => exact absurd q (parts_ne _)
      | cons c r =>
        rw [q] at hp
        exact lw3 hp
    · have hp := parts_cut (b := y) ha2
      rw [parts_none h2] at hp
      rw [lw2 hp, head_split, name_split]
      cases (tl x).all isLetter <;> cases (tl y).all isLetter <;> cases size9 x <;> cases size9 y <;> cases (five.any fun q => q == x) <;> cases (sixth.any fun q => q == y) <;> rfl
  · have ew : isWord z = ((z == "there" || isName z) && ((Str.empty : Str) == "" || isName Str.empty)) := by
      unfold isWord
      rw [partition_none ey h]
    rw [ew, lw1 (parts_none h), head_split, show ((Str.empty : Str) == "") = true by decide +kernel, Bool.true_or, Bool.and_true]
end Fx
set_option maxHeartbeats 2000000
namespace Fx
open PySem PySem.Spec PyProof.Rows L2 TL
def capQ : Nat → Nat
  | 0 => 15
  | d + 1 => 3 * (capQ d + 7) + 2
theorem capQ_ge (d : Nat) : 15 ≤ capQ d := by
  cases d with
  | zero => exact Nat.le_refl _
  | succ d => show 15 ≤ 3 * (capQ d + 7) + 2; omega
theorem six_len {z : Str} (h : z ∈ sixWords) : z.length ≤ 13 := by
  have : ∀ z ∈ sixWords, z.length ≤ 13 := by decide +kernel
  exact this z h
theorem lenR_le {B : Nat} : ∀ {ts : List LT}, (∀ t ∈ ts, lenQ t ≤ B) → lenR ts ≤ ts.length * (B + 7)
  | [], _ => Nat.zero_le _
  | t :: ts, h => by
    have h1 := h t (List.mem_cons_self ..)
    have h2 := lenR_le (B := B) (ts := ts) fun x hx => h x (List.mem_cons_of_mem _ hx)
    show lenQ t + 7 + lenR ts ≤ (ts.length + 1) * (B + 7)
    rw [Nat.add_mul]
    omega
theorem lenQ_cap : ∀ (d : Nat) (t : LT), LtOk sixWords d t → lenQ t ≤ capQ d := by
  intro d
  induction d with
  | zero =>
    intro t h
    cases t with
    | word z =>
      have w := six_len (show z ∈ sixWords from h)
      show z.length + 2 ≤ 15
      omega
    | cst b => show 6 ≤ 15; omega
    | neg t => exact False.elim h
    | nary k ts => exact False.elim h
  | succ d ih =>
    intro t h
    have g := capQ_ge d
    cases t with
    | word z =>
      have w := six_len (show z ∈ sixWords from h)
      show z.length + 2 ≤ 3 * (capQ d + 7) + 2
      omega
    | cst b => show 6 ≤ 3 * (capQ d + 7) + 2; omega
    | neg t =>
      have w := ih t h
      show lenQ t + 8 ≤ 3 * (capQ d + 7) + 2
      omega
    | nary k ts =>
      obtain ⟨h1, h2⟩ := (show (ts.length = 2 ∨ ts.length = 3) ∧ ∀ t ∈ ts, LtOk sixWords d t from h)
      have w := lenR_le (B := capQ d) (ts := ts) fun t ht => ih t (h2 t ht)
      have w2 : ts.length * (capQ d + 7) ≤ 3 * (capQ d + 7) := Nat.mul_le_mul_right _ (by omega)
      show lenR ts + 2 ≤ 3 * (capQ d + 7) + 2
      omega
def Asc (s : Str) : Prop := ∀ c ∈ tl s, c < 256
theorem Asc.app {a b : Str} (ha : Asc a) (hb : Asc b) : Asc (a ++ b) := fun c hc => by
  rw [tl_append] at hc
  rcases List.mem_append.mp hc with w | w
  · exact ha c w
  · exact hb c w
theorem asc_lit {s : Str} (h : (tl s).all (· < 256) = true) : Asc s := fun c hc => by
  have := List.all_eq_true.mp h c hc
  exact of_decide_eq_true this
theorem Asc.join {y : Str} (hy : Asc y) : ∀ {ps : List Str}, (∀ p ∈ ps, Asc p) → Asc (Str.join y ps)
  | [], _ => fun c hc => by cases hc
  | [x], h => h x (List.mem_singleton.mpr rfl)
  | x :: z :: r, h => ((h x (List.mem_cons_self ..)).app hy).app (Asc.join hy fun p hp => h p (List.mem_cons_of_mem _ hp))
theorem asc_paren {s : Str} {P : Str → Prop} (hP : ∀ c, P c → Asc c) (h : paren s P) : Asc s := by
  rcases h with h | ⟨c, h, e⟩
  · exact hP s h
  · rw [e]
    exact ((asc_lit (by decide +kernel)).app (hP c h)).app (asc_lit (by decide +kernel))
theorem asc_wrapN {t : LT} {u : Str} (h : Asc u) : Asc (wrapN t u) := by
  unfold wrapN
  split
  · exact ((asc_lit (by decide +kernel)).app h).app (asc_lit (by decide +kernel))
  · exact (asc_lit (by decide +kernel)).app h
theorem asc_wrapK {k : Bool} {t : LT} {u : Str} (h : Asc u) : Asc (wrapK k t u) := by
  unfold wrapK
  split
  · exact ((asc_lit (by decide +kernel)).app h).app (asc_lit (by decide +kernel))
  · exact h
theorem asc_cores {k : Bool} : ∀ {ts : List LT} {us : List Str}, (∀ t ∈ ts, ∀ s, Core t s → Asc s) → Cores k ts us → ∀ u ∈ us, Asc u
  | [], us, _, h, u, hu => by
    have e : us = [] := h
    rw [e] at hu
    cases hu
  | t :: ts, us, hc, ⟨x, r, e, h1, h2⟩, u, hu => by
    rw [e] at hu
    rcases List.mem_cons.mp hu with w | w
    · rw [w]
      exact asc_wrapK (asc_paren (hc t (List.mem_cons_self ..)) h1)
    · exact asc_cores (fun q hq => hc q (List.mem_cons_of_mem _ hq)) h2 u w
theorem asc_core : ∀ (d : Nat) (t : LT) (s : Str), LtOk sixWords d t → Core t s → Asc s := by
  have six : ∀ z ∈ sixWords, (tl z).all (· < 256) = true := by decide +kernel
  intro d
  induction d with
  | zero =>
    intro t s h hc
    cases t with
    | word z =>
      have e : s = z := hc
      rw [e]
      exact asc_lit (six z h)
    | cst b =>
      have e : s = cstOf b := hc
      rw [e]
      exact asc_lit (by cases b <;> decide +kernel)
    | neg t => exact False.elim h
    | nary k ts => exact False.elim h
  | succ d ih =>
    intro t s h hc
    cases t with
    | word z =>
      have e : s = z := hc
      rw [e]
      exact asc_lit (six z h)
    | cst b =>
      have e : s = cstOf b := hc
      rw [e]
      exact asc_lit (by cases b <;> decide +kernel)
    | neg t =>
      obtain ⟨u, hu, e⟩ := hc
      rw [e]
      exact asc_wrapN (asc_paren (fun c => ih t c h) hu)
    | nary k ts =>
      obtain ⟨us, hu, e⟩ := hc
      obtain ⟨h1, h2⟩ := (show (ts.length = 2 ∨ ts.length = 3) ∧ ∀ t ∈ ts, LtOk sixWords d t from h)
      rw [e]
      exact Asc.join (asc_lit (by cases k <;> decide +kernel)) (asc_cores (fun t ht s => ih t s (h2 t ht)) hu)
theorem loose_ok {t : LT} {s : Str} (h : LtOk sixWords 3 t) (hs : Loose t s) : s.length ≤ 704 ∧ Asc s := by
  refine ⟨?_, asc_paren (fun c => asc_core 3 t c h) hs⟩
  have w := lenQ_cap 3 t h
  have w2 : capQ 3 = 704 := by decide
  have w3 := looseL hs
  omega
end Fx
set_option maxHeartbeats 2000000
namespace Fx
open PySem PySem.Spec PyProof.Rows L2 TL

/-! ### a text's signs, put together from its parts -/
def mS (l : List Nat) : Str := ⟨l.toArray⟩
theorem tl_mkS (l : List Nat) : tl (mS l) = l := rfl
theorem mkS_tl (z : Str) : mS (tl z) = z := mk_tl z
abbrev rp (n : Nat) (c : Nat) : List Nat := List.replicate n c
abbrev rs (n : Nat) (s : Str) : List Str := List.replicate n s
theorem lp_has (x : Nat) : (("(" : Str).cps.contains x) = (x == 40) := by
  show (#[40] : Array Nat).contains x = _
  by_cases h : x = 40 <;> simp [h]
theorem rp_has (x : Nat) : ((")" : Str).cps.contains x) = (x == 41) := by
  show (#[41] : Array Nat).contains x = _
  by_cases h : x = 41 <;> simp [h]
theorem drop_take {α : Type} (p : α → Bool) : ∀ l : List α, l.drop (l.takeWhile p).length = l.dropWhile p
  | [] => rfl
  | a :: r => by
    cases h : p a with
    | true =>
      rw [List.takeWhile_cons, List.dropWhile_cons, h]
      show r.drop (r.takeWhile p).length = _
      exact drop_take p r
    | false =>
      rw [List.takeWhile_cons, List.dropWhile_cons, h]
      rfl
theorem tl_behind (p : Str) : tl (behindOf p) = (tl p).dropWhile fun x => x == 40 := by
  have e : (("(" : Str).cps.contains) = fun x => x == 40 := funext lp_has
  unfold behindOf Txt.lstripChars Txt.stripBy
  rw [e]
  unfold stripSame stripped stripHi stripLo
  rw [if_pos rfl, if_neg Bool.false_ne_true]
  split
  · rename_i h
    have h2 := (Bool.and_eq_true _ _).mp h
    have h3 : ((tl p).takeWhile fun x => x == 40).length = 0 := by simpa using h2.1
    rw [← drop_take, h3, List.drop_zero]
  · rw [tl_strSub_end, drop_take]
theorem tl_core (p : Str) : tl (coreOf p) = (((tl (behindOf p)).reverse.dropWhile fun x => x == 41)).reverse := by
  have e : ((")" : Str).cps.contains) = fun x => x == 41 := funext rp_has
  unfold coreOf Txt.rstripChars Txt.stripBy
  rw [e]
  generalize behindOf p = q
  unfold stripSame stripped stripHi stripLo
  rw [if_neg Bool.false_ne_true, if_pos rfl, List.drop_zero]
  have lq : q.length = (tl q).length := len_tl q
  have key : (((tl q).reverse.dropWhile fun x => x == 41)).reverse = (tl q).take (q.length - (((tl q).reverse).takeWhile fun x => x == 41).length) := by
    rw [← drop_take, List.reverse_drop, List.reverse_reverse, List.length_reverse, lq]
  split
  · rename_i h
    have h2 := (Bool.and_eq_true _ _).mp h
    have h3 : q.length - (((tl q).reverse).takeWhile fun x => x == 41).length = q.length := by
      have := h2.2
      simpa using this
    rw [key, h3, lq, List.take_length]
  · rw [tl_strSub, List.drop_zero, key, Nat.sub_zero]
theorem dropW_rep (a : Nat) (r : List Nat) (h : r.head? ≠ some a) : ∀ n : Nat, (rp n a ++ r).dropWhile (fun x => x == a) = r
  | 0 => by
    show (([] : List Nat) ++ r).dropWhile _ = r
    rw [List.nil_append]
    cases r with
    | nil => rfl
    | cons b r =>
      have h2 : (b == a) = false := beq_eq_false_iff_ne.mpr fun e => h (by rw [e] <;> rfl)
      rw [List.dropWhile_cons, h2]
      rfl
  | n + 1 => by
    show ((a :: rp n a) ++ r).dropWhile _ = r
    rw [List.cons_append, List.dropWhile_cons, beq_self_eq_true]
    exact dropW_rep a r h n
/-- a piece: brackets, what stands between them, brackets -/
theorem piece_at {p : Str} {n m : Nat} {c : List Nat} (e : tl p = rp n 40 ++ c ++ rp m 41) (h1 : c.head? ≠ some 40) (h2 : c.getLast? ≠ some 41) :
    coreOf p = mS c ∧ openOf p = n ∧ shutOf p = m := by
  have b : tl (behindOf p) = c ++ rp m 41 := by
    rw [tl_behind, e, List.append_assoc]
    refine dropW_rep 40 _ ?_ n
    cases c with
    | nil =>
      cases m with
      | zero => simp
      | succ m => simp [List.replicate_succ]
    | cons x c => exact h1
  have k : tl (coreOf p) = c := by
    rw [tl_core, b, List.reverse_append, List.reverse_replicate, dropW_rep 41 c.reverse (by rw [List.head?_reverse]; exact h2) m, List.reverse_reverse]
  have lp : p.length = n + c.length + m := by
    rw [len_tl, e]
    simp only [List.length_append, List.length_replicate]
  have lb : (behindOf p).length = c.length + m := by
    rw [len_tl, b]
    simp
  have lc : (coreOf p).length = c.length := by rw [len_tl, k]
  refine ⟨ext_tl k, ?_, ?_⟩
  · unfold openOf
    omega
  · unfold shutOf
    omega
theorem step_at {st : PSt} {p : Str} {n m : Nat} {c : List Nat} (e : tl p = rp n 40 ++ c ++ rp m 41) (h1 : c.head? ≠ some 40) (h2 : c.getLast? ≠ some 41) (hd : 0 ≤ st.depth + n - m) (hc : canStand (mS c) n m st.wanted = true) :
    stepP st p = some ⟨st.signs ++ (rs n "(" ++ [mS c] ++ rs m ")"), st.depth + n - m, isOper (mS c)⟩ := by
  obtain ⟨k1, k2, k3⟩ := piece_at e h1 h2
  unfold stepP signsP
  rw [k1, k2, k3, hc]
  have nn : ¬ st.depth + (n : Int) - (m : Int) < 0 := by omega
  rw [decide_eq_false nn]
  rfl
/-! ### pieces -/
def pcs (l : List Nat) : List Str := (spl [32] 0 [] l).map mS
theorem split_pcs (z : Str) : Txt.split z " " = pcs (tl z) := by
  refine map_tl_inj ?_
  rw [split_spl z " " (by decide +kernel) (kind_ok (by decide +kernel))]
  show spl [32] 0 [] (tl z) = ((spl [32] 0 [] (tl z)).map mS).map tl
  rw [List.map_map]
  exact (List.map_id _).symm
theorem spl_app : ∀ (x acc y : List Nat), spl [32] 0 acc (x ++ 32 :: y) = spl [32] 0 acc x ++ spl [32] 0 [] y
  | [], acc, y => by
    rw [List.nil_append, spl_hit (by rfl), spl_nil]
    rfl
  | c :: x, acc, y => by
    by_cases h : c = 32
    · subst h
      rw [List.cons_append, spl_hit (by rfl), spl_hit (by rfl)]
      show acc :: spl [32] 0 [] (x ++ 32 :: y) = _
      rw [spl_app x [] y]
      rfl
    · have h1 : ∀ r : List Nat, pre [32] (c :: r) = false := fun r => pre_of_head [] r h
      rw [List.cons_append, spl_miss (h1 _), spl_miss (h1 _)]
      exact spl_app x _ y
theorem pcs_app (x y : List Nat) : pcs (x ++ 32 :: y) = pcs x ++ pcs y := by
  unfold pcs
  rw [spl_app, List.map_append]
theorem pcs_one {x : List Nat} (h : 32 ∉ x) : pcs x = [mS x] := by
  unfold pcs
  rw [spl_last1 (S := []) h]
  rfl
/-! ### texts and their signs -/
structure Tok (s : List Nat) (l : List Str) : Prop where
  run : ∀ (a b : Nat) (g : List Str) (d : Int), 0 ≤ d + a - b → runP (some ⟨g, d, true⟩) (pcs (rp a 40 ++ s ++ rp b 41)) = some ⟨g ++ (rs a "(" ++ l ++ rs b ")"), d + a - b, false⟩
  ne : l ≠ []
  wl : wt l ≤ 7 * s.length
  ok : ∀ x ∈ l, PyData.strOk x = true
theorem wt_app (a b : List Str) : wt (a ++ b) = wt a + wt b := by
  unfold wt
  rw [List.map_append, List.sum_append]
theorem wt_cons (a : Str) (b : List Str) : wt (a :: b) = a.length + 6 + wt b := rfl
/-- what may stand as a word -/
structure LeafOk (z : Str) : Prop where
  op : isOper z = false
  word : (isConst z || isWord z) = true
  sp : 32 ∉ tl z
  lp : 40 ∉ tl z
  rp : 41 ∉ tl z
  len : 1 ≤ z.length
  ok : PyData.strOk z = true
theorem not_oper {z : Str} (h : isOper z = false) : (z == ("not" : Str)) = false ∧ (operators.any fun y => y == z) = false := by
  refine ⟨?_, h⟩
  cases q : z == ("not" : Str) with
  | false => rfl
  | true =>
    rw [beq_iff_eq.mp q] at h
    exact absurd h (by decide +kernel)
theorem no_sp {n m : Nat} {c : List Nat} (h : 32 ∉ c) : 32 ∉ rp n 40 ++ c ++ rp m 41 := by
  intro w
  rcases List.mem_append.mp w with w | w
  · rcases List.mem_append.mp w with w | w
    · exact absurd (List.eq_of_mem_replicate w) (by decide)
    · exact h w
  · exact absurd (List.eq_of_mem_replicate w) (by decide)
theorem Tok.leaf {z : Str} (h : LeafOk z) : Tok (tl z) [z] where
  run a b g d hd := by
    rw [pcs_one (no_sp h.sp)]
    show runP (stepP _ _) [] = _
    obtain ⟨n1, n2⟩ := not_oper h.op
    rw [step_at (n := a) (m := b) (c := tl z) rfl (fun e => h.lp (List.mem_of_mem_head? e)) (fun e => h.rp (List.mem_of_getLast? e)) hd (by
      unfold canStand
      rw [mkS_tl, n1, n2, if_neg Bool.false_ne_true, if_neg Bool.false_ne_true]
      show (true && (isConst z || isWord z)) = true
      rw [h.word] <;> rfl)]
    rw [mkS_tl, h.op]
    rfl
  ne := by simp
  wl := by
    have := h.len
    rw [← len_tl]
    show z.length + 6 + 0 ≤ _
    omega
  ok x hx := by
    rw [List.mem_singleton.mp hx]
    exact h.ok
theorem rep_l {α : Type} (n : Nat) (c : α) (r : List α) : List.replicate n c ++ c :: r = List.replicate (n + 1) c ++ r := by
  rw [List.replicate_succ', List.append_assoc] <;> rfl
theorem Tok.wrap {s : List Nat} {l : List Str} (h : Tok s l) : Tok (40 :: (s ++ [41])) (("(" : Str) :: (l ++ [(")" : Str)])) where
  run a b g d hd := by
    have e1 : rp a 40 ++ (40 :: (s ++ [41])) ++ rp b 41 = rp (a + 1) 40 ++ s ++ rp (b + 1) 41 := by
      rw [rep_l, List.append_assoc, List.append_assoc, List.append_assoc]
      rfl
    have e2 : rs a ("(" : Str) ++ (("(" : Str) :: (l ++ [(")" : Str)])) ++ rs b (")" : Str) = rs (a + 1) ("(" : Str) ++ l ++ rs (b + 1) (")" : Str) := by
      rw [rep_l, List.append_assoc, List.append_assoc, List.append_assoc]
      rfl
    rw [e1, e2, h.run (a + 1) (b + 1) g d (by omega)]
    have e3 : d + ((a + 1 : Nat) : Int) - ((b + 1 : Nat) : Int) = d + a - b := by omega
    rw [e3]
  ne := by simp
  wl := by
    have := h.wl
    rw [wt_cons, wt_app, List.length_cons, List.length_append]
    show 1 + 6 + (wt l + (1 + 6 + 0)) ≤ 7 * (s.length + 1 + 1)
    omega
  ok x hx := by
    rcases List.mem_cons.mp hx with e | hx
    · rw [e]; decide +kernel
    · rcases List.mem_append.mp hx with hx | hx
      · exact h.ok x hx
      · rw [List.mem_singleton.mp hx]; decide +kernel
theorem Tok.neg {s : List Nat} {l : List Str} (h : Tok s l) : Tok (110 :: 111 :: 116 :: 32 :: s) ("not" :: l) where
  run a b g d hd := by
    have e1 : rp a 40 ++ (110 :: 111 :: 116 :: 32 :: s) ++ rp b 41 = (rp a 40 ++ [110, 111, 116] ++ rp 0 41) ++ 32 :: (rp 0 40 ++ s ++ rp b 41) := by
      simp
    rw [e1, pcs_app, pcs_one (no_sp (by decide)), runP_app]
    show runP (runP (stepP _ _) []) _ = _
    rw [step_at (n := a) (m := 0) (c := [110, 111, 116]) rfl (by decide) (by decide) (by show 0 ≤ d + (a : Int) - ((0 : Nat) : Int); omega) (by
      show canStand ("not" : Str) _ _ true = true
      rfl)]
    have e2 : isOper (mS [110, 111, 116]) = true := by decide +kernel
    rw [e2]
    show runP (some ⟨g ++ (rs a ("(" : Str) ++ [mS [110, 111, 116]] ++ rs 0 (")" : Str)), d + (a : Int) - ((0 : Nat) : Int), true⟩) _ = _
    rw [h.run 0 b _ _ (by omega)]
    have e3 : d + (a : Int) - ((0 : Nat) : Int) + ((0 : Nat) : Int) - (b : Int) = d + a - b := by omega
    rw [e3]
    have e4 : mS [110, 111, 116] = ("not" : Str) := by decide +kernel
    rw [e4]
    simp
  ne := by simp
  wl := by
    have := h.wl
    rw [wt_cons]
    show 3 + 6 + wt l ≤ 7 * (s.length + 1 + 1 + 1 + 1)
    omega
  ok x hx := by
    rcases List.mem_cons.mp hx with e | hx
    · rw [e]; decide +kernel
    · exact h.ok x hx
theorem Tok.bin {s t : List Nat} {l r : List Str} (k : Bool) (h : Tok s l) (h2 : Tok t r) : Tok (s ++ 32 :: (tl (kindOf k) ++ 32 :: t)) (l ++ kindOf k :: r) where
  run a b g d hd := by
    have e1 : rp a 40 ++ (s ++ 32 :: (tl (kindOf k) ++ 32 :: t)) ++ rp b 41 = (rp a 40 ++ s ++ rp 0 41) ++ 32 :: ((rp 0 40 ++ tl (kindOf k) ++ rp 0 41) ++ 32 :: (rp 0 40 ++ t ++ rp b 41)) := by
      simp
    have k1 : 32 ∉ tl (kindOf k) := by cases k <;> decide +kernel
    have k2 : (tl (kindOf k)).head? ≠ some 40 := by cases k <;> decide +kernel
    have k3 : (tl (kindOf k)).getLast? ≠ some 41 := by cases k <;> decide +kernel
    have k4 : isOper (kindOf k) = true := by cases k <;> decide +kernel
    have k5 : canStand (kindOf k) ((0 : Nat) : Int) ((0 : Nat) : Int) false = true := by cases k <;> decide +kernel
    rw [e1, pcs_app, pcs_app, pcs_one (no_sp k1), runP_app, h.run a 0 g d (by omega)]
    show runP (stepP _ _) _ = _
    rw [step_at (n := 0) (m := 0) (c := tl (kindOf k)) rfl k2 k3 (by show 0 ≤ d + (a : Int) - ((0 : Nat) : Int) + ((0 : Nat) : Int) - ((0 : Nat) : Int); omega) (by
      rw [mkS_tl]
      exact k5), mkS_tl, k4]
    show runP (some ⟨_, d + (a : Int) - ((0 : Nat) : Int) + ((0 : Nat) : Int) - ((0 : Nat) : Int), true⟩) (pcs (rp 0 40 ++ t ++ rp b 41)) = _
    rw [h2.run 0 b _ _ (by omega)]
    have e3 : d + (a : Int) - ((0 : Nat) : Int) + ((0 : Nat) : Int) - ((0 : Nat) : Int) + ((0 : Nat) : Int) - (b : Int) = d + a - b := by omega
    rw [e3]
    simp
  ne := by simp
  wl := by
    have := h.wl
    have := h2.wl
    have k1 : (tl (kindOf k)).length = (kindOf k).length := (len_tl _).symm
    have k2 : 2 ≤ (kindOf k).length := by cases k <;> decide +kernel
    rw [wt_app, wt_cons, List.length_append, List.length_cons, List.length_append, List.length_cons]
    omega
  ok x hx := by
    rcases List.mem_append.mp hx with hx | hx
    · exact h.ok x hx
    · rcases List.mem_cons.mp hx with e | hx
      · rw [e]; cases k <;> decide +kernel
      · exact h2.ok x hx
theorem Tok.signs {s : Str} {l : List Str} (h : Tok (tl s) l) : signsOf s = l := by
  have w := h.run 0 0 [] 0 (by omega)
  have e : rp 0 40 ++ tl s ++ rp 0 41 = tl s := by simp
  unfold signsOf
  rw [split_pcs, ← e]
  show (match runP (some ⟨[], 0, true⟩) _ with | none => [] | some st => _) = _
  rw [w]
  dsimp only
  simp
end Fx
set_option maxHeartbeats 2000000
namespace Fx
open PySem PySem.Spec PyProof.Rows L2 TL

/-! ### signs and their code -/
theorem popGe_all (k : Int) : ∀ (y w : List Str), (∀ s ∈ y, k ≤ rank s) → (∀ x r, w = x :: r → rank x < k) → popGe k (y ++ w) = (y, w)
  | [], w, _, h => by
    cases w with
    | nil => rfl
    | cons x r =>
      have h2 := h x r rfl
      have n : ¬ k ≤ rank x := by omega
      show (if decide (k ≤ rank x) then _ else _) = _
      rw [decide_eq_false n]
      rfl
  | s :: y, w, hy, h => by
    have h2 := hy s List.mem_cons_self
    show (if decide (k ≤ rank s) then (s :: (popGe k (y ++ w)).1, (popGe k (y ++ w)).2) else ([], s :: (y ++ w))) = _
    rw [decide_eq_true h2, if_pos rfl, popGe_all k y w (fun x hx => hy x (List.mem_cons_of_mem _ hx)) h]
theorem popTo_all : ∀ (y w : List Str), (∀ s ∈ y, s ≠ ("(" : Str)) → popTo (y ++ ("(" : Str) :: w) = (y, ("(" : Str) :: w)
  | [], w, _ => by
    show popTo (("(" : Str) :: w) = _
    rfl
  | s :: y, w, hy => by
    have h2 : (s == ("(" : Str)) = false := beq_eq_false_iff_ne.mpr (hy s List.mem_cons_self)
    show (if s == ("(" : Str) then ([], s :: (y ++ ("(" : Str) :: w)) else (s :: (popTo (y ++ ("(" : Str) :: w)).1, (popTo (y ++ ("(" : Str) :: w)).2)) = _
    rw [h2, if_neg Bool.false_ne_true, popTo_all y w fun x hx => hy x (List.mem_cons_of_mem _ hx)]
/-- from any stack that binds less closely, these signs give the code of f -/
structure Cd (k : Int) (l : List Str) (f : Fm) : Prop where
  run : ∀ (c w : List Str), (k ≤ 2 → ∀ x r, w = x :: r → rank x < k) → ∃ x y, l.foldl stepC (c, w) = (c ++ x, y ++ w) ∧ x ++ y = post f ∧ ∀ s ∈ y, s ≠ ("(" : Str) ∧ k ≤ rank s
  wl : wt (post f) ≤ wt l
  sub : ∀ s ∈ post f, s ∈ l
theorem Cd.weak {k j : Int} {l : List Str} {f : Fm} (h : Cd k l f) (e : j ≤ k) : Cd j l f where
  run c w hw := by
    obtain ⟨x, y, h1, h2, h3⟩ := h.run c w fun e2 a r q => by
      have := hw (by omega) a r q
      omega
    exact ⟨x, y, h1, h2, fun s hs => ⟨(h3 s hs).1, by have := (h3 s hs).2; omega⟩⟩
  wl := h.wl
  sub := h.sub
theorem Cd.leaf {z : Str} (h : LeafOk z) (k : Int) : Cd k [z] (.leaf z) where
  run c w _ := by
    refine ⟨[z], [], ?_, rfl, fun s hs => by cases hs⟩
    obtain ⟨n1, n2⟩ := not_oper h.op
    have n3 : (z == ("(" : Str)) = false := beq_eq_false_iff_ne.mpr fun e => h.lp (by rw [e]; decide +kernel)
    have n4 : (z == (")" : Str)) = false := beq_eq_false_iff_ne.mpr fun e => h.rp (by rw [e]; decide +kernel)
    show stepC (c, w) z = _
    unfold stepC
    rw [n1, n3, n4, n2]
    rfl
  wl := Nat.le_refl _
  sub s hs := hs
theorem Cd.brk {l : List Str} {f : Fm} (h : Cd 1 l f) (k : Int) : Cd k (("(" : Str) :: (l ++ [(")" : Str)])) f where
  run c w _ := by
    obtain ⟨x, y, h1, h2, h3⟩ := h.run c ("(" :: w) fun _ a r q => by
      cases q
      decide +kernel
    refine ⟨x ++ y, [], ?_, by rw [List.append_nil]; exact h2, fun s hs => by cases hs⟩
    rw [List.foldl_cons, List.foldl_append]
    have e1 : stepC (c, w) ("(" : Str) = (c, ("(" : Str) :: w) := rfl
    rw [e1, h1]
    show stepC (c ++ x, y ++ ("(" : Str) :: w) (")" : Str) = _
    have e2 : stepC (c ++ x, y ++ ("(" : Str) :: w) (")" : Str) = (c ++ x ++ (popTo (y ++ ("(" : Str) :: w)).1, (popTo (y ++ ("(" : Str) :: w)).2.tail) := rfl
    rw [e2, popTo_all y w fun s hs => (h3 s hs).1, List.append_assoc]
    rfl
  wl := by
    have := h.wl
    rw [wt_cons, wt_app]
    omega
  sub s hs := List.mem_cons_of_mem _ (List.mem_append_left _ (h.sub s hs))
theorem Cd.neg {l : List Str} {f : Fm} (h : Cd 3 l f) : Cd 3 ("not" :: l) (.neg f) where
  run c w _ := by
    obtain ⟨x, y, h1, h2, h3⟩ := h.run c ("not" :: w) fun e => absurd e (by decide)
    refine ⟨x, y ++ [("not" : Str)], ?_, ?_, ?_⟩
    · rw [List.foldl_cons]
      have e1 : stepC (c, w) ("not" : Str) = (c, ("not" : Str) :: w) := rfl
      rw [e1, h1, List.append_assoc]
      rfl
    · rw [← List.append_assoc, h2]
      rfl
    · intro s hs
      rcases List.mem_append.mp hs with hs | hs
      · exact h3 s hs
      · rw [List.mem_singleton.mp hs]
        exact ⟨by decide +kernel, by decide +kernel⟩
  wl := by
    have := h.wl
    show wt (post f ++ [("not" : Str)]) ≤ _
    rw [wt_cons, wt_app, wt_cons]
    show wt (post f) + (("not" : Str).length + 6 + 0) ≤ _
    omega
  sub s hs := by
    rcases List.mem_append.mp hs with hs | hs
    · exact List.mem_cons_of_mem _ (h.sub s hs)
    · rw [List.mem_singleton.mp hs]
      exact List.mem_cons_self
def rk (k : Bool) : Int := if k then 2 else 1
theorem rank_kind (k : Bool) : rank (kindOf k) = rk k := by cases k <;> decide +kernel
theorem rk_pos (k : Bool) : 1 ≤ rk k ∧ rk k ≤ 2 := by cases k <;> decide
theorem Cd.bin {k : Bool} {l r : List Str} {f g : Fm} (h : Cd (rk k) l f) (h2 : Cd (rk k + 1) r g) : Cd (rk k) (l ++ kindOf k :: r) (.bin (kindOf k) f g) where
  run c w hw := by
    have kp := rk_pos k
    obtain ⟨x, y, a1, a2, a3⟩ := h.run c w hw
    obtain ⟨x2, y2, b1, b2, b3⟩ := h2.run (c ++ x ++ y) (kindOf k :: w) fun _ a r q => by
      cases q
      rw [rank_kind]
      omega
    refine ⟨x ++ y ++ x2, y2 ++ [kindOf k], ?_, ?_, ?_⟩
    · rw [List.foldl_append, List.foldl_cons, a1]
      have e : stepC (c ++ x, y ++ w) (kindOf k) = (c ++ x ++ (popGe (rk k) (y ++ w)).1, kindOf k :: (popGe (rk k) (y ++ w)).2) := by
        rw [← rank_kind]
        cases k <;> rfl
      rw [e, popGe_all (rk k) y w (fun s hs => (a3 s hs).2) (hw kp.2), b1]
      simp
    · show _ = post f ++ post g ++ [kindOf k]
      rw [← a2, ← b2]
      simp
    · intro s hs
      rcases List.mem_append.mp hs with hs | hs
      · exact ⟨(b3 s hs).1, by have := (b3 s hs).2; omega⟩
      · rw [List.mem_singleton.mp hs, rank_kind]
        exact ⟨by cases k <;> decide +kernel, Int.le_refl _⟩
  wl := by
    have := h.wl
    have := h2.wl
    show wt (post f ++ post g ++ [kindOf k]) ≤ _
    rw [wt_app, wt_app, wt_app, wt_cons, wt_cons]
    show wt (post f) + wt (post g) + ((kindOf k).length + 6 + 0) ≤ _
    omega
  sub s hs := by
    rcases List.mem_append.mp hs with hs | hs
    · rcases List.mem_append.mp hs with hs | hs
      · exact List.mem_append_left _ (h.sub s hs)
      · exact List.mem_append_right _ (List.mem_cons_of_mem _ (h2.sub s hs))
    · rw [List.mem_singleton.mp hs]
      exact List.mem_append_right _ List.mem_cons_self
theorem Cd.code {l : List Str} {f : Fm} (h : Cd 1 l f) : codeOf l = post f := by
  obtain ⟨x, y, h1, h2, _⟩ := h.run [] [] fun _ a r q => by cases q
  unfold codeOf runC
  rw [h1, List.nil_append, List.append_nil]
  exact h2
/-- items with and or or between them -/
def Chain (k : Bool) : List Str → List Fm → Prop
  | _, [] => False
  | l, [f] => Cd (rk k + 1) l f
  | l, f :: g :: fs => ∃ a r, l = a ++ kindOf k :: r ∧ Cd (rk k + 1) a f ∧ Chain k r (g :: fs)
def foldB (k : Bool) : List Fm → Fm
  | [] => .leaf ""
  | f :: fs => fs.foldl (fun a b => .bin (kindOf k) a b) f
theorem chain_from (k : Bool) : ∀ (fs : List Fm) (a r : List Str) (g : Fm), Cd (rk k) a g → Chain k r fs → Cd (rk k) (a ++ kindOf k :: r) (fs.foldl (fun a b => .bin (kindOf k) a b) g)
  | [], _, _, _, _, h => h.elim
  | [f], a, r, g, hg, h => Cd.bin hg h
  | f :: f2 :: fs, a, r, g, hg, h => by
    obtain ⟨a2, r2, e, h1, h2⟩ := h
    have w := chain_from k (f2 :: fs) (a ++ kindOf k :: a2) r2 (.bin (kindOf k) g f) (Cd.bin hg h1) h2
    rw [e]
    have e2 : a ++ kindOf k :: (a2 ++ kindOf k :: r2) = (a ++ kindOf k :: a2) ++ kindOf k :: r2 := by simp
    rw [e2]
    exact w
theorem chain_cd (k : Bool) : ∀ (fs : List Fm) (l : List Str), Chain k l fs → Cd (rk k) l (foldB k fs)
  | [], _, h => h.elim
  | [f], l, h => Cd.weak h (by omega)
  | f :: g :: fs, l, h => by
    obtain ⟨a, r, e, h1, h2⟩ := h
    rw [e]
    exact chain_from k (g :: fs) a r f (Cd.weak h1 (by omega)) h2
theorem chain_app (k : Bool) : ∀ (fs gs : List Fm) (a b : List Str), Chain k a fs → Chain k b gs → Chain k (a ++ kindOf k :: b) (fs ++ gs)
  | [], _, _, _, h, _ => h.elim
  | [f], [], _, _, _, h => h.elim
  | [f], g :: gs, a, b, h, h2 => ⟨a, b, rfl, h, h2⟩
  | f :: g :: fs, gs, a, b, h, h2 => by
    obtain ⟨a2, r, e, h1, h3⟩ := h
    refine ⟨a2, r ++ kindOf k :: b, by rw [e]; simp, h1, ?_⟩
    exact chain_app k (g :: fs) gs r b h3 h2
end Fx
set_option maxHeartbeats 2000000
namespace Fx
open PySem PySem.Spec PyProof.Rows L2 TL

/-! ### a formula means what a tree means -/
def lvs : Fm → List Str
  | .leaf s => if isConst s then [] else [s]
  | .neg t => lvs t
  | .bin _ a b => lvs a ++ lvs b
def prt (k : Bool) : Fm → List Str
  | .leaf s => [brk (trT (.leaf s)) (rk k)]
  | .neg t => [brk (trT (.neg t)) (rk k)]
  | .bin s a b => if s == kindOf k then prt k a ++ prt k b else [brk (trT (.bin s a b)) (rk k)]
def rkT : LT → Int
  | .word _ => 4
  | .cst _ => 4
  | .neg _ => 3
  | .nary k _ => rk k
def evB (p : Str → Bool) (f : Fm) : Int := evalT (fun s => b2 (p s)) 1 f
def partT (k : Bool) (n : Nat) (t : LT) : Str := clo (kindsOf k) t (txtN n t)
def sepK (k : Bool) : Str := " " ++ kindOf k ++ " "
structure Rel (t : LT) (f : Fm) : Prop where
  wf : WF f
  rk : (trT f).2 = rkT t
  txt : ∀ n, depT t ≤ n → (trT f).1 = txtN n t
  prt : ∀ k n, depL (flat1 k t) ≤ n → prt k f = (flat1 k t).map (partT k n)
  lv : lvs f = leavT t
  ev : ∀ p, evB p f = b2 (ltT p t)
theorem tl_emp : tl Str.empty = [] := rfl
theorem emp_app (x : Str) : Str.empty ++ x = x := ext_tl (by rw [tl_append, tl_emp]; rfl)
theorem app_asc (x y z : Str) : x ++ y ++ z = x ++ (y ++ z) := ext_tl (by rw [tl_append, tl_append, tl_append, tl_append, List.append_assoc])
theorem brk_hi {x : Str × Int} {k : Int} (h : k ≤ x.2) : brk x k = x.1 := by
  unfold brk
  rw [decide_eq_false (by omega)]
  rfl
theorem brk_lo {x : Str × Int} {k : Int} (h : x.2 < k) : brk x k = "(" ++ x.1 ++ ")" := by
  unfold brk
  rw [decide_eq_true h, if_pos rfl, emp_app]
theorem clo_no {ks : List Str} {t : LT} {s : Str} (h : (ks.any fun y => y == headOf t) = false) : clo ks t s = s := by
  unfold clo
  rw [h]
  rfl
theorem clo_yes {ks : List Str} {t : LT} {s : Str} (h : (ks.any fun y => y == headOf t) = true) : clo ks t s = "(" ++ s ++ ")" := by
  unfold clo
  rw [h]
  rfl
theorem head_word (z : Str) (k : Bool) : ((kindsOf k).any fun y => y == headOf (.word z)) = false := (by decide +kernel : ∀ k : Bool, ((kindsOf k).any fun y => y == ("word" : Str)) = false) k
theorem head_cst (b k : Bool) : ((kindsOf k).any fun y => y == headOf (.cst b)) = false := by cases k <;> cases b <;> decide +kernel
theorem head_neg (t : LT) (k : Bool) : ((kindsOf k).any fun y => y == headOf (.neg t)) = false := (by decide +kernel : ∀ k : Bool, ((kindsOf k).any fun y => y == ("not" : Str)) = false) k
theorem head_nary (j : Bool) (ts : List LT) (k : Bool) : ((kindsOf k).any fun y => y == headOf (.nary j ts)) = (k && !j) := (by decide +kernel : ∀ j k : Bool, ((kindsOf k).any fun y => y == kindOf j) = (k && !j)) j k
theorem brk_part {t : LT} {f : Fm} {n : Nat} (k : Bool) (hr : (trT f).2 = rkT t) (ht : (trT f).1 = txtN n t) : brk (trT f) (rk k) = partT k n t := by
  have kp := rk_pos k
  unfold partT
  cases t with
  | word z =>
    have e : (trT f).2 = 4 := hr
    rw [brk_hi (by omega), clo_no (head_word z k), ht]
  | cst b =>
    have e : (trT f).2 = 4 := hr
    rw [brk_hi (by omega), clo_no (head_cst b k), ht]
  | neg t =>
    have e : (trT f).2 = 3 := hr
    rw [brk_hi (by omega), clo_no (head_neg t k), ht]
  | nary j ts =>
    have e : (trT f).2 = rk j := hr
    cases hk : k && !j with
    | false =>
      have w : rk k ≤ rk j := by cases k <;> cases j <;> first | decide | cases hk
      rw [brk_hi (by omega), clo_no ((head_nary j ts k).trans hk), ht]
    | true =>
      have w : rk j < rk k := by cases k <;> cases j <;> first | decide | cases hk
      rw [brk_lo (by omega), clo_yes ((head_nary j ts k).trans hk), ht]
theorem prt_bin (k : Bool) (a b : Fm) : prt k (.bin (kindOf k) a b) = prt k a ++ prt k b := by
  show (if kindOf k == kindOf k then _ else _) = _
  rw [beq_self_eq_true]
  rfl
theorem prt_ne (k : Bool) : ∀ f : Fm, prt k f ≠ []
  | .leaf s => by simp [prt]
  | .neg t => by simp [prt]
  | .bin s a b => by
    show (if s == kindOf k then prt k a ++ prt k b else _) ≠ []
    split
    · exact fun e => prt_ne k a (List.append_eq_nil_iff.mp e).1
    · simp
theorem join_cons (y x : Str) {b : List Str} (hb : b ≠ []) : Str.join y (x :: b) = x ++ y ++ Str.join y b := by
  cases b with
  | nil => exact absurd rfl hb
  | cons z r => rfl
theorem join_app (y : Str) : ∀ (a b : List Str), a ≠ [] → b ≠ [] → Str.join y (a ++ b) = Str.join y a ++ y ++ Str.join y b
  | [], _, h, _ => absurd rfl h
  | [x], b, _, hb => join_cons y x hb
  | x :: z :: a, b, _, hb => by
    have ih := join_app y (z :: a) b (by simp) hb
    rw [List.cons_append, join_cons y x (by simp), ih, join_cons y x (by simp)]
    simp only [app_asc]
theorem prt_join (k : Bool) : ∀ f : Fm, Str.join (sepK k) (prt k f) = brk (trT f) (rk k)
  | .leaf s => rfl
  | .neg t => rfl
  | .bin s a b => by
    show Str.join (sepK k) (if s == kindOf k then prt k a ++ prt k b else [brk (trT (.bin s a b)) (rk k)]) = _
    cases h : s == kindOf k with
    | false => rfl
    | true =>
      have e := beq_iff_eq.mp h
      subst e
      rw [if_pos rfl, join_app _ _ _ (prt_ne k a) (prt_ne k b), prt_join k a, prt_join k b]
      rw [brk_hi (x := trT (.bin (kindOf k) a b)) (by show rk k ≤ rank (kindOf k); rw [rank_kind]; exact Int.le_refl _)]
      show _ = Str.empty ++ brk (trT a) (rank (kindOf k)) ++ (" " : Str) ++ (Str.empty ++ kindOf k ++ (" " : Str) ++ brk (trT b) (rank (kindOf k)))
      rw [rank_kind, emp_app, emp_app]
      unfold sepK
      simp only [app_asc]
/-- a tree that is no chain of its own -/
theorem rel_prt {t : LT} {f : Fm} (hr : (trT f).2 = rkT t) (ht : ∀ n, depT t ≤ n → (trT f).1 = txtN n t) (k : Bool) (n : Nat) (h1 : prt k f = [brk (trT f) (rk k)]) (h2 : flat1 k t = [t]) (hn : depL (flat1 k t) ≤ n) : prt k f = (flat1 k t).map (partT k n) := by
  rw [h2] at hn ⊢
  rw [h1, brk_part k hr (ht n (Nat.le_trans (Nat.le_max_left _ _) hn))]
  rfl
theorem Rel.word {z : Str} (ho : isOper z = false) (hc : isConst z = false) : Rel (.word z) (.leaf z) where
  wf := ho
  rk := rfl
  txt n _ := by cases n <;> rfl
  prt k n hn := rel_prt (t := .word z) (f := .leaf z) rfl (fun n _ => by cases n <;> rfl) k n rfl rfl hn
  lv := by
    show (if isConst z then [] else [z]) = _
    rw [hc]
    rfl
  ev p := by
    show (if isConst z then _ else _) = _
    rw [hc]
    rfl
theorem cst_oper (b : Bool) : isOper (cstOf b) = false := by cases b <;> decide +kernel
theorem cst_const (b : Bool) : isConst (cstOf b) = true := by cases b <;> decide +kernel
theorem Rel.cst (b : Bool) : Rel (.cst b) (.leaf (cstOf b)) where
  wf := cst_oper b
  rk := rfl
  txt n _ := by cases n <;> rfl
  prt k n hn := rel_prt (t := .cst b) (f := .leaf (cstOf b)) rfl (fun n _ => by cases n <;> rfl) k n rfl rfl hn
  lv := by
    show (if isConst (cstOf b) then [] else [cstOf b]) = _
    rw [cst_const]
    rfl
  ev p := by
    show (if isConst (cstOf b) then (if cstOf b == "all" then (1 : Int) else 0) else _) = _
    rw [cst_const, if_pos rfl]
    exact (by decide +kernel : ∀ b : Bool, (if cstOf b == "all" then (1 : Int) else 0) = b2 b) b
theorem neg_txt {t : LT} {f : Fm} (h : Rel t f) (n : Nat) (hn : depT (.neg t) ≤ n) : (trT (.neg f)).1 = txtN n (.neg t) := by
  cases n with
  | zero => exact absurd hn (Nat.not_succ_le_zero _)
  | succ n =>
    have hn2 : depT t ≤ n := Nat.le_of_succ_le_succ hn
    have ht := h.txt n hn2
    have hr := h.rk
    show Str.empty ++ ("not" : Str) ++ (" " : Str) ++ brk (trT f) 3 = ("not " : Str) ++ clo ["and", "or"] t (txtN n t)
    have e : ∀ x : Str, Str.empty ++ ("not" : Str) ++ (" " : Str) ++ x = ("not " : Str) ++ x := fun x => by
      rw [emp_app]
      congr 1
    rw [e]
    congr 1
    cases t with
    | word z =>
      have e : (trT f).2 = 4 := hr
      rw [brk_hi (by omega), clo_no (by show (([("and" : Str), "or"] : List Str).any fun y => y == ("word" : Str)) = false; decide +kernel), ht]
    | cst b =>
      have e : (trT f).2 = 4 := hr
      rw [brk_hi (by omega), clo_no (by cases b <;> (show (([("and" : Str), "or"] : List Str).any fun y => y == (cstOf _ : Str)) = false; decide +kernel)), ht]
    | neg t =>
      have e : (trT f).2 = 3 := hr
      rw [brk_hi (by omega), clo_no (by show (([("and" : Str), "or"] : List Str).any fun y => y == ("not" : Str)) = false; decide +kernel), ht]
    | nary j ts =>
      have e : (trT f).2 = Fx.rk j := hr
      have kp := rk_pos j
      rw [brk_lo (by omega), clo_yes (by cases j <;> (show (([("and" : Str), "or"] : List Str).any fun y => y == (kindOf _ : Str)) = true; decide +kernel)), ht]
theorem Rel.neg {t : LT} {f : Fm} (h : Rel t f) : Rel (.neg t) (.neg f) where
  wf := h.wf
  rk := rfl
  txt := neg_txt h
  prt k n hn := rel_prt (t := .neg t) (f := .neg f) rfl (neg_txt h) k n rfl rfl hn
  lv := h.lv
  ev p := by
    have e := h.ev p
    show Builtin.bitXor 1 (evB p f) = b2 (!ltT p t)
    rw [e]
    cases ltT p t <;> decide +kernel
/-! ### chains -/
def foldK (k : Bool) (bs : List Bool) : Bool := if k then !(bs.any fun b => b == false) else bs.any fun b => b == true
theorem foldK_cons (k b : Bool) (bs : List Bool) : foldK k (b :: bs) = if k then b && foldK k bs else b || foldK k bs := by
  cases k
  · show ((b == true) || (bs.any fun b => b == true)) = _
    cases b <;> rfl
  · show (!((b == false) || (bs.any fun b => b == false))) = _
    cases b <;> rfl
theorem foldK_app (k : Bool) : ∀ (a b : List Bool), foldK k (a ++ b) = if k then foldK k a && foldK k b else foldK k a || foldK k b
  | [], b => by cases k <;> rfl
  | x :: a, b => by
    rw [List.cons_append, foldK_cons, foldK_app k a b, foldK_cons]
    cases k
    · show (x || (foldK false a || foldK false b)) = ((x || foldK false a) || foldK false b)
      rw [Bool.or_assoc]
    · show (x && (foldK true a && foldK true b)) = ((x && foldK true a) && foldK true b)
      rw [Bool.and_assoc]
structure RelL (k : Bool) (qs : List LT) (lvv : List Str) (val : (Str → Bool) → Bool) (fs : List Fm) : Prop where
  wf : ∀ f ∈ fs, WF f
  prt : ∀ n, depL qs ≤ n → (fs.map (prt k)).flatten = qs.map (partT k n)
  lv : (fs.map lvs).flatten = lvv
  ev : ∀ p, ∃ bs : List Bool, fs.map (evB p) = bs.map b2 ∧ foldK k bs = val p
/-- the items of one part -/
def PartOk (k : Bool) (t : LT) (gs : List Fm) : Prop := RelL k (flat1 k t) (leavT t) (fun p => ltT p t) gs
def PartsOk (k : Bool) (ts : List LT) (fs : List Fm) : Prop := RelL k (flatL k ts) (leavL ts) (fun p => foldK k (ltL p ts)) fs
theorem part_one {k : Bool} {t : LT} {f : Fm} (h : Rel t f) : PartOk k t [f] where
  wf g hg := by
    rw [List.mem_singleton.mp hg]
    exact h.wf
  prt n hn := by
    rw [← h.prt k n hn]
    simp
  lv := by
    rw [← h.lv]
    simp
  ev p := ⟨[ltT p t], by rw [List.map_cons, h.ev p]; rfl, by rw [foldK_cons]; cases k <;> cases ltT p t <;> rfl⟩
theorem lt_nary (p : Str → Bool) (k : Bool) (ts : List LT) : ltT p (.nary k ts) = foldK k (ltL p ts) := by cases k <;> rfl
theorem flat_nary (k : Bool) (ts : List LT) : flat1 k (.nary k ts) = flatL k ts := by
  show (if k = k then flatL k ts else _) = _
  rw [if_pos rfl]
theorem flat_other {j k : Bool} (h : j ≠ k) (ts : List LT) : flat1 k (.nary j ts) = [.nary j ts] := by
  show (if j = k then _ else _) = _
  rw [if_neg h]
theorem part_chain {k : Bool} {ts : List LT} {fs : List Fm} (h : PartsOk k ts fs) : PartOk k (.nary k ts) fs where
  wf := h.wf
  prt n hn := by
    rw [flat_nary] at hn ⊢
    exact h.prt n hn
  lv := h.lv
  ev p := by
    obtain ⟨bs, h1, h2⟩ := h.ev p
    exact ⟨bs, h1, h2.trans (lt_nary p k ts).symm⟩
theorem parts_nil (k : Bool) : PartsOk k [] [] where
  wf g hg := by cases hg
  prt n _ := rfl
  lv := rfl
  ev p := ⟨[], rfl, rfl⟩
theorem parts_cons {k : Bool} {t : LT} {ts : List LT} {gs fs : List Fm} (h : PartOk k t gs) (h2 : PartsOk k ts fs) : PartsOk k (t :: ts) (gs ++ fs) where
  wf g hg := by
    rcases List.mem_append.mp hg with hg | hg
    · exact h.wf g hg
    · exact h2.wf g hg
  prt n hn := by
    have e : flatL k (t :: ts) = flat1 k t ++ flatL k ts := rfl
    rw [e, depL_app] at hn
    rw [e, List.map_append, List.map_append, List.flatten_append, h.prt n (Nat.le_trans (Nat.le_max_left _ _) hn), h2.prt n (Nat.le_trans (Nat.le_max_right _ _) hn)]
  lv := by
    rw [List.map_append, List.flatten_append, h.lv, h2.lv]
    rfl
  ev p := by
    obtain ⟨bs, a1, a2⟩ := h.ev p
    obtain ⟨cs, b1, c2⟩ := h2.ev p
    refine ⟨bs ++ cs, by rw [List.map_append, List.map_append, a1, b1], ?_⟩
    have e : ltL p (t :: ts) = ltT p t :: ltL p ts := rfl
    rw [foldK_app, a2, c2]
    show _ = foldK k (ltL p (t :: ts))
    rw [e, foldK_cons]
theorem fold_wf (k : Bool) : ∀ (fs : List Fm) (g : Fm), WF g → (∀ f ∈ fs, WF f) → WF (fs.foldl (fun a b => .bin (kindOf k) a b) g)
  | [], g, hg, _ => hg
  | f :: fs, g, hg, h => fold_wf k fs (.bin (kindOf k) g f) ⟨by cases k <;> first | exact .inl rfl | exact .inr rfl, hg, h f List.mem_cons_self⟩ fun x hx => h x (List.mem_cons_of_mem _ hx)
theorem fold_prt (k : Bool) : ∀ (fs : List Fm) (g : Fm), prt k (fs.foldl (fun a b => .bin (kindOf k) a b) g) = prt k g ++ (fs.map (prt k)).flatten
  | [], g => by simp
  | f :: fs, g => by
    have w := fold_prt k fs (.bin (kindOf k) g f)
    rw [prt_bin] at w
    rw [List.foldl_cons, w, List.map_cons, List.flatten_cons, List.append_assoc]
theorem fold_lvs (k : Bool) : ∀ (fs : List Fm) (g : Fm), lvs (fs.foldl (fun a b => .bin (kindOf k) a b) g) = lvs g ++ (fs.map lvs).flatten
  | [], g => by simp
  | f :: fs, g => by
    have w := fold_lvs k fs (.bin (kindOf k) g f)
    rw [List.foldl_cons, w, List.map_cons, List.flatten_cons]
    show lvs g ++ lvs f ++ _ = _
    rw [List.append_assoc]
theorem ev_bin (p : Str → Bool) (k : Bool) {g f : Fm} {x y : Bool} (hg : evB p g = b2 x) (hf : evB p f = b2 y) : evB p (.bin (kindOf k) g f) = b2 (if k then x && y else x || y) := by
  cases k
  · show Builtin.bitOr (evB p f) (evB p g) = b2 (x || y)
    rw [hg, hf]
    cases x <;> cases y <;> decide +kernel
  · show Builtin.bitAnd (evB p f) (evB p g) = b2 (x && y)
    rw [hg, hf]
    cases x <;> cases y <;> decide +kernel
theorem fold_ev (p : Str → Bool) (k : Bool) : ∀ (fs : List Fm) (bs : List Bool) (g : Fm) (x : Bool), evB p g = b2 x → fs.map (evB p) = bs.map b2 → evB p (fs.foldl (fun a b => .bin (kindOf k) a b) g) = b2 (foldK k (x :: bs))
  | [], bs, g, x, hg, h => by
    cases bs with
    | nil =>
      rw [foldK_cons, List.foldl_nil, hg]
      cases k <;> cases x <;> rfl
    | cons b bs => simp at h
  | f :: fs, bs, g, x, hg, h => by
    cases bs with
    | nil => simp at h
    | cons b bs =>
      rw [List.map_cons, List.map_cons] at h
      injection h with h1 h2
      have w := fold_ev p k fs bs (.bin (kindOf k) g f) _ (ev_bin p k hg h1) h2
      rw [List.foldl_cons, w, foldK_cons, foldK_cons, foldK_cons]
      cases k <;> cases x <;> cases b <;> rfl
theorem fold_rank (k : Bool) : ∀ (fs : List Fm) (g : Fm), (trT g).2 = rk k → (trT (fs.foldl (fun a b => .bin (kindOf k) a b) g)).2 = rk k
  | [], g, hg => hg
  | f :: fs, g, hg => fold_rank k fs (.bin (kindOf k) g f) (rank_kind k)
theorem fold_oprt {j k : Bool} (h : j ≠ k) : ∀ (fs : List Fm) (s : Fm) (g : Fm), prt k (fs.foldl (fun a b => .bin (kindOf j) a b) (.bin (kindOf j) s g)) = [brk (trT (fs.foldl (fun a b => .bin (kindOf j) a b) (.bin (kindOf j) s g))) (rk k)]
  | [], s, g => by
    have e : (kindOf j == kindOf k) = false := by cases j <;> cases k <;> first | decide +kernel | exact absurd rfl h
    show (if kindOf j == kindOf k then _ else _) = _
    rw [e]
    rfl
  | f :: fs, s, g => fold_oprt h fs (.bin (kindOf j) s g) f
theorem Rel.nary {k : Bool} {ts : List LT} {fs : List Fm} (h : PartsOk k ts fs) (h2 : 2 ≤ fs.length) : Rel (.nary k ts) (foldB k fs) := by
  match fs, h2, h with
  | f :: g :: fs, _, h =>
    have hr : (trT (foldB k (f :: g :: fs))).2 = Fx.rk k := fold_rank k fs (.bin (kindOf k) f g) (rank_kind k)
    have hp : Fx.prt k (foldB k (f :: g :: fs)) = ((f :: g :: fs).map (Fx.prt k)).flatten := by
      show Fx.prt k ((g :: fs).foldl (fun a b => .bin (kindOf k) a b) f) = _
      rw [fold_prt]
      rfl
    have htx : ∀ n, depT (.nary k ts) ≤ n → (trT (foldB k (f :: g :: fs))).1 = txtN n (.nary k ts) := by
      intro n hn
      cases n with
      | zero => exact absurd hn (Nat.not_succ_le_zero _)
      | succ n =>
        have hn2 : depL (flatL k ts) ≤ n := Nat.le_trans (dep_flatL k ts) (Nat.le_of_succ_le_succ hn)
        have w := prt_join k (foldB k (f :: g :: fs))
        rw [brk_hi (by rw [hr]; exact Int.le_refl _), hp, h.prt n hn2] at w
        exact w.symm
    refine ⟨?_, hr, htx, ?_, ?_, ?_⟩
    · exact fold_wf k (g :: fs) f (h.wf f List.mem_cons_self) fun x hx => h.wf x (List.mem_cons_of_mem _ hx)
    · intro j n hn
      by_cases e : k = j
      · subst e
        rw [hp, flat_nary]
        rw [flat_nary] at hn
        exact h.prt n hn
      · exact rel_prt (t := .nary k ts) hr htx j n (fold_oprt e fs f g) (flat_other e ts) hn
    · have w := fold_lvs k (g :: fs) f
      have e := h.lv
      show lvs ((g :: fs).foldl (fun a b => .bin (kindOf k) a b) f) = leavL ts
      rw [w, ← e]
      rfl
    · intro p
      obtain ⟨bs, a1, a2⟩ := h.ev p
      cases bs with
      | nil => simp at a1
      | cons b bs =>
        rw [List.map_cons, List.map_cons (f := b2)] at a1
        injection a1 with b1 b3
        have w := fold_ev p k (g :: fs) bs f b b1 b3
        rw [lt_nary]
        exact w.trans (congrArg b2 a2)
end Fx
set_option maxHeartbeats 2000000
namespace Fx
open PySem PySem.Spec PyProof.Rows L2 TL

/-! ### the texts of a tree are read as formulas that mean the same -/
/-- what the text of one part gives -/
def Read (t : LT) (s : Str) : Prop := ∃ l f, Tok (tl s) l ∧ Cd 1 l f ∧ Rel t f ∧
  (Cd 3 l f ∨ ∃ k ts fs, t = .nary k ts ∧ Chain k l fs ∧ PartOk k t fs ∧ Cd (rk k) l f)
theorem tl_brk (s : Str) : tl (("(" : Str) ++ s ++ (")" : Str)) = 40 :: (tl s ++ [41]) := by
  rw [tl_append, tl_append]
  rfl
theorem Read.wrap {t : LT} {s : Str} (h : Read t s) : ∃ l f, Tok (tl (("(" : Str) ++ s ++ (")" : Str))) l ∧ Cd 3 l f ∧ Rel t f := by
  obtain ⟨l, f, h1, h2, h3, _⟩ := h
  exact ⟨_, f, by rw [tl_brk]; exact h1.wrap, h2.brk 3, h3⟩
theorem read_paren {t : LT} {P : Str → Prop} (h : ∀ c, P c → Read t c) {s : Str} (hs : paren s P) : Read t s := by
  rcases hs with hs | ⟨c, hc, e⟩
  · exact h s hs
  · obtain ⟨l, f, h1, h2, h3⟩ := (h c hc).wrap
    rw [e]
    exact ⟨l, f, h1, h2.weak (by decide), h3, .inl h2⟩
theorem read_part (k : Bool) {t : LT} {u : Str} (h : Read t u) : ∃ l gs, Tok (tl (wrapK k t u)) l ∧ Chain k l gs ∧ PartOk k t gs ∧ 1 ≤ gs.length := by
  have kp := rk_pos k
  unfold wrapK
  split
  · obtain ⟨l, f, h1, h2, h3⟩ := h.wrap
    exact ⟨l, [f], h1, h2.weak (by omega), part_one h3, Nat.le_refl _⟩
  · rename_i hw
    obtain ⟨l, f, h1, h2, h3, h4 | ⟨j, ts, fs, e, h5, h6, h7⟩⟩ := h
    · exact ⟨l, [f], h1, h4.weak (by omega), part_one h3, Nat.le_refl _⟩
    · by_cases q : j = k
      · subst q
        refine ⟨l, fs, h1, h5, h6, ?_⟩
        cases fs with
        | nil => exact h5.elim
        | cons a b => simp
      · subst e
        have w : rk k + 1 ≤ rk j := by
          cases j
          · cases k
            · exact absurd rfl q
            · exact absurd (show ((kindOf false == "or") && true) = true by decide +kernel) hw
          · cases k
            · decide
            · exact absurd rfl q
        exact ⟨l, [f], h1, h7.weak w, part_one h3, Nat.le_refl _⟩
theorem tl_sep (k : Bool) : tl (sepK k) = 32 :: (tl (kindOf k) ++ [32]) := by
  unfold sepK
  rw [tl_append, tl_append]
  rfl
theorem read_parts (k : Bool) : ∀ (ts : List LT) (us : List Str), (∀ t ∈ ts, ∀ u, paren u (Core t) → Read t u) → ts ≠ [] → Cores k ts us →
    ∃ l fs, Tok (tl (Str.join (sepK k) us)) l ∧ Chain k l fs ∧ PartsOk k ts fs ∧ ts.length ≤ fs.length
  | [], _, _, h, _ => absurd rfl h
  | [t], us, h, _, hc => by
    obtain ⟨u, r, e, h1, h2⟩ := hc
    have e2 : r = [] := h2
    subst e2
    subst e
    obtain ⟨l, gs, a1, a2, a3, a4⟩ := read_part k (h t List.mem_cons_self u h1)
    have w := parts_cons a3 (parts_nil k)
    rw [List.append_nil] at w
    exact ⟨l, gs, a1, a2, w, a4⟩
  | t :: t2 :: ts, us, h, _, hc => by
    obtain ⟨u, r, e, h1, h2⟩ := hc
    obtain ⟨l, gs, a1, a2, a3, a4⟩ := read_part k (h t List.mem_cons_self u h1)
    obtain ⟨l2, fs, b1, b2, b3, b4⟩ := read_parts k (t2 :: ts) r (fun x hx => h x (List.mem_cons_of_mem _ hx)) (by simp) h2
    have rne : r ≠ [] := by
      obtain ⟨u2, r2, e2, _⟩ := h2
      rw [e2]
      simp
    subst e
    refine ⟨l ++ kindOf k :: l2, gs ++ fs, ?_, chain_app k gs fs l l2 a2 b2, parts_cons a3 b3, ?_⟩
    · have w := Tok.bin k a1 b1
      have e2 : tl (Str.join (sepK k) (wrapK k t u :: r)) = tl (wrapK k t u) ++ 32 :: (tl (kindOf k) ++ 32 :: tl (Str.join (sepK k) r)) := by
        rw [join_cons _ _ rne, tl_append, tl_append, tl_sep]
        simp
      rw [e2]
      exact w
    · rw [List.length_append]
      simp only [List.length_cons] at b4 ⊢
      omega
theorem tl_not (s : Str) : tl (("not " : Str) ++ s) = 110 :: 111 :: 116 :: 32 :: tl s := by
  rw [tl_append]
  rfl
theorem read_neg {t : LT} {u : Str} (h : Read t u) : Read (.neg t) (wrapN t u) := by
  unfold wrapN
  split
  · obtain ⟨l, f, h1, h2, h3⟩ := h.wrap
    have w := h2.neg
    refine ⟨_, .neg f, ?_, w.weak (by decide), h3.neg, .inl w⟩
    have e : ("not (" : Str) ++ u ++ (")" : Str) = ("not " : Str) ++ (("(" : Str) ++ u ++ (")" : Str)) := by
      have e0 : ("not (" : Str) = ("not " : Str) ++ ("(" : Str) := by decide +kernel
      rw [e0]
      simp only [app_asc]
    rw [e, tl_not]
    exact h1.neg
  · rename_i hw
    obtain ⟨l, f, h1, h2, h3, h4 | ⟨j, ts, fs, e, h5, h6, h7⟩⟩ := h
    · have w := h4.neg
      exact ⟨_, .neg f, by rw [tl_not]; exact h1.neg, w.weak (by decide), h3.neg, .inl w⟩
    · subst e
      exfalso
      refine hw ?_
      show (([("and" : Str), "or"] : List Str).any fun y => y == kindOf j) = true
      cases j <;> decide +kernel
theorem leaf_cst (b : Bool) : LeafOk (cstOf b) := by
  cases b
  · exact ⟨by decide +kernel, by decide +kernel, by decide +kernel, by decide +kernel, by decide +kernel, by decide +kernel, by decide +kernel⟩
  · exact ⟨by decide +kernel, by decide +kernel, by decide +kernel, by decide +kernel, by decide +kernel, by decide +kernel, by decide +kernel⟩
theorem read_core {ws : List Str} (hws : ∀ z ∈ ws, LeafOk z ∧ isConst z = false) : ∀ (d : Nat) (t : LT), LtOk ws d t → ∀ s, Core t s → Read t s := by
  have lw : ∀ z ∈ ws, ∀ s, Core (.word z) s → Read (.word z) s := by
    intro z hz s e
    have e2 : s = z := e
    subst e2
    obtain ⟨h1, h2⟩ := hws s hz
    have c := Cd.leaf h1 3
    exact ⟨[s], .leaf s, Tok.leaf h1, c.weak (by decide), Rel.word h1.op h2, .inl c⟩
  have lc : ∀ b s, Core (.cst b) s → Read (.cst b) s := by
    intro b s e
    have e2 : s = cstOf b := e
    subst e2
    have h1 := leaf_cst b
    have c := Cd.leaf h1 3
    exact ⟨[cstOf b], .leaf (cstOf b), Tok.leaf h1, c.weak (by decide), Rel.cst b, .inl c⟩
  intro d
  induction d with
  | zero =>
    intro t h s hc
    cases t with
    | word z => exact lw z h s hc
    | cst b => exact lc b s hc
    | neg t => exact False.elim h
    | nary k ts => exact False.elim h
  | succ d ih =>
    intro t h s hc
    cases t with
    | word z => exact lw z h s hc
    | cst b => exact lc b s hc
    | neg t =>
      obtain ⟨u, hu, e⟩ := hc
      rw [e]
      exact read_neg (read_paren (ih t h) hu)
    | nary k ts =>
      obtain ⟨us, hu, e⟩ := hc
      obtain ⟨h1, h2⟩ := (show (ts.length = 2 ∨ ts.length = 3) ∧ ∀ t ∈ ts, LtOk ws d t from h)
      obtain ⟨l, fs, a1, a2, a3, a4⟩ := read_parts k ts us (fun t ht u hu => read_paren (ih t (h2 t ht)) hu) (fun e => by rw [e] at h1; rcases h1 with h1 | h1 <;> cases h1) hu
      have c := chain_cd k fs l a2
      rw [e]
      exact ⟨l, foldB k fs, a1, c.weak (rk_pos k).1, Rel.nary a3 (by omega), .inr ⟨k, ts, fs, rfl, a2, part_chain a3, c⟩⟩
end Fx
set_option maxHeartbeats 2000000
namespace Fx
open PySem PySem.Spec PyProof.Rows L2 TL

/-! ### the law's signs, as symbols -/
inductive Sym where
  | L | R | S | W | A | O | N | Q
  deriving DecidableEq
def ch : Sym → List Nat
  | .L => [40]
  | .R => [41]
  | .S => [32]
  | .W => [119]
  | .A => [97, 110, 100]
  | .O => [111, 114]
  | .N => [110, 111, 116]
  | .Q => [63]
def hS : List Sym → List Nat
  | [] => []
  | x :: l => ch x ++ hS l
theorem hS_app : ∀ a b, hS (a ++ b) = hS a ++ hS b
  | [], b => rfl
  | x :: a, b => by
    show ch x ++ hS (a ++ b) = (ch x ++ hS a) ++ hS b
    rw [hS_app a b, List.append_assoc]
inductive Md where
  | want | space | done | op
  deriving DecidableEq
/-- what is awaited, and how many brackets are open -/
def stS : Option (Md × Nat) → Sym → Option (Md × Nat)
  | some (.want, d), .L => some (.want, d + 1)
  | some (.want, d), .W => some (.done, d)
  | some (.want, d), .N => some (.space, d)
  | some (.space, d), .S => some (.want, d)
  | some (.done, d + 1), .R => some (.done, d)
  | some (.done, d), .S => some (.op, d)
  | some (.op, d), .A => some (.space, d)
  | some (.op, d), .O => some (.space, d)
  | _, _ => none
def runS (st : Option (Md × Nat)) (l : List Sym) : Option (Md × Nat) := l.foldl stS st
def accS (l : List Sym) : Prop := runS (some (.want, 0)) l = some (.done, 0)
theorem st_none (x : Sym) : stS none x = none := by cases x <;> rfl
theorem run_none : ∀ l, runS none l = none
  | [] => rfl
  | x :: l => by
    show runS (stS none x) l = none
    rw [st_none, run_none l]
theorem run_app (st : Option (Md × Nat)) (a b : List Sym) : runS st (a ++ b) = runS (runS st a) b := List.foldl_append
def pats : List (List Sym) := [[.N, .S, .W], [.W, .S, .A, .S, .W], [.W, .S, .O, .S, .W], [.L, .W, .R]]
theorem pat_run {p : List Sym} (h : p ∈ pats) (st : Option (Md × Nat)) : runS st p = stS st .W := by
  rcases st with _ | ⟨m, d⟩
  · rw [run_none]; rfl
  · simp only [pats, List.mem_cons, List.mem_nil_iff, or_false] at h
    rcases h with rfl | rfl | rfl | rfl <;> cases m <;> first | rfl | (cases d <;> rfl)
def Redex (l : List Sym) : Prop := ∃ a p b, p ∈ pats ∧ l = a ++ p ++ b
theorem Redex.pre {l : List Sym} (h : Redex l) (a : List Sym) : Redex (a ++ l) := by
  obtain ⟨x, p, b, hp, e⟩ := h
  exact ⟨a ++ x, p, b, hp, by rw [e]; simp⟩
inductive Ct where
  | s0 | l0 | n0 | oA | oO | n1 | pA | pO | s2 | l2 | p3
def ctx : Ct → List Sym
  | .s0 => []
  | .l0 => [.L]
  | .n0 => [.N, .S]
  | .oA => [.W, .S, .A, .S]
  | .oO => [.W, .S, .O, .S]
  | .n1 => [.N]
  | .pA => [.W, .S, .A]
  | .pO => [.W, .S, .O]
  | .s2 => [.W]
  | .l2 => [.L, .W]
  | .p3 => [.W, .S]
def mdC : Ct → Md
  | .s0 => .want
  | .l0 => .want
  | .n0 => .want
  | .oA => .want
  | .oO => .want
  | .n1 => .space
  | .pA => .space
  | .pO => .space
  | .s2 => .done
  | .l2 => .done
  | .p3 => .op
def dOk : Ct → Nat → Prop
  | .s0, d => d = 0
  | .s2, d => d = 0
  | .l0, d => 1 ≤ d
  | .l2, d => 1 ≤ d
  | _, _ => True
theorem dead {l : List Sym} {y : Md × Nat} (h : runS none l = some y) : False := by
  rw [run_none] at h
  cases h
theorem find_redex : ∀ (τ : List Sym) (c : Ct) (d : Nat), dOk c d → runS (some (mdC c, d)) τ = some (.done, 0) → ((∃ _ : c = .s2, τ = []) ∨ (∃ _ : c = .s0, τ = [.W])) ∨ Redex (ctx c ++ τ)
  | [], c, d, hd, h => by
    have h2 : some (mdC c, d) = some (Md.done, 0) := h
    cases c <;> first | exact .inl (.inl ⟨rfl, rfl⟩) | (exfalso; injection h2 with h2; injection h2 with h2 h3; first | (cases h2; done) | (rw [h3] at hd; exact absurd (show 1 ≤ 0 from hd) (by decide)))
  | x :: τ, c, d, hd, h => by
    have ih := find_redex τ
    have go : ∀ (c' : Ct) (d' : Nat) (pre : List Sym), (c' = .s2 → False) → (c' = .s0 → False) → dOk c' d' → runS (some (mdC c', d')) τ = some (.done, 0) → pre ++ (ctx c' ++ τ) = ctx c ++ x :: τ → Redex (ctx c ++ x :: τ) := by
      intro c' d' pre n2 n0 hd' h' e
      rcases ih c' d' hd' h' with (⟨q, _⟩ | ⟨q, _⟩) | w
      · exact (n2 q).elim
      · exact (n0 q).elim
      · rw [← e]
        exact w.pre pre
    have no : ∀ {a b : Ct}, (a = b → False) → (a = b → False) := id
    cases c with
    | s0 =>
      have hd0 : d = 0 := hd
      subst hd0
      cases x with
      | L => exact .inr (go .l0 1 [] (fun e => nomatch e) (fun e => nomatch e) (Nat.le_refl 1) h rfl)
      | W =>
        rcases ih .s2 0 rfl h with (⟨_, q⟩ | ⟨q, _⟩) | w
        · exact .inl (.inr ⟨rfl, by rw [q]⟩)
        · cases q
        · exact .inr w
      | N => exact .inr (go .n1 0 [] (fun e => nomatch e) (fun e => nomatch e) trivial h rfl)
      | R => exact (dead h).elim
      | S => exact (dead h).elim
      | A => exact (dead h).elim
      | O => exact (dead h).elim
      | Q => exact (dead h).elim
    | l0 =>
      have hd0 : 1 ≤ d := hd
      cases x with
      | L => exact .inr (go .l0 (d + 1) [.L] (fun e => nomatch e) (fun e => nomatch e) (Nat.le_add_left 1 d) h rfl)
      | W => exact .inr (go .l2 d [] (fun e => nomatch e) (fun e => nomatch e) hd0 h rfl)
      | N => exact .inr (go .n1 d [.L] (fun e => nomatch e) (fun e => nomatch e) trivial h rfl)
      | R => exact (dead h).elim
      | S => exact (dead h).elim
      | A => exact (dead h).elim
      | O => exact (dead h).elim
      | Q => exact (dead h).elim
    | n0 =>
      cases x with
      | L => exact .inr (go .l0 (d + 1) [.N, .S] (fun e => nomatch e) (fun e => nomatch e) (Nat.le_add_left 1 d) h rfl)
      | W => exact .inr ⟨[], [.N, .S, .W], τ, by simp [pats], rfl⟩
      | N => exact .inr (go .n1 d [.N, .S] (fun e => nomatch e) (fun e => nomatch e) trivial h rfl)
      | R => exact (dead h).elim
      | S => exact (dead h).elim
      | A => exact (dead h).elim
      | O => exact (dead h).elim
      | Q => exact (dead h).elim
    | oA =>
      cases x with
      | L => exact .inr (go .l0 (d + 1) [.W, .S, .A, .S] (fun e => nomatch e) (fun e => nomatch e) (Nat.le_add_left 1 d) h rfl)
      | W => exact .inr ⟨[], [.W, .S, .A, .S, .W], τ, by simp [pats], rfl⟩
      | N => exact .inr (go .n1 d [.W, .S, .A, .S] (fun e => nomatch e) (fun e => nomatch e) trivial h rfl)
      | R => exact (dead h).elim
      | S => exact (dead h).elim
      | A => exact (dead h).elim
      | O => exact (dead h).elim
      | Q => exact (dead h).elim
    | oO =>
      cases x with
      | L => exact .inr (go .l0 (d + 1) [.W, .S, .O, .S] (fun e => nomatch e) (fun e => nomatch e) (Nat.le_add_left 1 d) h rfl)
      | W => exact .inr ⟨[], [.W, .S, .O, .S, .W], τ, by simp [pats], rfl⟩
      | N => exact .inr (go .n1 d [.W, .S, .O, .S] (fun e => nomatch e) (fun e => nomatch e) trivial h rfl)
      | R => exact (dead h).elim
      | S => exact (dead h).elim
      | A => exact (dead h).elim
      | O => exact (dead h).elim
      | Q => exact (dead h).elim
    | n1 =>
      cases x with
      | S => exact .inr (go .n0 d [] (fun e => nomatch e) (fun e => nomatch e) trivial h rfl)
      | L => exact (dead h).elim
      | W => exact (dead h).elim
      | N => exact (dead h).elim
      | R => exact (dead h).elim
      | A => exact (dead h).elim
      | O => exact (dead h).elim
      | Q => exact (dead h).elim
    | pA =>
      cases x with
      | S => exact .inr (go .oA d [] (fun e => nomatch e) (fun e => nomatch e) trivial h rfl)
      | L => exact (dead h).elim
      | W => exact (dead h).elim
      | N => exact (dead h).elim
      | R => exact (dead h).elim
      | A => exact (dead h).elim
      | O => exact (dead h).elim
      | Q => exact (dead h).elim
    | pO =>
      cases x with
      | S => exact .inr (go .oO d [] (fun e => nomatch e) (fun e => nomatch e) trivial h rfl)
      | L => exact (dead h).elim
      | W => exact (dead h).elim
      | N => exact (dead h).elim
      | R => exact (dead h).elim
      | A => exact (dead h).elim
      | O => exact (dead h).elim
      | Q => exact (dead h).elim
    | s2 =>
      have hd0 : d = 0 := hd
      subst hd0
      cases x with
      | S => exact .inr (go .p3 0 [] (fun e => nomatch e) (fun e => nomatch e) trivial h rfl)
      | R => exact (dead h).elim
      | L => exact (dead h).elim
      | W => exact (dead h).elim
      | N => exact (dead h).elim
      | A => exact (dead h).elim
      | O => exact (dead h).elim
      | Q => exact (dead h).elim
    | l2 =>
      cases d with
      | zero => exact absurd hd (by show ¬ 1 ≤ 0; decide)
      | succ d =>
        cases x with
        | S => exact .inr (go .p3 (d + 1) [.L] (fun e => nomatch e) (fun e => nomatch e) trivial h rfl)
        | R => exact .inr ⟨[], [.L, .W, .R], τ, by simp [pats], rfl⟩
        | L => exact (dead h).elim
        | W => exact (dead h).elim
        | N => exact (dead h).elim
        | A => exact (dead h).elim
        | O => exact (dead h).elim
        | Q => exact (dead h).elim
    | p3 =>
      cases x with
      | A => exact .inr (go .pA d [] (fun e => nomatch e) (fun e => nomatch e) trivial h rfl)
      | O => exact .inr (go .pO d [] (fun e => nomatch e) (fun e => nomatch e) trivial h rfl)
      | S => exact (dead h).elim
      | R => exact (dead h).elim
      | L => exact (dead h).elim
      | W => exact (dead h).elim
      | N => exact (dead h).elim
      | Q => exact (dead h).elim
/-- an accepted row without anything to shorten is one word -/
theorem acc_redex {τ : List Sym} (h : accS τ) : τ = [.W] ∨ Redex τ := by
  rcases find_redex τ .s0 0 rfl h with (⟨q, _⟩ | ⟨_, q⟩) | w
  · cases q
  · exact .inl q
  · exact .inr w
end Fx
set_option maxHeartbeats 2000000
namespace Fx
open PySem PySem.Spec PyProof.Rows L2 TL

/-! ### what is found in the law's signs -/
theorem head_sym {x q : Sym} {a b : List Nat} (h : ch x ++ a = ch q ++ b) : x = q ∧ a = b := by
  cases x <;> cases q <;> simp [ch] at h <;> exact ⟨rfl, h⟩
theorem at_front : ∀ (p : List Sym) (τ : List Sym) (B : List Nat), hS τ = hS p ++ B → ∃ β, τ = p ++ β ∧ hS β = B
  | [], τ, B, h => ⟨τ, rfl, h⟩
  | q :: p, [], B, h => by
    exfalso
    have h2 : ([] : List Nat) = (ch q ++ hS p) ++ B := h
    cases q <;> simp [ch] at h2
  | q :: p, x :: τ, B, h => by
    have h2 : ch x ++ hS τ = ch q ++ (hS p ++ B) := by
      rw [← List.append_assoc]
      exact h
    obtain ⟨e, h3⟩ := head_sym h2
    obtain ⟨β, e2, h4⟩ := at_front p τ B h3
    exact ⟨β, by rw [e, e2]; rfl, h4⟩
theorem pat_heads {p : List Sym} (hp : p ∈ pats) (r : List Nat) : (∃ l, hS p ++ r = 119 :: l) ∨ (∃ l, hS p ++ r = 40 :: l) ∨ ∃ l, hS p ++ r = 110 :: 111 :: l := by
  simp only [pats, List.mem_cons, List.mem_nil_iff, or_false] at hp
  rcases hp with rfl | rfl | rfl | rfl
  · exact .inr (.inr ⟨_, rfl⟩)
  · exact .inl ⟨_, rfl⟩
  · exact .inl ⟨_, rfl⟩
  · exact .inr (.inl ⟨_, rfl⟩)
/-- a pattern in the middle of a symbol: never -/
theorem in_sym {x : Sym} {p : List Sym} (hp : p ∈ pats) {a : Nat} {A B t : List Nat} (h : ch x ++ t = (a :: A) ++ (hS p ++ B)) : ∃ A2, a :: A = ch x ++ A2 := by
  cases x with
  | L => exact ⟨A, by simp [ch] at h ⊢; exact h.1.symm⟩
  | R => exact ⟨A, by simp [ch] at h ⊢; exact h.1.symm⟩
  | S => exact ⟨A, by simp [ch] at h ⊢; exact h.1.symm⟩
  | W => exact ⟨A, by simp [ch] at h ⊢; exact h.1.symm⟩
  | Q => exact ⟨A, by simp [ch] at h ⊢; exact h.1.symm⟩
  | O =>
    rcases A with _ | ⟨b, A⟩
    · exfalso
      rcases pat_heads hp B with ⟨l, e⟩ | ⟨l, e⟩ | ⟨l, e⟩ <;> rw [e] at h <;> simp [ch] at h
    · exact ⟨A, by simp [ch] at h ⊢; exact ⟨h.1.symm, h.2.1.symm⟩⟩
  | A =>
    rcases A with _ | ⟨b, _ | ⟨c, A⟩⟩
    · exfalso
      rcases pat_heads hp B with ⟨l, e⟩ | ⟨l, e⟩ | ⟨l, e⟩ <;> rw [e] at h <;> simp [ch] at h
    · exfalso
      rcases pat_heads hp B with ⟨l, e⟩ | ⟨l, e⟩ | ⟨l, e⟩ <;> simp only [List.cons_append, List.nil_append] at h <;> rw [e] at h <;> simp [ch] at h
    · exact ⟨A, by simp [ch] at h ⊢; exact ⟨h.1.symm, h.2.1.symm, h.2.2.1.symm⟩⟩
  | N =>
    rcases A with _ | ⟨b, _ | ⟨c, A⟩⟩
    · exfalso
      rcases pat_heads hp B with ⟨l, e⟩ | ⟨l, e⟩ | ⟨l, e⟩ <;> rw [e] at h <;> simp [ch] at h
    · exfalso
      rcases pat_heads hp B with ⟨l, e⟩ | ⟨l, e⟩ | ⟨l, e⟩ <;> simp only [List.cons_append, List.nil_append] at h <;> rw [e] at h <;> simp [ch] at h
    · exact ⟨A, by simp [ch] at h ⊢; exact ⟨h.1.symm, h.2.1.symm, h.2.2.1.symm⟩⟩
theorem aligned {p : List Sym} (hp : p ∈ pats) : ∀ (τ : List Sym) (A B : List Nat), hS τ = A ++ (hS p ++ B) → ∃ α β, τ = α ++ (p ++ β) ∧ hS α = A ∧ hS β = B
  | τ, [], B, h => by
    obtain ⟨β, e, h2⟩ := at_front p τ B h
    exact ⟨[], β, e, rfl, h2⟩
  | [], a :: A, B, h => by
    exfalso
    have h2 : ([] : List Nat) = a :: (A ++ (hS p ++ B)) := h
    cases h2
  | x :: τ, a :: A, B, h => by
    have h2 : ch x ++ hS τ = (a :: A) ++ (hS p ++ B) := h
    obtain ⟨A2, e⟩ := in_sym hp h2
    rw [e, List.append_assoc] at h2
    obtain ⟨α, β, e2, h3, h4⟩ := aligned hp τ A2 B (List.append_cancel_left h2)
    exact ⟨x :: α, β, by rw [e2]; rfl, by rw [e]; show ch x ++ hS α = _; rw [h3], h4⟩
/-! ### find and cut -/
theorem find_at {z o : Str} (ho : tl o ≠ []) (h : 0 ≤ Txt.find z o) : ∃ A B, tl z = A ++ (tl o ++ B) ∧ tl (cutAt z o) = A ++ (119 :: B) := by
  have hl := len_tl o
  have hz := len_tl z
  have key : ∃ i : Nat, Txt.find z o = (i : Int) ∧ i + o.length ≤ z.length ∧ pre (tl o) ((tl z).drop i) = true := by
    unfold Txt.find at h ⊢
    have sp := StrLaws.occ_spec z o 0 z.length 1
    cases q : Builtin.Str.occurrences z o 0 z.length 1 with
    | nil =>
      rw [q] at h
      exact absurd h (by decide)
    | cons i r =>
      rw [q] at sp
      have w := sp i List.mem_cons_self
      exact ⟨i, rfl, w.1, (at_iff ho i).mp w⟩
  obtain ⟨i, e1, e2, e3⟩ := key
  have e4 : ((tl z).drop i).take (tl o).length = tl o := eq_of_beq e3
  have e5 : (tl z).drop i = tl o ++ (tl z).drop (i + o.length) := by
    have w := List.take_append_drop (tl o).length ((tl z).drop i)
    rw [e4, List.drop_drop, ← hl] at w
    exact w.symm
  refine ⟨(tl z).take i, (tl z).drop (i + o.length), ?_, ?_⟩
  · rw [← e5, List.take_append_drop]
  · unfold cutAt
    rw [e1, tl_append, tl_append]
    have c1 : tl (cutS z none (some (i : Int))) = (tl z).take i := by
      show ((z.cps.toList.drop (HT.sIx z.length 0 none)).take (HT.sIx z.length z.length (some (i : Int)) - HT.sIx z.length 0 none)) = _
      unfold HT.sIx
      dsimp only
      rw [if_neg (by omega), List.drop_zero]
      congr 1
      omega
    have c2 : tl (cutS z (some ((i : Int) + o.length)) none) = (tl z).drop (i + o.length) := by
      show ((z.cps.toList.drop (HT.sIx z.length 0 (some ((i : Int) + o.length)))).take (HT.sIx z.length z.length none - HT.sIx z.length 0 (some ((i : Int) + o.length)))) = _
      unfold HT.sIx
      dsimp only
      rw [if_neg (by omega)]
      have c3 : min ((i : Int) + o.length).toNat z.length = i + o.length := by omega
      rw [c3]
      refine List.take_of_length_le ?_
      rw [List.length_drop]
      show (tl z).length - _ ≤ _
      omega
    rw [c1, c2, List.append_assoc]
    rfl
theorem find_none {z o : Str} (ho : tl o ≠ []) (h : ¬ 0 ≤ Txt.find z o) (A B : List Nat) : tl z ≠ A ++ (tl o ++ B) := by
  intro e
  have hl := len_tl o
  have hz := len_tl z
  have w := (StrLaws.found_iff z o).mpr ⟨A.length, by
    rw [hz, hl, e]
    simp only [List.length_append]
    omega, by
    have q : pre (tl o) ((tl z).drop A.length) = true := by
      rw [e, List.drop_left]
      exact pre_self _ _
    exact ((at_iff ho A.length).mpr q).2⟩
  refine h ?_
  unfold Txt.find
  cases q : Builtin.Str.occurrences z o 0 z.length 1 with
  | nil =>
    rw [q] at w
    cases w
  | cons i r =>
    show (0 : Int) ≤ (i : Int)
    omega
/-! ### one step of the law's shortening -/
theorem olds_pats : olds.map tl = pats.map hS := by decide +kernel
theorem hS_len_le (l : List Sym) : l.length ≤ (hS l).length := by
  induction l with
  | nil => exact Nat.le_refl _
  | cons x l ih =>
    show l.length + 1 ≤ (ch x ++ hS l).length
    rw [List.length_append]
    have : 1 ≤ (ch x).length := by cases x <;> decide
    omega
theorem pat_len {p : List Sym} (h : p ∈ pats) : 3 ≤ p.length := by
  simp only [pats, List.mem_cons, List.mem_nil_iff, or_false] at h
  rcases h with rfl | rfl | rfl | rfl <;> decide
theorem shrL_step (z : Str) (τ : List Sym) (hz : tl z = hS τ) : ∀ (os : List Str) (ps : List (List Sym)), (∀ p ∈ ps, p ∈ pats) → os.map tl = ps.map hS →
    (∃ τ2, tl (shrL z os) = hS τ2 ∧ τ2.length < τ.length ∧ (∀ st, runS st τ2 = runS st τ) ∧ Redex τ) ∨ (shrL z os = z ∧ ∀ p ∈ ps, ∀ a b, τ ≠ a ++ p ++ b)
  | [], ps, _, e => by
    have e2 : ps = [] := List.map_eq_nil_iff.mp e.symm
    subst e2
    exact .inr ⟨rfl, fun p hp => by cases hp⟩
  | o :: os, [], _, e => by simp at e
  | o :: os, p :: ps, hp, e => by
    rw [List.map_cons, List.map_cons] at e
    injection e with e1 e2
    have hpp := hp p List.mem_cons_self
    have ho : tl o ≠ [] := by
      rw [e1]
      intro w
      have := hS_len_le p
      have w3 := pat_len hpp
      rw [w, List.length_nil] at this
      omega
    unfold shrL
    by_cases h : 0 ≤ Txt.find z o
    · left
      have hd : decide (Txt.find z o ≥ 0) = true := decide_eq_true h
      rw [if_pos hd]
      obtain ⟨A, B, w1, w2⟩ := find_at ho h
      rw [hz, e1] at w1
      obtain ⟨α, β, q1, q2, q3⟩ := aligned hpp τ A B w1
      refine ⟨α ++ ([.W] ++ β), ?_, ?_, fun st => ?_, α, p, β, hpp, by rw [q1, List.append_assoc]⟩
      · rw [w2, hS_app, hS_app, q2, q3]
        rfl
      · rw [q1]
        have := pat_len hpp
        simp only [List.length_append, List.length_singleton]
        omega
      · rw [q1, run_app, run_app, run_app, run_app, pat_run hpp]
        rfl
    · have hd : decide (Txt.find z o ≥ 0) = false := decide_eq_false h
      rw [hd, if_neg Bool.false_ne_true]
      rcases shrL_step z τ hz os ps (fun x hx => hp x (List.mem_cons_of_mem _ hx)) e2 with w | ⟨w1, w2⟩
      · exact .inl w
      · refine .inr ⟨w1, fun x hx a b q => ?_⟩
        rcases List.mem_cons.mp hx with w | w
        · subst w
          refine find_none ho h (hS a) (hS b) ?_
          rw [hz, q, hS_app, hS_app, e1, List.append_assoc]
        · exact w2 x w a b q
theorem shrunk_step (z : Str) (τ : List Sym) (hz : tl z = hS τ) :
    (∃ τ2, tl (shrunk z) = hS τ2 ∧ τ2.length < τ.length ∧ (∀ st, runS st τ2 = runS st τ) ∧ Redex τ) ∨ (shrunk z = z ∧ ¬ Redex τ) := by
  rcases shrL_step z τ hz olds pats (fun _ h => h) olds_pats with w | ⟨w1, w2⟩
  · exact .inl w
  · exact .inr ⟨w1, fun ⟨a, p, b, hp, e⟩ => w2 p hp a b e⟩
theorem shrN_step (z : Str) (τ : List Sym) (hz : tl z = hS τ) : ∀ n : Nat, ∃ τ2, tl (shrN n z) = hS τ2 ∧ (∀ st, runS st τ2 = runS st τ) ∧ (τ2.length + n ≤ τ.length ∨ ¬ Redex τ2)
  | 0 => ⟨τ, hz, fun _ => rfl, .inl (Nat.le_refl _)⟩
  | n + 1 => by
    obtain ⟨τ2, h1, h2, h3⟩ := shrN_step z τ hz n
    rcases shrunk_step (shrN n z) τ2 h1 with ⟨τ3, w1, w2, w3, q⟩ | ⟨w1, w2⟩
    · rcases h3 with h3 | h3
      · exact ⟨τ3, w1, fun st => (w3 st).trans (h2 st), .inl (by omega)⟩
      · exact absurd q h3
    · exact ⟨τ2, by show tl (shrunk (shrN n z)) = _; rw [w1]; exact h1, h2, .inr w2⟩
theorem one_w {τ : List Sym} (h : hS τ = [119]) : τ = [.W] := by
  obtain ⟨β, e, h2⟩ := at_front [.W] τ [] (by rw [h]; rfl)
  cases β with
  | nil => exact e
  | cons x β =>
    exfalso
    have w := hS_len_le (x :: β)
    rw [h2] at w
    simp at w
/-- the law's shortening ends in one word just for the rows that are accepted -/
theorem shrN_acc (z : Str) (τ : List Sym) (hz : tl z = hS τ) : (shrN z.length z == "w") = true ↔ accS τ := by
  obtain ⟨τ2, h1, h2, h3⟩ := shrN_step z τ hz z.length
  have hl : τ.length ≤ z.length := by
    rw [len_tl, hz]
    exact hS_len_le τ
  have e2 : accS τ2 ↔ accS τ := by
    unfold accS
    rw [h2]
  rw [← e2]
  constructor
  · intro h
    have e : tl (shrN z.length z) = [119] := by
      rw [beq_iff_eq.mp h]
      rfl
    rw [h1] at e
    rw [one_w e]
    rfl
  · intro h
    have hne : τ2 ≠ [] := fun e => by
      rw [e] at h
      cases h
    have nr : ¬ Redex τ2 := by
      rcases h3 with h3 | h3
      · exfalso
        have : 0 < τ2.length := List.length_pos_iff.mpr hne
        omega
      · exact h3
    rcases acc_redex h with e | e
    · rw [e] at h1
      rw [beq_iff_eq]
      exact ext_tl h1
    · exact absurd e nr
end Fx
set_option maxHeartbeats 2000000
namespace Fx
open PySem PySem.Spec PyProof.Rows L2 TL

/-! ### the law's signs of a text -/
def sym1 (x : Str) : List Sym :=
  if x == "and" then [.A] else if x == "or" then [.O] else if x == "not" then [.N] else if x == "" then [] else if ((two.any fun y => y == x) || lawWord x) = true then [.W] else [.Q]
def brkS (c : Nat) : Sym := if c = 40 then .L else if c = 41 then .R else .S
def tauF : Str → List Nat → List Sym
  | w, [] => sym1 w
  | w, c :: l => if isBrk c = true then sym1 w ++ brkS c :: tauF "" l else tauF (w ++ ⟨#[c]⟩) l
theorem swp (a b : Str) : (a == b) = (b == a) := by
  by_cases e : a = b
  · rw [e]
  · rw [beq_eq_false_iff_ne.mpr e, beq_eq_false_iff_ne.mpr (Ne.symm e)]
theorem code_sym (x : Str) : tl (code1 x) = hS (sym1 x) := by
  unfold code1 sym1
  have e : (plain4.any fun y => y == x) = (x == "and" || (x == "or" || (x == "not" || x == ""))) := by
    show (("and" : Str) == x || (("or" : Str) == x || (("not" : Str) == x || (("" : Str) == x || false)))) = _
    rw [swp ("and" : Str), swp ("or" : Str), swp ("not" : Str), swp ("" : Str), Bool.or_false]
  rw [e]
  cases h1 : x == ("and" : Str) with
  | true =>
    rw [beq_iff_eq.mp h1]
    rfl
  | false =>
    cases h2 : x == ("or" : Str) with
    | true =>
      rw [beq_iff_eq.mp h2]
      rfl
    | false =>
      cases h3 : x == ("not" : Str) with
      | true =>
        rw [beq_iff_eq.mp h3]
        rfl
      | false =>
        cases h4 : x == ("" : Str) with
        | true =>
          rw [beq_iff_eq.mp h4]
          rfl
        | false =>
          cases h5 : (two.any fun y => y == x) || lawWord x <;> rfl
theorem isBrk_iff (c : Nat) : isBrk c = true ↔ (c = 40 ∨ c = 41 ∨ c = 32) := by
  unfold isBrk
  rw [decide_eq_true_iff]
  show c ∈ [40, 41, 32] ↔ _
  simp
theorem ch_brk {c : Nat} (h : isBrk c = true) : ch (brkS c) = [c] := by
  rcases (isBrk_iff c).mp h with rfl | rfl | rfl <;> rfl
theorem tl_one (c : Nat) : tl (⟨#[c]⟩ : Str) = [c] := rfl
theorem lrun_tau : ∀ (l : List Nat) (o w : Str), tl ((l ++ [32]).foldl lstep (o, w)).1 = tl o ++ hS (tauF w l) ++ [32]
  | [], o, w => by
    show tl (o ++ code1 w ++ (⟨#[32]⟩ : Str)) = tl o ++ hS (sym1 w) ++ [32]
    rw [tl_append, tl_append, code_sym]
  | c :: l, o, w => by
    show tl ((l ++ [32]).foldl lstep (lstep (o, w) c)).1 = _
    unfold lstep tauF
    cases h : isBrk c with
    | true =>
      have w1 := lrun_tau l (o ++ code1 w ++ (⟨#[c]⟩ : Str)) ""
      show tl ((l ++ [32]).foldl lstep (o ++ code1 w ++ (⟨#[c]⟩ : Str), "")).1 = _
      rw [w1, tl_append, tl_append, code_sym, tl_one]
      show _ = tl o ++ hS (sym1 w ++ brkS c :: tauF "" l) ++ [32]
      rw [hS_app]
      show _ = tl o ++ (hS (sym1 w) ++ (ch (brkS c) ++ hS (tauF "" l))) ++ [32]
      rw [ch_brk h]
      simp
    | false =>
      exact lrun_tau l o (w ++ (⟨#[c]⟩ : Str))
theorem lawSigns_tau (z : Str) : tl (lawSigns z) = hS (tauF "" (tl z)) := by
  have e : tl (z ++ (" " : Str)) = tl z ++ [32] := by
    rw [tl_append]
    rfl
  have w := lrun_tau (tl z) "" ""
  unfold lawSigns lrun
  rw [e]
  generalize (List.foldl lstep ("", "") (tl z ++ [32])).1 = y at w
  have w2 : tl y = hS (tauF "" (tl z)) ++ [32] := w
  have ly : y.length = (hS (tauF "" (tl z))).length + 1 := by
    rw [len_tl, w2, List.length_append]
    rfl
  show ((y.cps.toList.drop (HT.sIx y.length 0 none)).take (HT.sIx y.length y.length (some (-1)) - HT.sIx y.length 0 none)) = _
  unfold HT.sIx
  dsimp only
  rw [if_pos (by decide), List.drop_zero]
  have e3 : ((y.length : Int) + -1).toNat = (hS (tauF "" (tl z))).length := by omega
  show (tl y).take _ = _
  rw [w2]
  refine List.take_left' ?_
  omega
theorem tau_cut {b : Nat} (hb : isBrk b = true) (r : List Nat) : ∀ (p : List Nat) (w : Str), tauF w (p ++ b :: r) = tauF w p ++ brkS b :: tauF "" r
  | [], w => by
    show (if isBrk b = true then sym1 w ++ brkS b :: tauF "" r else _) = _
    rw [if_pos hb]
    rfl
  | c :: p, w => by
    show (if isBrk c = true then sym1 w ++ brkS c :: tauF "" (p ++ b :: r) else tauF (w ++ ⟨#[c]⟩) (p ++ b :: r)) = (if isBrk c = true then sym1 w ++ brkS c :: tauF "" p else tauF (w ++ ⟨#[c]⟩) p) ++ _
    rw [tau_cut hb r p, tau_cut hb r p]
    split
    · simp
    · rfl
theorem tau_word : ∀ (u : List Nat) (w : Str), (∀ c ∈ u, isBrk c = false) → tauF w u = sym1 (w ++ mS u)
  | [], w, _ => by
    have e : w ++ mS [] = w := ext_tl (by rw [tl_append]; exact List.append_nil _)
    rw [e]
    rfl
  | c :: u, w, h => by
    show (if isBrk c = true then _ else tauF (w ++ ⟨#[c]⟩) u) = _
    rw [h c List.mem_cons_self, if_neg Bool.false_ne_true, tau_word u _ fun x hx => h x (List.mem_cons_of_mem _ hx)]
    congr 1
    refine ext_tl ?_
    rw [tl_append, tl_append, tl_append]
    show tl w ++ [c] ++ u = tl w ++ (c :: u)
    simp
theorem emp_mS (u : List Nat) : ("" : Str) ++ mS u = mS u := ext_tl (by rw [tl_append]; rfl)
theorem tau_word0 {u : List Nat} (h : ∀ c ∈ u, isBrk c = false) : tauF "" u = sym1 (mS u) := by rw [tau_word u "" h, emp_mS]
theorem tau_open (l : List Nat) : tauF "" (40 :: l) = .L :: tauF "" l := by
  have w := tau_cut (b := 40) rfl l [] ""
  exact w
theorem tau_opens (l : List Nat) : ∀ n : Nat, tauF "" (rp n 40 ++ l) = List.replicate n Sym.L ++ tauF "" l
  | 0 => rfl
  | n + 1 => by
    show tauF "" (40 :: (rp n 40 ++ l)) = .L :: (List.replicate n Sym.L ++ tauF "" l)
    rw [tau_open, tau_opens l n]
theorem tau_shuts (w : Str) (l : List Nat) : ∀ n : Nat, tauF w (l ++ rp n 41) = tauF w l ++ List.replicate n Sym.R
  | 0 => by simp
  | n + 1 => by
    have e : rp (n + 1) 41 = rp n 41 ++ [41] := List.replicate_succ'
    have e2 : List.replicate (n + 1) Sym.R = List.replicate n Sym.R ++ [.R] := List.replicate_succ'
    rw [e, ← List.append_assoc, tau_cut (b := 41) rfl [] (l ++ rp n 41) w, tau_shuts w l n, e2, List.append_assoc]
    rfl
/-- the symbol of a word is no bracket -/
def wordS (x : Sym) : Prop := x ≠ .L ∧ x ≠ .R ∧ x ≠ .S
theorem sym_one {u : List Nat} (h : u ≠ []) : ∃ x, sym1 (mS u) = [x] ∧ wordS x := by
  unfold sym1
  split
  · exact ⟨_, rfl, by decide, by decide, by decide⟩
  · split
    · exact ⟨_, rfl, by decide, by decide, by decide⟩
    · split
      · exact ⟨_, rfl, by decide, by decide, by decide⟩
      · split
        · rename_i q
          exfalso
          have e := congrArg tl (beq_iff_eq.mp q)
          exact h e
        · split
          · exact ⟨_, rfl, by decide, by decide, by decide⟩
          · exact ⟨_, rfl, by decide, by decide, by decide⟩
/-- a list begins with a word, or with a bracket -/
theorem tau_first {c : Nat} {l : List Nat} (h : isBrk c = false) : ∃ x r, tauF "" (c :: l) = x :: r ∧ wordS x := by
  have e : (c :: l) = (c :: l).takeWhile (fun x => !isBrk x) ++ (c :: l).dropWhile (fun x => !isBrk x) := (List.takeWhile_append_dropWhile).symm
  have hu : ∀ y ∈ (c :: l).takeWhile (fun x => !isBrk x), isBrk y = false := fun y hy => by
    have w := List.all_takeWhile (p := fun x => !isBrk x) (l := c :: l)
    have w2 := List.all_eq_true.mp w y hy
    simpa using w2
  have hne : (c :: l).takeWhile (fun x => !isBrk x) ≠ [] := by
    rw [List.takeWhile_cons, h]
    simp
  obtain ⟨x, hx, wx⟩ := sym_one hne
  cases q : (c :: l).dropWhile (fun x => !isBrk x) with
  | nil =>
    rw [q, List.append_nil] at e
    rw [← e] at hu hx
    exact ⟨x, [], by rw [tau_word0 hu, hx], wx⟩
  | cons b r =>
    have hb : isBrk b = true := by
      have w := List.head?_dropWhile_not (fun x => !isBrk x) (c :: l)
      rw [q] at w
      simpa using w
    rw [q] at e
    rw [e, tau_cut hb, tau_word0 hu, hx]
    exact ⟨x, _, rfl, wx⟩
/-! ### runs -/
theorem run_opens (d : Nat) : ∀ n : Nat, runS (some (.want, d)) (List.replicate n Sym.L) = some (.want, d + n)
  | 0 => rfl
  | n + 1 => by
    have e2 : List.replicate (n + 1) Sym.L = List.replicate n Sym.L ++ [.L] := List.replicate_succ'
    rw [e2, run_app, run_opens d n]
    rfl
theorem run_shuts : ∀ (n d : Nat), runS (some (.done, d)) (List.replicate n Sym.R) = if n ≤ d then some (.done, d - n) else none
  | 0, d => by simp; rfl
  | n + 1, 0 => by
    rw [if_neg (by omega)]
    show runS none _ = none
    rw [run_none]
  | n + 1, d + 1 => by
    show runS (some (.done, d)) (List.replicate n Sym.R) = _
    rw [run_shuts n d]
    by_cases h : n ≤ d
    · rw [if_pos h, if_pos (by omega)]
      congr 2
      omega
    · rw [if_neg h, if_neg (by omega)]
theorem run_stuck {m : Md} (h : m ≠ .done) (d : Nat) : ∀ n : Nat, n ≠ 0 → runS (some (m, d)) (List.replicate n Sym.R) = none
  | 0, hn => absurd rfl hn
  | n + 1, _ => by
    show runS (stS (some (m, d)) .R) _ = none
    have e : stS (some (m, d)) .R = none := by cases m <;> first | rfl | exact absurd rfl h
    rw [e, run_none]
/-- behind a word that is done nothing but brackets may come -/
theorem run_more : ∀ (v : List Nat) (d : Nat), 32 ∉ v → (∃ c ∈ v, c ≠ 41) → runS (some (.done, d)) (tauF "" v) = none
  | [], d, _, h => by
    obtain ⟨c, hc, _⟩ := h
    cases hc
  | c :: v, d, h32, h => by
    by_cases e : c = 41
    · subst e
      have w := tau_cut (b := 41) rfl v [] ""
      have w2 : tauF "" (41 :: v) = .R :: tauF "" v := w
      rw [w2]
      obtain ⟨y, hy, hn⟩ := h
      have hv : ∃ c ∈ v, c ≠ 41 := by
        rcases List.mem_cons.mp hy with q | q
        · exact absurd q hn
        · exact ⟨y, q, hn⟩
      cases d with
      | zero =>
        show runS none _ = none
        exact run_none _
      | succ d => exact run_more v d (fun q => h32 (List.mem_cons_of_mem _ q)) hv
    · by_cases e2 : c = 40
      · subst e2
        rw [tau_open]
        show runS (stS (some (Md.done, d)) .L) _ = none
        have e3 : stS (some (Md.done, d)) .L = none := by cases d <;> rfl
        rw [e3, run_none]
      · have hb : isBrk c = false := by
          cases q : isBrk c with
          | false => rfl
          | true =>
            rcases (isBrk_iff c).mp q with q | q | q
            · exact absurd q e2
            · exact absurd q e
            · exact absurd (by rw [q]; exact List.mem_cons_self) h32
        obtain ⟨x, r, w, wx⟩ := tau_first (l := v) hb
        rw [w]
        show runS (stS (some (Md.done, d)) x) r = none
        have e3 : stS (some (Md.done, d)) x = none := by
          obtain ⟨n1, n2, n3⟩ := wx
          cases x <;> first | exact absurd rfl n1 | exact absurd rfl n2 | exact absurd rfl n3 | (cases d <;> rfl)
        rw [e3, run_none]
end Fx
set_option maxHeartbeats 2000000
namespace Fx
open PySem PySem.Spec PyProof.Rows L2 TL

/-! ### the program's look and the law's look agree -/
theorem lead (a : Nat) : ∀ l : List Nat, ∃ n r, l = rp n a ++ r ∧ r.head? ≠ some a
  | [] => ⟨0, [], rfl, by simp⟩
  | x :: l => by
    by_cases e : x = a
    · obtain ⟨n, r, h1, h2⟩ := lead a l
      exact ⟨n + 1, r, by rw [e, h1]; rfl, h2⟩
    · exact ⟨0, x :: l, rfl, by simpa using e⟩
theorem strip_parts (l : List Nat) : ∃ n m c, l = rp n 40 ++ (c ++ rp m 41) ∧ c.head? ≠ some 40 ∧ c.getLast? ≠ some 41 := by
  obtain ⟨n, r, h1, h2⟩ := lead 40 l
  obtain ⟨m, c, h3, h4⟩ := lead 41 r.reverse
  have e : r = c.reverse ++ rp m 41 := by
    have w := congrArg List.reverse h3
    rw [List.reverse_reverse, List.reverse_append, List.reverse_replicate] at w
    exact w
  refine ⟨n, m, c.reverse, by rw [h1, e], ?_, by rw [List.getLast?_reverse]; exact h4⟩
  cases q : c.reverse with
  | nil => simp
  | cons x y =>
    rw [e, q] at h2
    exact h2
theorem start_run (w : Bool) (D n : Nat) (r : List Sym) : runS (some (if w then Md.want else Md.op, D)) (List.replicate n Sym.L ++ r) = if w then runS (some (.want, D + n)) r else if n = 0 then runS (some (.op, D)) r else none := by
  cases w
  · rw [if_neg Bool.false_ne_true, if_neg Bool.false_ne_true]
    cases n with
    | zero => rfl
    | succ n =>
      rw [if_neg (by omega)]
      show runS none _ = none
      exact run_none _
  · rw [if_pos rfl, if_pos rfl, run_app, run_opens]
def Bad (X : Option (Md × Nat)) : Prop := stS X .S = none ∧ X ≠ some (.done, 0)
theorem bad_none : Bad none := ⟨rfl, by simp⟩
theorem bad_want (d : Nat) : Bad (some (.want, d)) := ⟨rfl, by simp⟩
theorem bad_op (d : Nat) : Bad (some (.op, d)) := ⟨rfl, by simp⟩
theorem can_op (k : Bool) (n m : Int) (w : Bool) : canStand (kindOf k) n m w = (!w && (n == 0 && m == 0)) := by cases k <;> rfl
theorem can_not (n m : Int) (w : Bool) : canStand ("not" : Str) n m w = (w && m == 0) := rfl
theorem can_other {x : Str} (h : isOper x = false) (n m : Int) (w : Bool) : canStand x n m w = (w && (isConst x || isWord x)) := by
  obtain ⟨h1, h2⟩ := not_oper h
  unfold canStand
  rw [h1, if_neg Bool.false_ne_true]
  show (if isOper x = true then _ else _) = _
  rw [h, if_neg Bool.false_ne_true]
  rfl
theorem letter_brk {c : Nat} (h : c = 40 ∨ c = 41) : isLetter c = false := by
  rcases h with rfl | rfl <;> decide +kernel
theorem mem_tl_lit {x : Str} {c : List Nat} (e : x = mS c) (b : Nat) (hb : b ∈ c) : b ∈ tl x := by
  rw [e]
  exact hb
theorem spl_mem {b : Nat} (hb : b ≠ 64) : ∀ (l acc : List Nat), (b ∈ acc ∨ b ∈ l) → ∃ q ∈ spl [64] 0 acc l, b ∈ q
  | [], acc, h => by
    rcases h with h | h
    · exact ⟨acc, List.mem_singleton.mpr rfl, h⟩
    · cases h
  | x :: r, acc, h => by
    by_cases e : x = 64
    · rw [e, spl_hit (by rfl)]
      rcases h with h | h
      · exact ⟨acc, List.mem_cons_self, h⟩
      · rcases List.mem_cons.mp h with w | w
        · exact absurd (w.trans e) hb
        · obtain ⟨q, h1, h2⟩ := spl_mem hb r [] (.inr w)
          exact ⟨q, List.mem_cons_of_mem _ h1, h2⟩
    · rw [spl_miss (pre_of_head [] r e)]
      refine spl_mem hb r (acc ++ [x]) ?_
      rcases h with h | h
      · exact .inl (List.mem_append_left _ h)
      · rcases List.mem_cons.mp h with w | w
        · exact .inl (List.mem_append_right _ (List.mem_singleton.mpr w))
        · exact .inr w
/-- what has a bracket within is no word -/
theorem brk_word {c : List Nat} {b : Nat} (hb : b = 40 ∨ b = 41) (hm : b ∈ c) : isOper (mS c) = false ∧ isConst (mS c) = false ∧ isWord (mS c) = false := by
  have lit : ∀ (y : Str), (40 ∉ tl y ∧ 41 ∉ tl y) → (y == mS c) = false := fun y hy => by
    refine beq_eq_false_iff_ne.mpr fun e => ?_
    have w := mem_tl_lit e b hm
    rcases hb with q | q <;> rw [q] at w
    · exact hy.1 w
    · exact hy.2 w
  refine ⟨?_, ?_, ?_⟩
  · show (("and" : Str) == mS c || (("or" : Str) == mS c || (("not" : Str) == mS c || false))) = false
    rw [lit _ (by decide +kernel), lit _ (by decide +kernel), lit _ (by decide +kernel)]
    rfl
  · show (("all" : Str) == mS c || (("none" : Str) == mS c || false)) = false
    rw [lit _ (by decide +kernel), lit _ (by decide +kernel)]
    rfl
  · rw [← lawWord_is]
    have hl : ∀ p ∈ partsOf (mS c), (b ∈ tl p) → (tl p).all isLetter = false := fun p hp hbp => List.all_eq_false.mpr ⟨b, hbp, by rw [letter_brk hb]; simp⟩
    have hb64 : b ≠ 64 := by rcases hb with q | q <;> omega
    have hex : ∃ p ∈ partsOf (mS c), b ∈ tl p := by
      have e := parts_tl (mS c)
      have w := spl_mem hb64 c [] (.inr hm)
      obtain ⟨q, hq, hbq⟩ := w
      have hq2 : q ∈ (partsOf (mS c)).map tl := by
        rw [e]
        exact hq
      obtain ⟨p, hp, e2⟩ := List.mem_map.mp hq2
      exact ⟨p, hp, by rw [e2]; exact hbq⟩
    obtain ⟨p, hp, hbp⟩ := hex
    have hf := hl p hp hbp
    cases q : partsOf (mS c) with
    | nil => exact absurd q (parts_ne _)
    | cons a r =>
      rw [q] at hp
      cases r with
      | nil =>
        rw [lw1 q]
        have e : p = a := by simpa using hp
        rw [← e, hf]
        rfl
      | cons a2 r =>
        cases r with
        | nil =>
          rw [lw2 q]
          have e : p = a ∨ p = a2 := by simpa using hp
          rcases e with e | e
          · rw [← e, hf]
            rfl
          · rw [← e, hf, Bool.and_false]
            rfl
        | cons a3 r => exact lw3 q
/-- a core with a bracket within stops the run -/
theorem core_dead {c : List Nat} (h1 : c.head? ≠ some 40) (h2 : c.getLast? ≠ some 41) (h32 : 32 ∉ c) (hb : ∃ b ∈ c, isBrk b = true) (m : Md) (hm : m = .want ∨ m = .op) (d : Nat) : runS (some (m, d)) (tauF "" c) = none := by
  have e : c = c.takeWhile (fun x => !isBrk x) ++ c.dropWhile (fun x => !isBrk x) := (List.takeWhile_append_dropWhile).symm
  have hu : ∀ y ∈ c.takeWhile (fun x => !isBrk x), isBrk y = false := fun y hy => by
    have w := List.all_takeWhile (p := fun x => !isBrk x) (l := c)
    have w2 := List.all_eq_true.mp w y hy
    simpa using w2
  generalize c.takeWhile (fun x => !isBrk x) = u at e hu
  cases q : c.dropWhile (fun x => !isBrk x) with
  | nil =>
    exfalso
    rw [q, List.append_nil] at e
    obtain ⟨b, hb1, hb2⟩ := hb
    rw [e] at hb1
    rw [hu b hb1] at hb2
    cases hb2
  | cons b v =>
    have hbb : isBrk b = true := by
      have w := List.head?_dropWhile_not (fun x => !isBrk x) c
      rw [q] at w
      simpa using w
    rw [q] at e
    have hv32 : 32 ∉ v := fun z => h32 (by rw [e]; exact List.mem_append_right _ (List.mem_cons_of_mem _ z))
    have hb32 : b ≠ 32 := fun z => h32 (by rw [e, z]; exact List.mem_append_right _ List.mem_cons_self)
    have hbk : b = 40 ∨ b = 41 := by
      rcases (isBrk_iff b).mp hbb with z | z | z
      · exact .inl z
      · exact .inr z
      · exact absurd z hb32
    rw [e, tau_cut hbb]
    cases u with
    | nil =>
      have hb41 : b = 41 := by
        rcases hbk with z | z
        · exfalso
          rw [e, z] at h1
          exact h1 rfl
        · exact z
      rw [hb41]
      show runS (stS (some (m, d)) .R) _ = none
      have w : stS (some (m, d)) .R = none := by rcases hm with z | z <;> rw [z] <;> rfl
      rw [w, run_none]
    | cons y u =>
      obtain ⟨x, hx, n1, n2, n3⟩ := sym_one (u := y :: u) (by simp)
      rw [tau_word0 hu, hx]
      show runS (stS (stS (some (m, d)) x) (brkS b)) (tauF "" v) = none
      have hmore : b = 41 → ∃ z ∈ v, z ≠ 41 := fun hb41 => by
        by_cases w : ∃ z ∈ v, z ≠ 41
        · exact w
        · exfalso
          have all : ∀ z ∈ (41 :: v), z = 41 := fun z hz => by
            rcases List.mem_cons.mp hz with q | q
            · exact q
            · by_cases q2 : z = 41
              · exact q2
              · exact absurd ⟨z, q, q2⟩ w
          cases q : (41 :: v).getLast? with
          | none => simp at q
          | some z =>
            have e3 : c.getLast? = some z := by
              rw [e, hb41, List.getLast?_append, q]
              rfl
            have := all z (List.mem_of_getLast? q)
            rw [this] at e3
            exact h2 e3
      have main : ∀ Y, stS (some (m, d)) x = Y → (∃ d, Y = some (.done, d)) ∨ (∃ d, Y = some (.space, d)) ∨ Y = none := by
        intro Y hY
        rw [← hY]
        rcases hm with z | z <;> rw [z] <;> cases x <;> first | exact .inr (.inr rfl) | exact absurd rfl n1 | exact absurd rfl n2 | exact absurd rfl n3 | exact .inl ⟨_, rfl⟩ | exact .inr (.inl ⟨_, rfl⟩)
      rcases main _ rfl with ⟨d2, z⟩ | ⟨d2, z⟩ | z <;> rw [z]
      · rcases hbk with w | w
        · rw [w]
          show runS (stS (some (Md.done, d2)) .L) _ = none
          have e3 : stS (some (Md.done, d2)) .L = none := by cases d2 <;> rfl
          rw [e3, run_none]
        · have hm2 := hmore w
          rw [w]
          cases d2 with
          | zero => exact run_none _
          | succ d2 => exact run_more v d2 hv32 hm2
      · rcases hbk with w | w <;> rw [w] <;> exact run_none _
      · rw [st_none, run_none]
end Fx
set_option maxHeartbeats 2000000
namespace Fx
open PySem PySem.Spec PyProof.Rows L2 TL

theorem step_eq {st : PSt} {l : List Nat} {n m : Nat} {c : List Nat} {D : Nat} (hD : st.depth = (D : Int)) (e : l = rp n 40 ++ (c ++ rp m 41)) (h1 : c.head? ≠ some 40) (h2 : c.getLast? ≠ some 41) :
    stepP st (mS l) = if decide ((D : Int) + n - m < 0) || !canStand (mS c) n m st.wanted then none else some ⟨st.signs ++ signsP (mS l), (D : Int) + n - m, isOper (mS c)⟩ := by
  obtain ⟨k1, k2, k3⟩ := piece_at (p := mS l) (n := n) (m := m) (c := c) (by show l = _; rw [e, List.append_assoc]) h1 h2
  unfold stepP
  rw [k1, k2, k3, hD]
  rfl
def endS (w : Bool) : Md := if w then .space else .done
def begS (w : Bool) : Md := if w then .want else .op
theorem stuck_run (w : Bool) (D n m : Nat) (x : List Sym) (hx : ∀ d, Bad (runS (runS (some (begS w, d)) x) (List.replicate m Sym.R))) : Bad (runS (some (begS w, D)) (List.replicate n Sym.L ++ (x ++ List.replicate m Sym.R))) := by
  show Bad (runS (some (if w then Md.want else Md.op, D)) _)
  rw [start_run]
  cases w
  · rw [if_neg Bool.false_ne_true]
    split
    · rw [run_app]
      exact hx D
    · exact bad_none
  · rw [if_pos rfl, run_app]
    exact hx (D + n)
/-- one piece: the program's step and the law's run -/
theorem piece_run {l : List Nat} (h32 : 32 ∉ l) (st : PSt) (D : Nat) (hD : st.depth = (D : Int)) :
    (∃ st' D', stepP st (mS l) = some st' ∧ st'.depth = ((D' : Nat) : Int) ∧ runS (some (begS st.wanted, D)) (tauF "" l) = some (endS st'.wanted, D')) ∨
    (stepP st (mS l) = none ∧ Bad (runS (some (begS st.wanted, D)) (tauF "" l))) := by
  obtain ⟨n, m, c, e, h1, h2⟩ := strip_parts l
  have hc32 : 32 ∉ c := fun z => h32 (by rw [e]; exact List.mem_append_right _ (List.mem_append_left _ z))
  have et : tauF "" l = List.replicate n Sym.L ++ (tauF "" c ++ List.replicate m Sym.R) := by
    rw [e, tau_opens, tau_shuts]
  rw [step_eq hD e h1 h2, et]
  have none_of : canStand (mS c) n m st.wanted = false → (if (decide ((D : Int) + n - m < 0) || !canStand (mS c) n m st.wanted) = true then none else some (⟨st.signs ++ signsP (mS l), (D : Int) + n - m, isOper (mS c)⟩ : PSt)) = none := fun q => by
    rw [q, Bool.not_false, Bool.or_true, if_pos rfl]
  by_cases hb : ∃ b ∈ c, isBrk b = true
  · right
    obtain ⟨b, hb1, hb2⟩ := hb
    have hbk : b = 40 ∨ b = 41 := by
      rcases (isBrk_iff b).mp hb2 with z | z | z
      · exact .inl z
      · exact .inr z
      · exact absurd (z ▸ hb1) hc32
    obtain ⟨w1, w2, w3⟩ := brk_word hbk hb1
    refine ⟨none_of (by rw [can_other w1, w2, w3]; cases st.wanted <;> rfl), stuck_run _ D n m _ fun d => ?_⟩
    rw [core_dead h1 h2 hc32 ⟨b, hb1, hb2⟩ _ (by cases st.wanted <;> first | exact .inl rfl | exact .inr rfl), run_none]
    exact bad_none
  · have hc : ∀ y ∈ c, isBrk y = false := fun y hy => by
      cases q : isBrk y with
      | false => rfl
      | true => exact absurd ⟨y, hy, q⟩ hb
    rw [tau_word0 hc]
    generalize mS c = x at none_of ⊢
    have dead_at : ∀ (q : Sym) (w : Bool), (stS (some (begS w, 0)) q = none) → (∀ d, stS (some (begS w, d)) q = stS (some (begS w, 0)) q) → Bad (runS (some (begS w, D)) (List.replicate n Sym.L ++ ([q] ++ List.replicate m Sym.R))) := fun q w z z2 => by
      refine stuck_run w D n m [q] fun d => ?_
      show Bad (runS (stS (some (begS w, d)) q) _)
      rw [z2 d, z, run_none]
      exact bad_none
    by_cases xa : x = "and" ∨ x = "or"
    · -- and, or
      obtain ⟨k, hk⟩ : ∃ k, x = kindOf k := by
        rcases xa with z | z
        · exact ⟨true, z⟩
        · exact ⟨false, z⟩
      subst hk
      have es : ∃ q, sym1 (kindOf k) = [q] ∧ (q = .A ∨ q = .O) := by cases k <;> first | exact ⟨.A, rfl, .inl rfl⟩ | exact ⟨.O, rfl, .inr rfl⟩
      obtain ⟨q, hq, hq2⟩ := es
      rw [hq, can_op]
      rw [can_op] at none_of
      cases hw : st.wanted with
      | true =>
        rw [hw] at none_of
        right
        refine ⟨none_of rfl, dead_at q true ?_ fun d => ?_⟩
        · rcases hq2 with z | z <;> rw [z] <;> rfl
        · rcases hq2 with z | z <;> rw [z] <;> rfl
      | false =>
        rw [hw] at none_of
        cases n with
        | succ n =>
          right
          refine ⟨none_of ?_, ?_⟩
          · have : (((n + 1 : Nat) : Int) == 0) = false := beq_eq_false_iff_ne.mpr (by omega)
            rw [this] <;> rfl
          · show Bad (runS none _)
            rw [run_none]
            exact bad_none
        | zero =>
          have er : runS (some (begS false, D)) (List.replicate 0 Sym.L ++ ([q] ++ List.replicate m Sym.R)) = runS (some (.space, D)) (List.replicate m Sym.R) := by
            rcases hq2 with z | z <;> rw [z] <;> rfl
          rw [er]
          cases m with
          | succ m =>
            right
            refine ⟨none_of ?_, ?_⟩
            · have : (((m + 1 : Nat) : Int) == 0) = false := beq_eq_false_iff_ne.mpr (by omega)
              rw [this]
              rfl
            · rw [run_stuck (by decide) D (m + 1) (by omega)]
              exact bad_none
          | zero =>
            left
            have nn : ¬ (D : Int) + ((0 : Nat) : Int) - ((0 : Nat) : Int) < 0 := by omega
            rw [decide_eq_false nn]
            refine ⟨_, D, if_neg (by simp), by show (D : Int) + ((0 : Nat) : Int) - ((0 : Nat) : Int) = _; omega, ?_⟩
            have eo : isOper (kindOf k) = true := by cases k <;> decide +kernel
            show some (Md.space, D) = some (endS (isOper (kindOf k)), D)
            rw [eo]
            rfl
    · by_cases xn : x = "not"
      · subst xn
        have hq : sym1 ("not" : Str) = [.N] := rfl
        rw [hq, can_not]
        rw [can_not] at none_of
        cases hw : st.wanted with
        | false =>
          rw [hw] at none_of
          right
          exact ⟨none_of rfl, dead_at .N false rfl fun d => rfl⟩
        | true =>
          rw [hw] at none_of
          have er : runS (some (begS true, D)) (List.replicate n Sym.L ++ ([Sym.N] ++ List.replicate m Sym.R)) = runS (some (.space, D + n)) (List.replicate m Sym.R) := by
            show runS (some (if true then Md.want else Md.op, D)) _ = _
            rw [start_run, if_pos rfl]
            rfl
          rw [er]
          cases m with
          | succ m =>
            right
            refine ⟨none_of ?_, ?_⟩
            · have : (((m + 1 : Nat) : Int) == 0) = false := beq_eq_false_iff_ne.mpr (by omega)
              rw [this]
              rfl
            · rw [run_stuck (by decide) _ (m + 1) (by omega)]
              exact bad_none
          | zero =>
            left
            have nn : ¬ (D : Int) + (n : Int) - ((0 : Nat) : Int) < 0 := by omega
            rw [decide_eq_false nn]
            refine ⟨_, D + n, if_neg (by simp), by show (D : Int) + (n : Int) - ((0 : Nat) : Int) = ((D + n : Nat) : Int); omega, ?_⟩
            have eo : isOper ("not" : Str) = true := by decide +kernel
            show some (Md.space, D + n) = some (endS (isOper ("not" : Str)), D + n)
            rw [eo]
            rfl
      · have n1 : (x == ("and" : Str)) = false := beq_eq_false_iff_ne.mpr fun z => xa (.inl z)
        have n2 : (x == ("or" : Str)) = false := beq_eq_false_iff_ne.mpr fun z => xa (.inr z)
        have n3 : (x == ("not" : Str)) = false := beq_eq_false_iff_ne.mpr xn
        have ho : isOper x = false := by rw [oper_cases, n1, n2, n3]; rfl
        have es : sym1 x = if x == "" then [] else if ((two.any fun y => y == x) || lawWord x) = true then [.W] else [.Q] := by
          unfold sym1
          rw [n1, n2, n3]
          rfl
        rw [es, can_other ho, ho]
        rw [can_other ho, ho] at none_of
        by_cases xe : x = ""
        · subst xe
          right
          have q : (isConst ("" : Str) || isWord ("" : Str)) = false := by decide +kernel
          rw [q] at none_of ⊢
          refine ⟨none_of (by cases st.wanted <;> rfl), ?_⟩
          show Bad (runS _ (List.replicate n Sym.L ++ ([] ++ List.replicate m Sym.R)))
          refine stuck_run _ D n m [] fun d => ?_
          show Bad (runS (some (begS st.wanted, d)) _)
          cases m with
          | zero =>
            show Bad (some (begS st.wanted, d))
            cases st.wanted
            · exact bad_op d
            · exact bad_want d
          | succ m =>
            rw [run_stuck (by cases st.wanted <;> decide) d (m + 1) (by omega)]
            exact bad_none
        · rw [beq_eq_false_iff_ne.mpr xe, if_neg Bool.false_ne_true, lawWord_is]
          show _ ∨ _
          have ec : (two.any fun y => y == x) = isConst x := rfl
          rw [ec]
          cases hcw : isConst x || isWord x with
          | false =>
            right
            rw [hcw] at none_of
            rw [if_neg Bool.false_ne_true]
            refine ⟨none_of (by cases st.wanted <;> rfl), dead_at .Q st.wanted ?_ fun d => ?_⟩
            · cases st.wanted <;> rfl
            · cases st.wanted <;> rfl
          | true =>
            rw [hcw] at none_of
            rw [if_pos rfl]
            cases hw : st.wanted with
            | false =>
              rw [hw] at none_of
              right
              exact ⟨none_of rfl, dead_at .W false rfl fun d => rfl⟩
            | true =>
              have er : runS (some (begS true, D)) (List.replicate n Sym.L ++ ([Sym.W] ++ List.replicate m Sym.R)) = runS (some (.done, D + n)) (List.replicate m Sym.R) := by
                show runS (some (if true then Md.want else Md.op, D)) _ = _
                rw [start_run, if_pos rfl]
                rfl
              rw [er, run_shuts]
              by_cases hm : m ≤ D + n
              · left
                have nn : ¬ (D : Int) + (n : Int) - (m : Int) < 0 := by omega
                rw [decide_eq_false nn]
                refine ⟨_, D + n - m, if_neg (by simp), by show (D : Int) + (n : Int) - (m : Int) = ((D + n - m : Nat) : Int); omega, ?_⟩
                rw [if_pos hm]
                rfl
              · right
                have nn : (D : Int) + (n : Int) - (m : Int) < 0 := by omega
                rw [decide_eq_true nn, if_neg hm]
                exact ⟨rfl, bad_none⟩
theorem endS_S (w : Bool) (d : Nat) : stS (some (endS w, d)) .S = some (begS w, d) := by cases w <;> cases d <;> rfl
theorem run_last {l : List Nat} (h : 32 ∉ l) (st : PSt) (D : Nat) (hD : st.depth = (D : Int)) :
    ((∃ st', runP (some st) (pcs l) = some st' ∧ st'.wanted = false ∧ ¬ 0 < st'.depth) ↔ runS (some (begS st.wanted, D)) (tauF "" l) = some (.done, 0)) := by
  rw [pcs_one h]
  show (∃ st', runP (stepP st (mS l)) [] = some st' ∧ _) ↔ _
  rcases piece_run h st D hD with ⟨st2, D2, q1, q2, q3⟩ | ⟨q1, _, q2⟩
  · rw [q1, q3]
    constructor
    · rintro ⟨st', w, w2, w3⟩
      have e : st2 = st' := Option.some.inj w
      subst e
      rw [w2]
      rw [q2] at w3
      have : D2 = 0 := by omega
      rw [this]
      rfl
    · intro w
      have w2 := Option.some.inj w
      injection w2 with w3 w4
      refine ⟨st2, rfl, ?_, by rw [q2, w4]; decide⟩
      cases q : st2.wanted with
      | false => rfl
      | true =>
        rw [q] at w3
        cases w3
  · rw [q1]
    constructor
    · rintro ⟨st', w, _⟩
      cases w
    · intro w
      exact absurd w q2
theorem run_agree : ∀ (k : Nat) (l : List Nat), l.length ≤ k → ∀ (st : PSt) (D : Nat), st.depth = (D : Int) →
    ((∃ st', runP (some st) (pcs l) = some st' ∧ st'.wanted = false ∧ ¬ 0 < st'.depth) ↔ runS (some (begS st.wanted, D)) (tauF "" l) = some (.done, 0)) := by
  intro k
  induction k with
  | zero =>
    intro l hl st D hD
    have e : l = [] := List.eq_nil_of_length_eq_zero (Nat.le_zero.mp hl)
    subst e
    exact run_last (fun z => by cases z) st D hD
  | succ k ih =>
    intro l hl st D hD
    by_cases h : 32 ∈ l
    · obtain ⟨p, r, e, hp⟩ := List.eq_append_cons_of_mem h
      subst e
      rw [pcs_app, pcs_one hp, runP_app, tau_cut (b := 32) rfl, run_app]
      show (∃ st', runP (runP (stepP st (mS p)) []) (pcs r) = some st' ∧ _) ↔ runS (stS (runS _ (tauF "" p)) .S) (tauF "" r) = _
      rcases piece_run hp st D hD with ⟨st2, D2, q1, q2, q3⟩ | ⟨q1, q2, _⟩
      · rw [q1, q3, endS_S]
        exact ih r (by simp at hl; omega) st2 D2 q2
      · rw [q1, q2, run_none]
        constructor
        · rintro ⟨st', w, _⟩
          rw [show runP none ([] : List Str) = none from rfl, runP_none] at w
          cases w
        · intro w
          cases w
    · exact run_last h st D hD
theorem runP_ne : ∀ (l : List Str) (st st' : PSt), runP (some st) l = some st' → (st.signs ≠ [] ∨ l ≠ []) → st'.signs ≠ []
  | [], st, st', h, q => by
    have e : st = st' := Option.some.inj h
    rcases q with q | q
    · rw [← e]
      exact q
    · exact absurd rfl q
  | p :: l, st, st', h, _ => by
    have h2 : runP (stepP st p) l = some st' := h
    cases q : stepP st p with
    | none =>
      rw [q, runP_none] at h2
      cases h2
    | some st2 =>
      rw [q] at h2
      refine runP_ne l st2 st' h2 (.inl ?_)
      unfold stepP at q
      split at q
      · cases q
      · cases q
        unfold signsP
        simp
theorem pcs_ne (l : List Nat) : pcs l ≠ [] := by
  unfold pcs
  intro h
  have h2 := List.map_eq_nil_iff.mp h
  have w : ∀ (l acc : List Nat), spl [32] 0 acc l ≠ [] := by
    intro l
    induction l with
    | nil =>
      intro acc
      rw [spl_nil]
      simp
    | cons x r ih =>
      intro acc
      by_cases e : x = 32
      · rw [e, spl_hit (by rfl)]
        simp
      · rw [spl_miss (pre_of_head [] r e)]
        exact ih _
  exact w l [] h2
/-- the law's formulas are the program's -/
theorem lawFormula_is (z : Str) : lawFormula z = true ↔ signsOf z ≠ [] := by
  have a := run_agree (tl z).length (tl z) (Nat.le_refl _) start0 0 rfl
  have b := shrN_acc (lawSigns z) (tauF "" (tl z)) (lawSigns_tau z)
  have c : lawFormula z = true ↔ accS (tauF "" (tl z)) := b
  rw [c]
  have d : accS (tauF "" (tl z)) ↔ _ := a.symm
  rw [d]
  unfold signsOf
  rw [split_pcs]
  cases q : runP (some start0) (pcs (tl z)) with
  | none =>
    constructor
    · rintro ⟨st', w, _⟩
      cases w
    · intro w
      exact absurd rfl w
  | some st =>
    have ne := runP_ne _ _ _ q (.inr (pcs_ne _))
    dsimp only
    constructor
    · rintro ⟨st', w, w2, w3⟩
      have e : st = st' := Option.some.inj w
      subst e
      rw [w2, decide_eq_false w3]
      exact ne
    · intro w
      refine ⟨st, rfl, ?_, ?_⟩
      · cases q2 : st.wanted with
        | false => rfl
        | true =>
          rw [q2] at w
          exact absurd rfl w
      · intro w3
        rw [decide_eq_true w3, Bool.or_true] at w
        exact absurd rfl w
end Fx
set_option maxHeartbeats 2000000
namespace Fx
open PySem PySem.Spec PyProof.Rows L2 TL

/-! ### a tree's own text is one of its texts -/
theorem flat_mem_dep {k : Bool} {ts : List LT} {x : LT} (h : x ∈ flatL k ts) : depT x ≤ depL ts := by
  obtain ⟨i, hi⟩ := List.mem_iff_getElem?.mp h
  exact Nat.le_trans (depL_mem hi) (dep_flatL k ts)
theorem txt_stable : ∀ (n m : Nat) (t : LT), depT t ≤ n → depT t ≤ m → txtN n t = txtN m t
  | n, m, .word z, _, _ => by cases n <;> cases m <;> rfl
  | n, m, .cst b, _, _ => by cases n <;> cases m <;> rfl
  | 0, _, .neg t, h, _ => absurd h (Nat.not_succ_le_zero _)
  | _, 0, .neg t, _, h => absurd h (Nat.not_succ_le_zero _)
  | n + 1, m + 1, .neg t, h1, h2 => by
    show ("not " : Str) ++ clo ["and", "or"] t (txtN n t) = ("not " : Str) ++ clo ["and", "or"] t (txtN m t)
    rw [txt_stable n m t (Nat.le_of_succ_le_succ h1) (Nat.le_of_succ_le_succ h2)]
  | 0, _, .nary k ts, h, _ => absurd h (Nat.not_succ_le_zero _)
  | _, 0, .nary k ts, _, h => absurd h (Nat.not_succ_le_zero _)
  | n + 1, m + 1, .nary k ts, h1, h2 => by
    show Str.join (sepK k) ((flatL k ts).map fun t => clo (kindsOf k) t (txtN n t)) = Str.join (sepK k) ((flatL k ts).map fun t => clo (kindsOf k) t (txtN m t))
    congr 1
    refine List.map_congr_left fun x hx => ?_
    have w := flat_mem_dep hx
    rw [txt_stable n m x (Nat.le_trans w (Nat.le_of_succ_le_succ h1)) (Nat.le_trans w (Nat.le_of_succ_le_succ h2))]
theorem flat_ne {ws : List Str} (k : Bool) : ∀ (d : Nat) (t : LT), LtOk ws d t → flat1 k t ≠ [] := by
  intro d
  induction d with
  | zero =>
    intro t h
    cases t with
    | word z => simp [flat1]
    | cst b => simp [flat1]
    | neg t => exact False.elim h
    | nary j ts => exact False.elim h
  | succ d ih =>
    intro t h
    cases t with
    | word z => simp [flat1]
    | cst b => simp [flat1]
    | neg t => simp [flat1]
    | nary j ts =>
      obtain ⟨h1, h2⟩ := (show (ts.length = 2 ∨ ts.length = 3) ∧ ∀ t ∈ ts, LtOk ws d t from h)
      by_cases e : j = k
      · subst e
        rw [flat_nary]
        cases ts with
        | nil => rcases h1 with w | w <;> cases w
        | cons x ts =>
          intro q
          have q2 : flat1 j x ++ flatL j ts = [] := q
          exact ih x (h2 x List.mem_cons_self) (List.append_eq_nil_iff.mp q2).1
      · rw [flat_other e]
        simp
theorem clo_wrap (k : Bool) (t : LT) (u : Str) : clo (kindsOf k) t u = wrapK k t u := by
  unfold clo wrapK
  cases k
  · rw [Bool.and_false]
    rfl
  · rw [Bool.and_true]
    have e : ((kindsOf true).any fun y => y == headOf t) = (headOf t == "or") := by
      show (("or" : Str) == headOf t || false) = _
      rw [Bool.or_false, swp]
    rw [e]
theorem part_join {ws : List Str} (k : Bool) (d n : Nat) (t : LT) (h : LtOk ws d t) (hn : depT t ≤ n) : Str.join (sepK k) ((flat1 k t).map (partT k n)) = wrapK k t (txtN n t) := by
  rw [← clo_wrap]
  cases t with
  | word z => rfl
  | cst b => rfl
  | neg t => rfl
  | nary j ts =>
    by_cases e : j = k
    · subst e
      rw [flat_nary, clo_no (by rw [head_nary]; cases j <;> rfl)]
      cases n with
      | zero => exact absurd hn (Nat.not_succ_le_zero _)
      | succ n =>
        show _ = Str.join (sepK j) ((flatL j ts).map fun t => clo (kindsOf j) t (txtN n t))
        congr 1
        refine List.map_congr_left fun x hx => ?_
        have w := flat_mem_dep hx
        unfold partT
        rw [txt_stable (n + 1) n x (Nat.le_trans w (Nat.le_of_succ_le hn)) (Nat.le_trans w (Nat.le_of_succ_le_succ hn))]
    · rw [flat_other e]
      rfl
theorem parts_join {ws : List Str} (k : Bool) (d n : Nat) : ∀ (ts : List LT), (∀ t ∈ ts, LtOk ws d t) → depL ts ≤ n → ts ≠ [] → Str.join (sepK k) ((flatL k ts).map (partT k n)) = Str.join (sepK k) (ts.map fun t => wrapK k t (txtN n t))
  | [], _, _, h => absurd rfl h
  | [t], h, hn, _ => by
    have e : flatL k [t] = flat1 k t := List.append_nil _
    rw [e, part_join k d n t (h t List.mem_cons_self) (Nat.le_trans (Nat.le_max_left _ _) hn)]
    rfl
  | t :: t2 :: ts, h, hn, _ => by
    have e : flatL k (t :: t2 :: ts) = flat1 k t ++ flatL k (t2 :: ts) := rfl
    have n1 : (flat1 k t).map (partT k n) ≠ [] := fun q => flat_ne k d t (h t List.mem_cons_self) (List.map_eq_nil_iff.mp q)
    have n2 : (flatL k (t2 :: ts)).map (partT k n) ≠ [] := fun q => by
      have q2 : flat1 k t2 ++ flatL k ts = [] := List.map_eq_nil_iff.mp q
      exact flat_ne k d t2 (h t2 (List.mem_cons_of_mem _ List.mem_cons_self)) (List.append_eq_nil_iff.mp q2).1
    rw [e, List.map_append, join_app _ _ _ n1 n2, part_join k d n t (h t List.mem_cons_self) (Nat.le_trans (Nat.le_max_left _ _) hn),
      parts_join k d n (t2 :: ts) (fun x hx => h x (List.mem_cons_of_mem _ hx)) (Nat.le_trans (Nat.le_max_right _ _) hn) (by simp)]
    rfl
theorem cores_map (k : Bool) (u : LT → Str) : ∀ ts : List LT, (∀ t ∈ ts, paren (u t) (Core t)) → Cores k ts (ts.map fun t => wrapK k t (u t))
  | [], _ => rfl
  | t :: ts, h => ⟨u t, _, rfl, h t List.mem_cons_self, cores_map k u ts fun x hx => h x (List.mem_cons_of_mem _ hx)⟩
theorem dep_ok {ws : List Str} : ∀ (d : Nat) (t : LT), LtOk ws d t → depT t ≤ d := by
  intro d
  induction d with
  | zero =>
    intro t h
    cases t with
    | word z => exact Nat.le_refl _
    | cst b => exact Nat.le_refl _
    | neg t => exact False.elim h
    | nary j ts => exact False.elim h
  | succ d ih =>
    intro t h
    cases t with
    | word z => exact Nat.zero_le _
    | cst b => exact Nat.zero_le _
    | neg t => exact Nat.succ_le_succ (ih t h)
    | nary j ts =>
      obtain ⟨h1, h2⟩ := (show (ts.length = 2 ∨ ts.length = 3) ∧ ∀ t ∈ ts, LtOk ws d t from h)
      refine Nat.succ_le_succ ?_
      clear h1 h
      induction ts with
      | nil => exact Nat.zero_le _
      | cons x ts ih2 => exact Nat.max_le.mpr ⟨ih x (h2 x List.mem_cons_self), ih2 fun y hy => h2 y (List.mem_cons_of_mem _ hy)⟩
theorem core_txt {ws : List Str} : ∀ (d : Nat) (t : LT), LtOk ws d t → ∀ n, depT t ≤ n → Core t (txtN n t) := by
  intro d
  induction d with
  | zero =>
    intro t h n hn
    cases t with
    | word z => cases n <;> rfl
    | cst b => cases n <;> rfl
    | neg t => exact False.elim h
    | nary j ts => exact False.elim h
  | succ d ih =>
    intro t h n hn
    cases t with
    | word z => cases n <;> rfl
    | cst b => cases n <;> rfl
    | neg t =>
      cases n with
      | zero => exact absurd hn (Nat.not_succ_le_zero _)
      | succ n =>
        refine ⟨txtN n t, .inl (ih t h n (Nat.le_of_succ_le_succ hn)), ?_⟩
        show ("not " : Str) ++ clo ["and", "or"] t (txtN n t) = wrapN t (txtN n t)
        unfold clo wrapN
        split
        · have e0 : ("not (" : Str) = ("not " : Str) ++ ("(" : Str) := by decide +kernel
          rw [e0]
          simp only [app_asc]
        · rfl
    | nary k ts =>
      obtain ⟨h1, h2⟩ := (show (ts.length = 2 ∨ ts.length = 3) ∧ ∀ t ∈ ts, LtOk ws d t from h)
      cases n with
      | zero => exact absurd hn (Nat.not_succ_le_zero _)
      | succ n =>
        have hn2 : depL ts ≤ n := Nat.le_of_succ_le_succ hn
        refine ⟨_, cores_map k (txtN n) ts fun t ht => .inl (ih t (h2 t ht) n ?_), ?_⟩
        · obtain ⟨i, hi⟩ := List.mem_iff_getElem?.mp ht
          exact Nat.le_trans (depL_mem hi) hn2
        · have w := parts_join k d n ts h2 hn2 (fun e => by rw [e] at h1; rcases h1 with q | q <;> cases q)
          exact w
def midK (k : Bool) : Str := if k then ") and (" else ") or ("
theorem core_bin (k : Bool) {t1 t2 : LT} {u1 u2 : Str} (h1 : Core t1 u1) (h2 : Core t2 u2) : Core (.nary k [t1, t2]) (binText (midK k) u1 u2) := by
  have one : ∀ (t : LT) (u : Str), Core t u → ∃ v, paren v (Core t) ∧ wrapK k t v = "(" ++ u ++ ")" := by
    intro t u h
    by_cases w : ((headOf t == "or") && k) = true
    · refine ⟨u, .inl h, ?_⟩
      unfold wrapK
      rw [w]
      rfl
    · refine ⟨"(" ++ u ++ ")", .inr ⟨u, h, rfl⟩, ?_⟩
      unfold wrapK
      rw [Bool.not_eq_true] at w
      rw [w]
      rfl
  obtain ⟨v1, p1, e1⟩ := one t1 u1 h1
  obtain ⟨v2, p2, e2⟩ := one t2 u2 h2
  refine ⟨[wrapK k t1 v1, wrapK k t2 v2], ⟨v1, _, rfl, p1, v2, _, rfl, p2, rfl⟩, ?_⟩
  rw [e1, e2]
  show _ = ("(" ++ u1 ++ ")" : Str) ++ (" " ++ kindOf k ++ " ") ++ ("(" ++ u2 ++ ")")
  have em : midK k = ")" ++ (" " ++ kindOf k ++ " ") ++ "(" := by cases k <;> decide +kernel
  unfold binText
  rw [em, emp_app]
  simp only [app_asc]
theorem core_neg {t : LT} {u : Str} (h : Core t u) : Core (.neg t) (negText u) := by
  by_cases w : ((["and", "or"] : List Str).any fun y => y == headOf t) = true
  · refine ⟨u, .inl h, ?_⟩
    unfold wrapN negText
    rw [w, emp_app]
    rfl
  · refine ⟨"(" ++ u ++ ")", .inr ⟨u, h, rfl⟩, ?_⟩
    unfold wrapN negText
    rw [Bool.not_eq_true] at w
    rw [w, emp_app, if_neg Bool.false_ne_true]
    have e0 : ("not (" : Str) = ("not " : Str) ++ ("(" : Str) := by decide +kernel
    rw [e0]
    simp only [app_asc]
/-! ### Formula objects of a tree -/
def IsF (H : Hp) (C a : Addr) (t : LT) : Prop := ∃ f, Rel t f ∧ FmAt H C a (post f) ∧ wt (post f) ≤ 4000000 ∧ ∀ s ∈ post f, PyData.strOk s = true
theorem IsF.same {H G : Hp} {C a : Addr} {t : LT} (s : Same H G) (h : IsF H C a t) : IsF G C a t := by
  obtain ⟨f, h1, h2, h3⟩ := h
  exact ⟨f, h1, h2.same s, h3⟩
theorem read_fm {t : LT} {s : Str} (h : Read t s) (hl : s.length ≤ 3900) : signsOf s ≠ [] ∧ ∀ (G : Hp) (C a : Addr), FmAt G C a (codeOf (signsOf s)) → IsF G C a t := by
  obtain ⟨l, f, h1, h2, h3, _⟩ := h
  rw [h1.signs]
  refine ⟨h1.ne, fun G C a g => ⟨f, h3, by rw [← h2.code]; exact g, ?_, fun x hx => h1.ok x (h2.sub x hx)⟩⟩
  have w1 := h1.wl
  have w2 := h2.wl
  rw [← len_tl] at w1
  omega
theorem six_leaf : ∀ z ∈ sixWords, LeafOk z ∧ isConst z = false := by
  intro z hz
  have key : ∀ z ∈ sixWords, (isOper z = false ∧ (isConst z || isWord z) = true ∧ 32 ∉ tl z ∧ 40 ∉ tl z ∧ 41 ∉ tl z ∧ 1 ≤ z.length ∧ PyData.strOk z = true) ∧ isConst z = false := by decide +kernel
  obtain ⟨⟨a, b, c, d, e, f, g⟩, h⟩ := key z hz
  exact ⟨⟨a, b, c, d, e, f, g⟩, h⟩
theorem read_loose {d : Nat} {t : LT} {s : Str} (h : LtOk sixWords d t) (hs : Loose t s) : Read t s := read_paren (read_core six_leaf d t h) hs
theorem read_text {d n : Nat} {t : LT} (h : LtOk sixWords d t) (hn : depT t ≤ n) : Read t (txtN n t) := read_core six_leaf d t h _ (core_txt d t h n hn)
/-- words, each once -/
def addU (acc : List Str) (s : Str) : List Str := if (acc.any fun y => y == s) then acc else acc ++ [s]
def uniq (l : List Str) : List Str := l.foldl addU []
theorem words_lvs : ∀ (f : Fm) (acc : List Str), WF f → (post f).foldl addWord acc = (lvs f).foldl addU acc
  | .leaf s, acc, h => by
    show addWord acc s = (if isConst s then [] else [s]).foldl addU acc
    unfold addWord
    rw [show isOper s = false from h]
    cases isConst s with
    | true => rfl
    | false =>
      show (if (!(acc.any fun y => y == s)) = true then acc ++ [s] else acc) = (if (acc.any fun y => y == s) = true then acc else acc ++ [s])
      cases (acc.any fun y => y == s) <;> rfl
  | .neg t, acc, h => by
    show (post t ++ [("not" : Str)]).foldl addWord acc = (lvs t).foldl addU acc
    rw [List.foldl_append, words_lvs t acc h]
    rfl
  | .bin s a b, acc, h => by
    obtain ⟨hs, ha, hb⟩ := h
    show (post a ++ post b ++ [s]).foldl addWord acc = (lvs a ++ lvs b).foldl addU acc
    rw [List.foldl_append, List.foldl_append, words_lvs a acc ha, words_lvs b _ hb, List.foldl_append]
    show addWord _ s = _
    unfold addWord
    rw [show isOper s = true from (not_bin hs).1]
    rfl
theorem words_rel {t : LT} {f : Fm} (h : Rel t f) : wordsOf (post f) = uniq (leavT t) := by
  unfold wordsOf uniq
  rw [words_lvs f [] h.wf, h.lv]
end Fx
set_option maxHeartbeats 2000000
namespace Fx
open PySem PySem.Spec PyProof.Rows L2 TL

/-! ### lists of texts and of truth values as data -/
theorem can_strL : ∀ {l : List Str}, (∀ z ∈ l, PyData.strOk z = true) → PyData.canLayAll0 (l.map PyData.str) = true
  | [], _ => rfl
  | z :: l, h => by
    show (PyData.strOk z && PyData.canLayAll0 (l.map PyData.str)) = true
    rw [can_strL fun x hx => h x (List.mem_cons_of_mem _ hx), h z List.mem_cons_self]
    rfl
theorem depth_strL : ∀ l : List Str, PyData.depthAll (l.map PyData.str) ≤ 0
  | [] => Nat.le_refl _
  | _ :: l => Nat.max_le.mpr ⟨Nat.le_refl _, depth_strL l⟩
theorem shaped_strL {l : List Str} (h : ∀ z ∈ l, PyData.strOk z = true) : SeqAt.shaped (.list (l.map PyData.str)) = true := by
  have h1 := depth_strL l
  have h2 : PyData.depth (.list (l.map PyData.str)) ≤ 64 := by
    show PyData.depthAll _ + 1 ≤ 64
    omega
  unfold SeqAt.shaped
  rw [decide_eq_true h2]
  show (PyData.canLayAll0 _ && true) = true
  rw [can_strL h] <;> rfl
theorem dp_strL {K : PySem.W.Frag} {H : Hp} : ∀ l : List Str, DpAll K H (l.map V.str) (l.map PyData.str)
  | [] => .nil
  | z :: l => .cons (.str z) (dp_strL l)
theorem eqv_strL : ∀ l : List Str, PyData.eqvAll (l.map PyData.str) (l.map PyData.str) = true
  | [] => by simp [PyData.eqvAll]
  | z :: l => by simp [PyData.eqvAll, PyData.eqv, eqv_strL l]
theorem can_blL : ∀ l : List Bool, PyData.canLayAll0 (l.map PyData.bool) = true
  | [] => rfl
  | b :: l => by
    show (true && PyData.canLayAll0 (l.map PyData.bool)) = true
    rw [can_blL l]
    rfl
theorem depth_blL : ∀ l : List Bool, PyData.depthAll (l.map PyData.bool) ≤ 0
  | [] => Nat.le_refl _
  | _ :: l => Nat.max_le.mpr ⟨Nat.le_refl _, depth_blL l⟩
theorem shaped_blL (l : List Bool) : SeqAt.shaped (.list (l.map PyData.bool)) = true := by
  have h1 := depth_blL l
  have h2 : PyData.depth (.list (l.map PyData.bool)) ≤ 64 := by
    show PyData.depthAll _ + 1 ≤ 64
    omega
  unfold SeqAt.shaped
  rw [decide_eq_true h2]
  show (PyData.canLayAll0 _ && true) = true
  rw [can_blL l] <;> rfl
theorem dp_blL {K : PySem.W.Frag} {H : Hp} : ∀ l : List Bool, DpAll K H (l.map V.bl) (l.map PyData.bool)
  | [] => .nil
  | b :: l => .cons (.bl b) (dp_blL l)
theorem eqv_blL : ∀ l : List Bool, PyData.eqvAll (l.map PyData.bool) (l.map PyData.bool) = true
  | [] => by simp [PyData.eqvAll]
  | b :: l => by simp [PyData.eqvAll, PyData.eqv, eqv_blL l]
theorem uniq_sub : ∀ (l acc : List Str) (s : Str), s ∈ l.foldl addU acc → s ∈ acc ∨ s ∈ l
  | [], acc, s, h => .inl h
  | x :: l, acc, s, h => by
    rcases uniq_sub l (addU acc x) s h with w | w
    · unfold addU at w
      split at w
      · exact .inl w
      · rcases List.mem_append.mp w with w | w
        · exact .inl w
        · exact .inr (by rw [List.mem_singleton.mp w]; exact List.mem_cons_self)
    · exact .inr (List.mem_cons_of_mem _ w)
theorem addU_len (acc : List Str) (s : Str) : (addU acc s).length ≤ acc.length + 1 := by
  unfold addU
  split
  · omega
  · rw [List.length_append, List.length_singleton]
    exact Nat.le_refl _
theorem uniq_len : ∀ (l acc : List Str), (l.foldl addU acc).length ≤ acc.length + l.length
  | [], _ => Nat.le_refl _
  | x :: l, acc => by
    have h1 := uniq_len l (addU acc x)
    have h2 := addU_len acc x
    show (l.foldl addU (addU acc x)).length ≤ acc.length + (l.length + 1)
    omega
theorem uniq_snoc {l : List Str} {i : Nat} {z : Str} (h : l[i]? = some z) : uniq (l.take (i + 1)) = addU (uniq (l.take i)) z := by
  unfold uniq
  rw [take_snoc h, List.foldl_append]
  rfl
/-- lists of what holds -/
def InsOk (K : PySem.W.Frag) (H : Hp) : List V → List (Str → Bool) → Prop
  | [], ws => ws = []
  | x :: xs, ws => ∃ w r, ws = w :: r ∧ InOk K H x w ∧ InsOk K H xs r
theorem InsOk.len {K : PySem.W.Frag} {H : Hp} : ∀ {xs : List V} {ws : List (Str → Bool)}, InsOk K H xs ws → ws.length = xs.length
  | [], ws, h => by rw [show ws = [] from h]; rfl
  | _ :: _, _, ⟨w, r, e, _, h⟩ => by rw [e, List.length_cons, List.length_cons, InsOk.len h]
theorem InsOk.same {K : PySem.W.Frag} {H G : Hp} (s : Same H G) : ∀ {xs : List V} {ws : List (Str → Bool)}, InsOk K H xs ws → InsOk K G xs ws
  | [], ws, h => h
  | _ :: _, _, ⟨w, r, e, h1, h⟩ => ⟨w, r, e, h1.same s, InsOk.same s h⟩
theorem InsOk.at {K : PySem.W.Frag} {H : Hp} : ∀ {xs : List V} {ws : List (Str → Bool)} {i : Nat} {x : V}, InsOk K H xs ws → xs[i]? = some x → ∃ w, ws[i]? = some w ∧ InOk K H x w
  | [], _, _, _, _, e => by simp at e
  | x :: xs, _, 0, y, ⟨w, r, e, h1, _⟩, q => by
    have e2 : x = y := by simpa using q
    subst e2
    exact ⟨w, by rw [e]; rfl, h1⟩
  | x :: xs, _, i + 1, y, ⟨w, r, e, _, h⟩, q => by
    have e2 : xs[i]? = some y := by simpa using q
    obtain ⟨w2, a, b⟩ := InsOk.at h e2
    exact ⟨w2, by rw [e]; simpa using a, b⟩
theorem wt_len : ∀ l : List Str, l.length ≤ wt l
  | [] => Nat.le_refl _
  | x :: l => by
    have w1 := wt_len l
    rw [wt_cons, List.length_cons]
    omega
theorem b2_one (b : Bool) : (b2 b == 1) = b := by cases b <;> rfl
theorem boot_isi : PySem.bootBuiltins ("isinstance" : Str) = some (.builtin "isinstance") := by decide +kernel
structure RTxt (K : PySem.W.Frag) (w : World) (mg : Str → Option Value) : Prop where
  n : NTxt K mg
  bool : mg "bool" = none
section
variable {P : Program} {w : World} {K : PySem.W.Frag} {mg : Str → Option Value} {base : Heap} {f C fS fW fT fH fL fR : Addr} {fd fdS fdW fdT fdH fdL fdR : FuncData}
/-! ### _law_right -/
def spRight (K : PySem.W.Frag) (C : Addr) : Sp := fun vs H Q _ => ∃ (a : Addr) (tv : V) (sm : Addr) (t : LT) (xs : List V) (ws : List (Str → Bool)), vs = [.ref a, tv, .ref sm] ∧ IsF H C a t ∧ TreeAt H t tv ∧ SqL K H sm xs ∧ InsOk K H xs ws ∧
  depT t ≤ 4 ∧ lenT t ≤ 100000 ∧ (∀ z ∈ leavT t, PyData.strOk z = true) ∧ xs.length ≤ 100 ∧ ∀ G, Same H G → Q (.bl true) G
theorem sc_right : FnScope ["_law_formula", "_law_tree_here", "_law_some", "_law_words", "_law_word", "_law_found", "_law_one"] ["_law_formula", "_law_tree_here", "_law_some"] (defScope (tp 38)) := ⟨rfl, rfl, rfl, by decide +kernel, rfl, by decide +kernel, by decide +kernel⟩
theorem ok_right (F : FnT K "_law_right" 38 f fd) (T : RTxt K w mg) (X : FCls K C)
    (FL : FnT K "_law_leaves" 39 fL fdL) (gL : mg "_law_leaves" = some (.ref fL)) (GL : FnOk P w K mg base CX0 5 fL fdL ["_law_tree_here"] (spLeaves 4))
    (FT : FnT K "_law_text" 31 fT fdT) (gT : mg "_law_text" = some (.ref fT)) (GT : FnOk P w K mg base CX0 9 fT fdT ["_law_tree_here"] (spLText 4))
    (FR : FnT K "_law_true" 29 fR fdR) (gR : mg "_law_true" = some (.ref fR)) (GR : FnOk P w K mg base CX0 5 fR fdR ["_law_tree_here", "_law_words"] (spTrue K 4))
    (SC : SCls K C fS) (GS : FnOk P w K mg base CX0 3 fS fdS ["self"] (spMStr C)) (FS : FnI K "Formula.__str__" "__str__" 13 7 fS fdS)
    (MW : Meth K C "words" fW) (GW : FnOk P w K mg base CX0 2 fW fdW ["self"] (spMWords C)) (FW : FnI K "Formula.words" "words" 13 1 fW fdW)
    (MH : Meth K C "holds" fH) (GH : FnOk P w K mg base CX0 3 fH fdH ["self", "words"] (spHolds K C)) (FH : FnI K "Formula.holds" "holds" 13 2 fH fdH) :
    FnOk P w K mg base CX0 10 f fd ["_law_formula", "_law_tree_here", "_law_some"] (spRight K C) := by
  have bL : L2.Binds K fdL ["_law_tree_here"] [] := FL.bindsN fun _ _ _ _ _ _ us hl => match us, hl with | [_], _ => rfl
  have bT : L2.Binds K fdT ["_law_tree_here"] [] := FT.bindsN fun _ _ _ _ _ _ us hl => match us, hl with | [_], _ => rfl
  have bR : L2.Binds K fdR ["_law_tree_here", "_law_words"] [] := FR.bindsN fun _ _ _ _ _ _ us hl => match us, hl with | [_, _], _ => rfl
  have bS : L2.Binds K fdS ["self"] [] := FS.bindsN fun _ _ _ _ _ _ us hl => match us, hl with | [_], _ => rfl
  have bW : L2.Binds K fdW ["self"] [] := FW.bindsN fun _ _ _ _ _ _ us hl => match us, hl with | [_], _ => rfl
  have bH : L2.Binds K fdH ["self", "words"] [] := FH.bindsN fun _ _ _ _ _ _ us hl => match us, hl with | [_, _], _ => rfl
  refine F.ok sc_right (fun vs H Q E h => ?_) (fun cdv A outer s H vs Q E hr h => ⟨_, PSs.nox (pss_cons (ps_set (i := 3) sc_right.nd rfl (Or.inl rfl) (pe_lst pa_nil))
      (pss_cons (ps_for PassesOwn.never rfl (pi_list (pe_call GL (hr.mono (by decide)) rfl gL FL.kp bL .nil pass0 (pa_cons (pv 1) pa_nil))) (pg_name (i := 4) sc_right.nd rfl (Or.inl rfl)) (pss_one (ps_expr (pe_bm PySem.F.plainAttrs_list PySem.F.slot_list_extend PySem.F.type_list_extend mt_extend (pv 3) (pa_cons (pe_ifExp (pt_cmpR op_in_seq (pv 4) (pv 3) (by rfl)) (pe_lst pa_nil) (pe_lst (pa_cons (pv 4) pa_nil))) pa_nil)))))
      (pss_cons (ps_if (PW.pt (pw_or (pt_cmpR (op_neD hr.units) (pe_meth0 (pv 0) X.cl MW GW (hr.mono (by decide)) bW .nil pass0) (pv 3) (nomark _)) (pw_or1 (pt_cmpR op_ne (pe_callTy (call_strI SC GS (hr.mono (by decide)) bS) rfl T.n.str (by decide +kernel) (pa_cons (pv 0) pa_nil)) (pe_call GT (hr.mono (by decide)) rfl gT FT.kp bT .nil pass0 (pa_cons (pv 1) pa_nil)) (nomark _))))) (pss_one (ps_ret pe_bl)) pss_nil)
      (pss_cons ((ps_setLc (i := 5) (own := [("_law_one", 6)]) (g := gName 6) (tt := tYes) rfl sc_right.nd rfl rfl (sw_true rfl rfl rfl (by decide +kernel)) (pi_list (pv 2)) (blkOk_by (N := ["_law_formula", "_law_tree_here", "_law_some", "_law_words", "_law_word", "_law_found", "_law_one"]) (sc := defScope (tp 38)) (by decide +kernel)) (fun _ _ _ _ _ => (pg_name (i := 6) sc_right.nd rfl (Or.inl rfl))) (fun _ _ _ _ _ => pts_nil) (fun _ _ _ _ _ => (pe_meth (pv 0) X.cl MH GH (hr.mono (by decide)) bH .nil pass0 (pa_cons (pv 6) pa_nil)))))
      (pss_one (ps_ret (pe_and (pe_cmpR (op_eqD hr.units) (pv 5) (pe_lc (own := [("_law_one", 6)]) (g := gName 6) (tt := tYes) (te := _) rfl sc_right.nd (pi_list (pv 2)) (blkOk_by (N := ["_law_formula", "_law_tree_here", "_law_some", "_law_words", "_law_word", "_law_found", "_law_one"]) (sc := defScope (tp 38)) (by decide +kernel)) (fun _ _ _ _ _ => (pg_name (i := 6) sc_right.nd rfl (Or.inl rfl))) (fun _ _ _ _ _ => pts_nil) (fun _ _ _ _ _ => (pe_call GR (hr.mono (by decide)) rfl gR FR.kp bR .nil pass0 (pa_cons (pv 1) (pa_cons (pv 6) pa_nil))))) (nomark _)) (pe_one (pe_callB (cr_all rfl) rfl T.n.all (by decide +kernel) (pa_cons (pe_lc (own := [("_law_one", 6)]) (g := gName 6) (tt := tYes) (te := _) rfl sc_right.nd (pi_list (pv 5)) (blkOk_by (N := ["_law_formula", "_law_tree_here", "_law_some", "_law_words", "_law_word", "_law_found", "_law_one"]) (sc := defScope (tp 38)) (by decide +kernel)) (fun _ _ _ _ _ => (pg_name (i := 6) sc_right.nd rfl (Or.inl rfl))) (fun _ _ _ _ _ => pts_nil) (fun _ _ _ _ _ => (pe_callB (r := rIsi K) call_isi rfl T.n.isi boot_isi (pa_cons (pv 6) (pa_cons (pe_bltn (v := .ty "bool") rfl T.bool (by decide +kernel) rfl) pa_nil))))) pa_nil)))))))))), ?_⟩)
  · obtain ⟨a, tv, sm, t, xs, ws, rfl, _⟩ := h
    rfl
  · obtain ⟨a, tv, sm, t, xs, ws, rfl, isf, tr, hsm, hin, hd, hlen, hok, hxs, q⟩ := h
    have line : (300000 : Nat) ≤ sizeLine := by decide
    have hsz := siz_len t
    have hll := leavT_len t
    refine ⟨Nat.zero_le _, fun o ho => ?_⟩
    have so := same_new ho (u := .lst [])
    refine ⟨_, rfl, tv, t, rfl, treeAt_same so tr, hd, by omega, fun p G1 s1 hp g1 => ?_⟩
    have s01 := so.trans s1
    refine ⟨p, rfl, ⟨_, SqL.of g1⟩, for_list (K := K) (a := p) (xs := (leavT t).map V.str)
      (fun i σ F => ∃ o4 o5 o6, σ = [some (.ref a), some tv, some (.ref sm), some (.ref o), o4, o5, o6] ∧ Same H F ∧ F p = some (.lst ((leavT t).map V.str)) ∧ F o = some (.lst ((uniq ((leavT t).take i)).map V.str)))
      ⟨none, none, none, rfl, s01, g1, s1 _ _ upd_same⟩ (fun i σ F _ h => by
        obtain ⟨_, _, _, _, _, h, _⟩ := h
        exact SqL.of h) ?_ ?_⟩
    · rintro i x σ F hi ⟨o4, o5, o6, rfl, s2, g2, g3⟩
      obtain ⟨z, hz, rfl⟩ : ∃ z, (leavT t)[i]? = some z ∧ x = V.str z := by
        rw [List.getElem?_map] at hi
        cases e : (leavT t)[i]? with
        | none =>
          rw [e] at hi
          cases hi
        | some z =>
          rw [e] at hi
          exact ⟨z, rfl, (Option.some.inj hi).symm⟩
      have hul : (uniq ((leavT t).take i)).length ≤ (leavT t).length := by
        have w1 := uniq_len ((leavT t).take i) []
        have w2 := List.length_take_le i (leavT t)
        have w3 : (uniq ((leavT t).take i)).length ≤ 0 + ((leavT t).take i).length := w1
        have w4 := List.length_take_le' i (leavT t)
        omega
      have hne : o ≠ p := fun e => by
        rw [← e, upd_same] at hp
        cases hp
      rw [uniq_snoc hz]
      generalize uniq ((leavT t).take i) = us at g3 hul ⊢
      refine ⟨_, rfl, .inl ⟨rfl, _, SqL.of g3⟩, _, rfl, _, rfl, o, us.map V.str, rfl, .inl (SqL.of g3), rfl, flat_strs _, _, rfl, ?_⟩
      rw [in_val]
      unfold addU
      cases hq : us.any fun y => y == z with
      | true =>
        refine iteT ⟨Nat.zero_le _, fun e he => ?_⟩
        have se := same_new he (u := .lst [])
        have neo : e ≠ o := fun w => by rw [w, g3] at he; cases he
        refine ⟨o, e, us.map V.str, [], rfl, rfl, se _ _ g3, upd_same, by rw [List.length_map, List.length_nil]; omega, _, _, _, rfl, ?_, ?_, ?_⟩
        · intro b u hb
          rw [upd_ne (ne_of_none hb ho)]
          exact se _ _ (s2 _ _ hb)
        · rw [upd_ne (Ne.symm hne)]
          exact se _ _ g2
        · rw [if_pos rfl, List.append_nil]
          exact upd_same
      | false =>
        refine iteF ⟨_, rfl, (by show 1 ≤ sizeLine; decide), fun e he => ?_⟩
        have se := same_new he (u := .lst [.str z])
        refine ⟨o, e, us.map V.str, [.str z], rfl, rfl, se _ _ g3, upd_same, by rw [List.length_map]; show _ + 1 ≤ _; omega, _, _, _, rfl, ?_, ?_, ?_⟩
        · intro b u hb
          rw [upd_ne (ne_of_none hb ho)]
          exact se _ _ (s2 _ _ hb)
        · rw [upd_ne (Ne.symm hne)]
          exact se _ _ g2
        · rw [if_neg Bool.false_ne_true, List.map_append]
          exact upd_same
    · rintro σ F ⟨o4, o5, o6, rfl, s2, g2, g3⟩
      rw [List.length_map, List.take_length] at g3
      obtain ⟨fm, hrel, hfm, hw, hfs⟩ := isf
      have hul : (uniq (leavT t)).length ≤ (leavT t).length := by
        have w1 := uniq_len (leavT t) []
        have w3 : (uniq (leavT t)).length ≤ 0 + (leavT t).length := w1
        omega
      have hpl : (post fm).length ≤ 4000000 := by
        refine Nat.le_trans ?_ hw
        exact wt_len _
      have huok : ∀ z ∈ uniq (leavT t), PyData.strOk z = true := fun z hz => by
        rcases uniq_sub (leavT t) [] z hz with w1 | w1
        · cases w1
        · exact hok z w1
      have hwords := words_rel hrel
      have htxt := hrel.txt 4 hd
      obtain ⟨dx, pc, h1, h2⟩ := hfm
      have hF := s2 _ _ h1
      have wf := hrel.wf
      have hev := hrel.ev
      have hwl := hin.len
      -- formula.words()
      refine ⟨_, rfl, a, dx, _, rfl, hF, rfl, a, post fm, rfl, ⟨dx, pc, hF, s2 _ _ h2⟩, hpl, fun r G2 s3 hr0 gr => ?_⟩
      rw [hwords] at gr
      refine ⟨_, rfl, .list ((uniq (leavT t)).map PyData.str), .list ((uniq (leavT t)).map PyData.str), .lst (SqL.of gr) (dp_strL _), .lst (SqL.of (s3 _ _ g3)) (dp_strL _), shaped_strL huok, shaped_strL huok, false, ?_, iteF ?_⟩
      · have w1 : PyData.eqv (.list ((uniq (leavT t)).map PyData.str)) (.list ((uniq (leavT t)).map PyData.str)) = true := by
          rw [PyData.eqv]
          exact eqv_strL _
        rw [w1]
        rfl
      -- str(formula)
      have s23 := s2.trans s3
      refine ⟨_, rfl, a, dx, _, rfl, s3 _ _ hF, a, fm, rfl, ⟨dx, pc, s3 _ _ hF, s23 _ _ h2⟩, wf, hw, fun G3 s4 => ⟨_, rfl, _, rfl, tv, t, rfl, treeAt_same (s23.trans s4) tr, hd, hlen, fun G4 s5 => ⟨rfl, _, rfl, ?_⟩⟩⟩
      rw [htxt, dec_str, beq_self_eq_true]
      refine iteF ?_
      have s25 := (s23.trans s4).trans s5
      clear s3 s4 s5 gr hr0
      -- the list of what holds
      refine ⟨_, rfl, sm, rfl, ⟨_, s25.seq hsm⟩, fun D hD => ?_⟩
      have hmp : ∀ (j : Nat) (wj : Str → Bool), ws[j]? = some wj → (ws.take (j + 1)).map (fun x => ltT x t) = (ws.take j).map (fun x => ltT x t) ++ [ltT wj t] := fun j wj hj => by
        rw [take_snoc hj, List.map_append]
        rfl
      have hmlen : ∀ j, ((ws.take j).map fun x => ltT x t).length ≤ 100 := fun j => by
        have w1 := List.length_take_le' j ws
        rw [List.length_map]
        omega
      refine lc_list (K := K) (a := sm) (xs := xs) (fun i G => Same G4 G ∧ G D = some (.lst (((ws.take i).map fun x => ltT x t).map V.bl))) ⟨same_new hD, upd_same⟩ (fun i G _ h => h.1.seq (s25.seq hsm)) ?_ ?_
      · rintro j x G hj ⟨s6, g6⟩
        obtain ⟨wj, hwj, hix⟩ := hin.at hj
        have s26 := s25.trans s6
        refine ⟨rfl, ?_⟩
        dsimp only [tYes]
        rw [if_pos rfl]
        refine ⟨_, rfl, a, dx, _, rfl, s26 _ _ h1, rfl, _, rfl, a, x, fm, wj, rfl, ⟨dx, pc, s26 _ _ h1, s26 _ _ h2⟩, wf, hpl, hfs, hix.same s26, fun G7 s7 => ⟨_, s7 _ _ g6, ?_, ?_, ?_⟩⟩
        · rw [List.length_map]
          have := hmlen j
          omega
        · intro b u hb
          rw [upd_ne (ne_of_none hb hD)]
          exact s7 _ _ (s6 _ _ hb)
        · have w1 : evalT (fun s => b2 (wj s)) 1 fm = b2 (ltT wj t) := hev wj
          rw [w1, b2_one, hmp j wj hwj, List.map_append]
          exact upd_same
      · rintro G ⟨s6, g6⟩
        rw [← hwl, List.take_length] at g6
        have s26 := s25.trans s6
        have hbl : (ws.map fun x => ltT x t).length ≤ 100 := by
          have w1 := hmlen ws.length
          rwa [List.take_length] at w1
        -- the law's list
        refine ⟨_, rfl, _, rfl, sm, rfl, ⟨_, s26.seq hsm⟩, fun D2 hD2 => ?_⟩
        refine lc_list (K := K) (a := sm) (xs := xs) (fun i G2 => Same G G2 ∧ G2 D2 = some (.lst (((ws.take i).map fun x => ltT x t).map V.bl))) ⟨same_new hD2, upd_same⟩ (fun i G2 _ h => h.1.seq (s26.seq hsm)) ?_ ?_
        · rintro j x G2 hj ⟨s7, g7⟩
          obtain ⟨wj, hwj, hix⟩ := hin.at hj
          have s27 := s26.trans s7
          refine ⟨rfl, ?_⟩
          dsimp only [tYes]
          rw [if_pos rfl]
          refine ⟨_, rfl, _, rfl, tv, x, t, wj, rfl, treeAt_same s27 tr, hix.same s27, hd, by omega, hok, fun G3 s8 => ⟨_, s8 _ _ g7, ?_, ?_, ?_⟩⟩
          · rw [List.length_map]
            have := hmlen j
            omega
          · intro b u hb
            rw [upd_ne (ne_of_none hb hD2)]
            exact s8 _ _ (s7 _ _ hb)
          · rw [hmp j wj hwj, List.map_append]
            exact upd_same
        · rintro G2 ⟨s7, g7⟩
          rw [← hwl, List.take_length] at g7
          generalize (ws.map fun x => ltT x t) = bs at g6 g7 hbl
          have s27 := s26.trans s7
          refine ⟨.list (bs.map PyData.bool), .list (bs.map PyData.bool), .lst (SqL.of (s7 _ _ g6)) (dp_blL _), .lst (SqL.of g7) (dp_blL _), shaped_blL _, shaped_blL _, true, ?_, iteT ?_⟩
          · have w1 : PyData.eqv (.list (bs.map PyData.bool)) (.list (bs.map PyData.bool)) = true := by
              rw [PyData.eqv]
              exact eqv_blL _
            rw [w1]
          refine ⟨_, rfl, D, rfl, ⟨_, SqL.of (s7 _ _ g6)⟩, fun D3 hD3 => ?_⟩
          refine lc_list (K := K) (a := D) (xs := bs.map V.bl) (fun i G3 => Same G2 G3 ∧ G3 D3 = some (.lst ((List.replicate i true).map V.bl))) ⟨same_new hD3, upd_same⟩ (fun i G3 _ h => SqL.of (h.1 _ _ (s7 _ _ g6))) ?_ ?_
          · rintro j x G3 hj ⟨s8, g8⟩
            obtain ⟨b, hb, rfl⟩ : ∃ b, bs[j]? = some b ∧ x = V.bl b := by
              rw [List.getElem?_map] at hj
              cases e : bs[j]? with
              | none =>
                rw [e] at hj
                cases hj
              | some b =>
                rw [e] at hj
                exact ⟨b, rfl, (Option.some.inj hj).symm⟩
            have hjl := (List.getElem?_eq_some_iff.mp hb).1
            refine ⟨rfl, ?_⟩
            dsimp only [tYes]
            rw [if_pos rfl]
            refine ⟨_, rfl, .bl b, .ty "bool", .type "bool", .type "bool", true, rfl, .ty _, .base (.bl b), kit_ty (by decide +kernel), _, g8, ?_, ?_, ?_⟩
            · rw [List.length_map, List.length_replicate]
              omega
            · intro b u hb
              rw [upd_ne (ne_of_none hb hD3)]
              exact s8 _ _ hb
            · rw [List.replicate_succ', List.map_append]
              exact upd_same
          · rintro G3 ⟨s8, g8⟩
            refine ⟨D3, List.replicate (bs.map V.bl).length true, rfl, SqL.of g8, ?_⟩
            have e : (List.replicate (bs.map V.bl).length true).all id = true := by
              rw [List.all_eq_true]
              intro x hx
              rw [List.eq_of_mem_replicate hx]
              rfl
            rw [e]
            exact q G3 (s27.trans s8)
end
end Fx
set_option maxHeartbeats 2000000
namespace Fx
open PySem PySem.Spec PyProof.Rows L2 TL

/-! ### how much a text's code weighs -/
theorem popTo_wt (l : List Str) : wt (popTo l).1 + wt (popTo l).2.tail ≤ wt l := by
  have w1 := congrArg wt (popTo_app l)
  rw [wt_app] at w1
  have w2 : wt (popTo l).2.tail ≤ wt (popTo l).2 := by
    cases (popTo l).2 with
    | nil => exact Nat.le_refl _
    | cons x r =>
      rw [wt_cons]
      exact Nat.le_add_left _ _
  omega
theorem wt_nil : wt [] = 0 := rfl
theorem wt_step (cs : List Str × List Str) (s : Str) : wt (stepC cs s).1 + wt (stepC cs s).2 ≤ wt cs.1 + wt cs.2 + (s.length + 6) := by
  unfold stepC
  split
  · show wt cs.1 + wt (s :: cs.2) ≤ _
    rw [wt_cons]
    omega
  · split
    · have w := popTo_wt cs.2
      show wt (cs.1 ++ (popTo cs.2).1) + wt (popTo cs.2).2.tail ≤ _
      rw [wt_app]
      omega
    · split
      · have w1 := congrArg wt (popGe_app (rank s) cs.2)
        rw [wt_app] at w1
        show wt (cs.1 ++ (popGe (rank s) cs.2).1) + wt (s :: (popGe (rank s) cs.2).2) ≤ _
        rw [wt_app, wt_cons]
        omega
      · show wt (cs.1 ++ [s]) + wt cs.2 ≤ _
        rw [wt_app, wt_cons, wt_nil]
        omega
theorem wt_fold : ∀ (l : List Str) (cs : List Str × List Str), wt (l.foldl stepC cs).1 + wt (l.foldl stepC cs).2 ≤ wt cs.1 + wt cs.2 + wt l
  | [], cs => Nat.le_refl _
  | s :: l, cs => by
    have w1 := wt_fold l (stepC cs s)
    have w2 := wt_step cs s
    rw [wt_cons]
    show wt (l.foldl stepC (stepC cs s)).1 + wt (l.foldl stepC (stepC cs s)).2 ≤ _
    omega
theorem wt_code (l : List Str) : wt (codeOf l) ≤ wt l := by
  have w := wt_fold l ([], [])
  unfold codeOf runC
  rw [wt_app]
  have e : wt (([], []) : List Str × List Str).1 + wt (([], []) : List Str × List Str).2 = 0 := rfl
  omega
theorem wt_rep (n : Nat) (s : Str) : wt (List.replicate n s) = n * (s.length + 6) := by
  induction n with
  | zero => rw [Nat.zero_mul]; rfl
  | succ n ih =>
    rw [List.replicate_succ, wt_cons, ih, Nat.succ_mul]
    omega
theorem wt_signsP (p : Str) : wt (signsP p) ≤ 7 * p.length + 6 := by
  have h1 := len_behind p
  have h2 := len_core p
  unfold signsP openOf shutOf
  rw [wt_app, wt_app, wt_rep, wt_rep, wt_cons, wt_nil]
  have e1 : ("(" : Str).length = 1 := rfl
  have e2 : (")" : Str).length = 1 := rfl
  rw [e1, e2]
  omega
def wp (l : List Str) : Nat := (l.map fun p => 7 * p.length + 6).sum
theorem wt_runP : ∀ (l : List Str) (st st' : PSt), runP (some st) l = some st' → wt st'.signs ≤ wt st.signs + wp l
  | [], st, st', e => by
    cases e
    exact Nat.le_refl _
  | p :: l, st, st', e => by
    have e2 : runP (stepP st p) l = some st' := e
    cases q : stepP st p with
    | none =>
      rw [q, runP_none] at e2
      cases e2
    | some st2 =>
      rw [q] at e2
      have ih := wt_runP l st2 st' e2
      have h1 := wt_signsP p
      have h3 : st2.signs = st.signs ++ signsP p := by
        unfold stepP at q
        split at q
        · cases q
        · cases q
          rfl
      rw [h3, wt_app] at ih
      have h4 : wp (p :: l) = 7 * p.length + 6 + wp l := rfl
      omega
theorem wp_spl : ∀ (l acc : List Nat), wp ((spl [32] 0 acc l).map mS) ≤ 7 * (acc.length + l.length) + 6
  | [], acc => by
    rw [spl_nil]
    show 7 * (mS acc).length + 6 + 0 ≤ _
    have e : (mS acc).length = acc.length := len_tl _
    rw [e]
    exact Nat.le_refl _
  | c :: l, acc => by
    by_cases h : c = 32
    · have w := wp_spl l []
      rw [h, spl_hit (by rfl)]
      show 7 * (mS acc).length + 6 + wp ((spl [32] 0 [] l).map mS) ≤ _
      have e : (mS acc).length = acc.length := len_tl _
      rw [e, List.length_cons]
      simp only [List.length_nil] at w
      omega
    · have w := wp_spl l (acc ++ [c])
      rw [spl_miss (pre_of_head [] l h), List.length_cons]
      rw [List.length_append, List.length_singleton] at w
      omega
theorem wt_signs (z : Str) : wt (signsOf z) ≤ 7 * z.length + 6 := by
  unfold signsOf
  rw [split_pcs]
  cases q : runP (some start0) (pcs (tl z)) with
  | none => exact Nat.zero_le _
  | some st =>
    have w1 := wt_runP _ _ _ q
    have w2 := wp_spl (tl z) []
    have w3 : wt start0.signs = 0 := rfl
    have w4 : wp (pcs (tl z)) ≤ 7 * (0 + (tl z).length) + 6 := w2
    rw [len_tl]
    dsimp only
    split
    · exact Nat.zero_le _
    · omega
theorem wt_text {z : Str} (hz : z.length ≤ 3900) : wt (codeOf (signsOf z)) ≤ 4000000 := by
  have w1 := wt_code (signsOf z)
  have w2 := wt_signs z
  omega
theorem tyof_same {K : PySem.W.Frag} {H G : Hp} {v : V} {t : Value} (s : Same H G) (h : TyOf K H v t) : TyOf K G v t := by
  cases h with
  | non => exact .non
  | bl x => exact .bl x
  | int i => exact .int i
  | str x => exact .str x
  | flt x => exact .flt x
  | lst e => exact .lst (s _ _ e)
  | frz e => exact .frz (s _ _ e)
  | tup e => exact .tup (s _ _ e)
  | dK e => exact .dK (s _ _ e)
  | dT e => exact .dT (s _ _ e)
  | ins e cl ha hn htk hm => exact .ins (s _ _ e) cl ha hn htk hm
theorem tyx_same {K : PySem.W.Frag} {H G : Hp} {v : V} {t : Value} (s : Same H G) (h : TyX K H v t) : TyX K G v t := by
  cases h with
  | base h => exact .base (tyof_same s h)
  | byt b => exact .byt b
  | set e => exact .set (s _ _ e)
  | kList e c => exact .kList e c
  | kTuple e c => exact .kTuple e c
  | kDict e c => exact .kDict e c
  | fTuple e => exact .fTuple (s _ _ e)
  | fDict e => exact .fDict (s _ _ e)
theorem any_same {K : PySem.W.Frag} {H G : Hp} {v : V} (s : Same H G) (h : Any K H v) : Any K G v := by
  obtain ⟨t, b, ty, r⟩ := h
  exact ⟨t, b, tyx_same s ty, r⟩
/-- what a call that makes an own object may raise in a try of a def of n slots -/
theorem passMk {X : Cx} {W : WX} {n : Nat} (hn : X.N.length = n) (tk : Takes X W) : Passes (L2.CX X.prog X.w) X (fun cls d H => ∀ σ : L2.St, σ.length = n → W cls d σ H) :=
  fun pins σ H s e s' I c => tk e s' (XE.of_call I (fun _ _ _ h => h σ (I.len.trans hn)) c)
section
variable {P : Program} {w : World} {K : PySem.W.Frag} {mg : Str → Option Value} {base : Heap} {f C CB fS fI : Addr} {fd fdS fdI : FuncData}
/-! ### _law_met -/
def spMet (K : PySem.W.Frag) : Sp := fun vs H Q _ => ∃ (v : V), vs = [v] ∧ Any K H v ∧ (∀ z, v = .str z → z.length ≤ 3900) ∧
  (signsV v = [] → ∀ p G, Same H G → H p = none → G p = some (.tup [.str "bad", v]) → Q (.ref p) G) ∧ (signsV v ≠ [] → ∀ y G, Same H G → Q (.str y) G)
theorem sc_met : FnScope ["_law_thing", "e"] ["_law_thing"] (defScope (tp 40)) := ⟨rfl, rfl, rfl, by decide +kernel, rfl, by decide +kernel, by decide +kernel⟩
theorem ok_met (F : FnT K "_law_met" 40 f fd) (T : RTxt K w mg) (X : FCls K C) (M : MTxt K mg C fI) (gB : mg "BadFormula" = some (.ref CB)) (XB : XfC K CB) (noB : PySem.W.findIn K (.ref CB) "text" = some none) (eB : PySem.W.exmOne K (.ref CB) (.ref CB) = some true)
    (SC : SCls K C fS) (GS : FnOk P w K mg base CX0 3 fS fdS ["self"] (spMStr C)) (FS : FnI K "Formula.__str__" "__str__" 13 7 fS fdS)
    (GI : FnOk P w K mg base (L2.CX P w) 5 fI fdI ["self", "text"] (spInitF K C CB)) (FI : FnI K "Formula.__init__" "__init__" 13 0 fI fdI) :
    FnOk P w K mg base CX0 8 f fd ["_law_thing"] (spMet K) := by
  have bS : L2.Binds K fdS ["self"] [] := FS.bindsN fun _ _ _ _ _ _ us hl => match us, hl with | [_], _ => rfl
  have bI : L2.Binds K fdI ["self", "text"] [] := FI.bindsN fun _ _ _ _ _ _ us hl => match us, hl with | [_, _], _ => rfl
  have gF := M.g
  have MF := M.mkr
  refine F.ok sc_met (fun vs H Q E h => ?_) (fun cdv A outer s H vs Q E hr h => ⟨_, PSs.nox (pss_one (ps_try_as (i := 1) rfl rfl sc_met.nd rfl rfl ⟨rfl, by decide, .inl gB⟩ takes0 (fun W pn xe tk _ => (pss_one (ps_ret (pe_callTy (call_strI SC GS (hr.mono (by decide)) bS) rfl T.n.str (by decide +kernel) (pa_cons (pe_make MF GI (hr.mono (by decide)) rfl gF bI .nil (passMk (n := 2) rfl tk) (pa_cons (pv 0) pa_nil)) pa_nil))))) (fun a oe cls d pn hz hf => (pss_one (ps_ret (pe_tup (pa_cons pe_str (pa_cons (pe_xf XB noB hz hf (pv 1)) pa_nil)))))))), ?_⟩)
  · obtain ⟨v, rfl, _⟩ := h
    rfl
  · obtain ⟨v, rfl, any, hz, qb, qg⟩ := h
    have line : (4000 : Nat) ≤ sizeLine := by decide
    refine ⟨_, rfl, fun x dx hx hdx hne => ?_⟩
    have sx : Same H (upd (upd H dx (.own x)) x (.ins C dx [])) := fun b o hb => by
      rw [upd_ne (ne_of_none hb hx), upd_ne (ne_of_none hb hdx)]
      exact hb
    have anyx : Any K (upd (upd H dx (.own x)) x (.ins C dx [])) v := any_same sx any
    refine ⟨x, dx, v, rfl, upd_same, anyx, hz, fun hs d G s1 n1 g1 σ hσ => ?_, fun hs p G k1 k2 k3 k4 => ⟨rfl, ?_⟩⟩
    · refine ⟨true, eB, fun _ a ha => ?_, fun z => nomatch z⟩
      have hl : 1 < σ.length := by omega
      refine ⟨_, List.getElem?_set_self hl, rfl, rfl, d, [("text", v)], v, rfl, g1, rfl, (by show 2 ≤ sizeLine; decide), fun p hp => ?_⟩
      have s2 := sx.trans s1
      exact qb hs p _ (s2.trans (same_new hp)) (s2.free hp) upd_same
    · have sg : Same H G := fun b o hb => k1 b o (ne_of_none hb hx) (sx _ _ hb)
      cases v with
      | str z =>
        obtain ⟨t, w1, w2, w3⟩ := parse_ok z hs
        have hzl := hz z rfl
        have ew : wt (post t) ≤ 4000000 := by
          rw [← w2]
          exact wt_text hzl
        have fm : FmAt G C x (post t) := by
          rw [← w2]
          exact ⟨dx, p, k2, k4⟩
        exact ⟨x, dx, _, rfl, k2, x, t, rfl, fm, w1, ew, fun G2 s2 => ⟨_, rfl, qg hs _ G2 (sg.trans s2)⟩⟩
      | _ => exact absurd rfl hs
end
end Fx
set_option maxHeartbeats 2000000
namespace Fx
open PySem PySem.Spec PyProof.Rows L2 TL
theorem InsOk.snoc {K : PySem.W.Frag} {H : Hp} {x : V} {w : Str → Bool} : ∀ {xs : List V} {ws : List (Str → Bool)}, InsOk K H xs ws → InOk K H x w → InsOk K H (xs ++ [x]) (ws ++ [w])
  | [], ws, h, hx => by
    have e : ws = [] := h
    subst e
    exact ⟨w, [], rfl, hx, rfl⟩
  | _ :: _, _, ⟨u, r, e, h1, h⟩, hx => ⟨u, r ++ [w], by rw [e]; rfl, h1, InsOk.snoc h hx⟩
theorem InsOk.app {K : PySem.W.Frag} {H : Hp} : ∀ {xs ys : List V} {ws us : List (Str → Bool)}, InsOk K H xs ws → InsOk K H ys us → InsOk K H (xs ++ ys) (ws ++ us)
  | [], ys, ws, us, h, h2 => by
    have e : ws = [] := h
    subst e
    exact h2
  | _ :: _, _, _, _, ⟨u, r, e, h1, h⟩, h2 => ⟨u, r ++ _, by rw [e]; rfl, h1, InsOk.app h h2⟩
theorem hid_sub {l : Addr} {H : Hp} : Same (hid l H) H := fun b o h => (hid_some h).2
section
variable {P : Program} {w : World} {K : PySem.W.Frag} {mg : Str → Option Value} {base : Heap} {f fX : Addr} {fd fdX : FuncData}
/-! ### _law_word_lists -/
def spLists (K : PySem.W.Frag) : Sp := fun vs H Q _ => ∃ (a : Addr) (ns : List Int), vs = [.ref a] ∧ SqL K H a (ns.map V.int) ∧ ns.length ≤ 50 ∧
  ∀ p G xs ws, Same H G → H p = none → G p = some (.lst xs) → InsOk K G xs ws → xs.length ≤ 60 → Q (.ref p) G
theorem sc_lists : FnScope ["_law_draws", "_law_out", "_law_words", "_law_draw", "_law_k", "_law_word"] ["_law_draws"] (defScope (tp 43)) := ⟨rfl, rfl, rfl, by decide +kernel, rfl, by decide +kernel, by decide +kernel⟩
theorem ok_lists (F : FnT K "_law_word_lists" 43 f fd) (T2 : LTxt mg) (gE : mg "enumerate" = none) (gTu : mg "tuple" = none) (FX : FnT K "_law_six_words" 42 fX fdX) (gX : mg "_law_six_words" = some (.ref fX)) (GX : FnOk P w K mg base CX0 1 fX fdX [] spSix) :
    FnOk P w K mg base CX0 2 f fd ["_law_draws"] (spLists K) := by
  have bX : L2.Binds K fdX [] [] := FX.bindsN fun _ _ _ _ _ _ us hl => match us, hl with | [], _ => rfl
  refine F.ok sc_lists (fun vs H Q E h => ?_) (fun cdv A outer s H vs Q E hr h => ⟨_, PSs.nox (pss_cons (ps_par (i := 1) (j := 2) rfl sc_lists.nd rfl rfl (by decide) rfl rfl (pa_cons (pe_lst pa_nil) (pa_cons (pe_call0 GX (hr.mono (by decide)) rfl gX FX.kp bX .nil pass0) pa_nil)) (by rfl))
      (pss_cons (ps_for PassesOwn.never rfl (pi_list (pv 0)) (pg_name (i := 3) sc_lists.nd rfl (Or.inr rfl)) (pss_one (ps_expr (pe_bm PySem.F.plainAttrs_list PySem.F.slot_list_append PySem.F.type_list_append mt_append (pv 1) (pa_cons (pe_lc (own := [("_law_k", 4), ("_law_word", 5)]) (g := gTup K 2 (gCons (gName 4) (gCons (gName 5) gNil))) (tt := _) rfl sc_lists.nd (pi_enum rfl gE (pa_cons (pv 2) pa_nil)) (blkOk_by (N := ["_law_draws", "_law_out", "_law_words", "_law_draw", "_law_k", "_law_word"]) (sc := defScope (tp 43)) (by decide +kernel)) (fun _ _ _ _ _ => (pg_tup rfl (pgs_cons (pg_name (i := 4) sc_lists.nd rfl (Or.inl rfl)) (pgs_cons (pg_name (i := 5) sc_lists.nd rfl (Or.inl rfl)) pgs_nil)))) (fun _ _ _ _ _ => pts_one (pt_cmpR op_eq (pe_op op_mod (pe_op op_fdiv (pe_callTy call_int1 rfl T2.int (by decide +kernel) (pa_cons (pv 3) pa_nil)) (pe_ix (r := rIxL K) ix_list (pe_lst (pa_cons pe_int (pa_cons pe_int (pa_cons pe_int (pa_cons pe_int (pa_cons pe_int (pa_cons pe_int pa_nil))))))) (pv 4) (fun _ _ => rfl))) pe_int) pe_int (nomark _))) (fun _ _ _ _ _ => (pv 5))) pa_nil)))))
      (pss_one (ps_ret (pe_op op_cat (pv 1) (pe_lst (pa_cons (pe_lst (pa_cons pe_str (pa_cons pe_str pa_nil))) (pa_cons (pe_callTy call_tuple_of rfl gTu (by decide +kernel) (pa_cons (pv 2) pa_nil)) (pa_cons (pe_lst (pa_cons (pe_lst (pa_cons pe_str pa_nil)) (pa_cons pe_non (pa_cons pe_str (pa_cons pe_int pa_nil))))) pa_nil))))))))), ?_⟩)
  · obtain ⟨a, ns, rfl, _⟩ := h
    rfl
  · obtain ⟨a, ns, rfl, hs, hl, q⟩ := h
    have line : (400000 : Nat) ≤ sizeLine := by decide
    refine ⟨Nat.zero_le _, fun o ho => ⟨rfl, fun w6 hw6 => ⟨_, _, rfl, ?_⟩⟩⟩
    have so := same_new ho (u := .lst [])
    have s6 := same_new hw6 (u := .lst (sixWords.map V.str))
    have now : o ≠ w6 := fun e => by
      rw [← e, upd_same] at hw6
      cases hw6
    have s06 := so.trans s6
    have g0 : upd (upd H o (.lst [])) w6 (.lst (sixWords.map V.str)) o = some (.lst []) := by rw [upd_ne now]; exact upd_same
    have g6 : upd (upd H o (.lst [])) w6 (.lst (sixWords.map V.str)) w6 = some (.lst (sixWords.map V.str)) := upd_same
    generalize upd (upd H o (.lst [])) w6 (.lst (sixWords.map V.str)) = G at s06 g0 g6 ⊢
    refine ⟨_, rfl, a, rfl, ⟨_, s06.seq hs⟩, for_list (K := K) (a := a) (xs := ns.map V.int)
      (fun i σ F => ∃ o3 o4 o5 xs ws, σ = [some (.ref a), some (.ref o), some (.ref w6), o3, o4, o5] ∧ Same H F ∧ F w6 = some (.lst (sixWords.map V.str)) ∧ F o = some (.lst xs) ∧ InsOk K (hid o F) xs ws ∧ xs.length = i)
      ⟨none, none, none, [], [], rfl, s06, g6, g0, rfl, rfl⟩ (fun i σ F _ h => by
        obtain ⟨_, _, _, _, _, _, h, _⟩ := h
        exact h.seq hs) ?_ ?_⟩
    · rintro i x σ F hi ⟨o3, o4, o5, xs, ws, rfl, s1, f6, fo, hin, hlen⟩
      obtain ⟨n, hn, rfl⟩ := int_at hi
      have hil := (List.getElem?_eq_some_iff.mp hn).1
      refine ⟨_, rfl, .inl ⟨rfl, _, SqL.of fo⟩, _, rfl, w6, _, rfl, SqL.of f6, fun D hD => ?_⟩
      refine lc_it walk_enum (fun j G2 => Same F G2 ∧ ∃ zs : List Str, G2 D = some (.lst (zs.map V.str)) ∧ zs.length ≤ j) ⟨same_new hD, [], upd_same, Nat.le_refl _⟩ (fun j G2 _ h => SqL.of (h.1 _ _ f6)) ?_ ?_
      · rintro j y G2 G3 hj ⟨s2, zs, gz, hz⟩ ⟨T, y1, y2, rfl, hT, rfl, e1, e2⟩
        cases e1
        obtain ⟨z, hz6, rfl⟩ : ∃ z, sixWords[j]? = some z ∧ y2 = V.str z := by
          have e2 : (sixWords.map V.str)[j]? = some y2 := e2
          rw [List.getElem?_map] at e2
          cases e : sixWords[j]? with
          | none =>
            rw [e] at e2
            cases e2
          | some z =>
            rw [e] at e2
            exact ⟨z, rfl, (Option.some.inj e2).symm⟩
        have hj6 : j < 6 := (List.getElem?_eq_some_iff.mp hz6).1
        obtain ⟨d, hd, hd0, hd1⟩ : ∃ d : Int, ([.int 1, .int 2, .int 4, .int 8, .int 16, .int 32] : List V)[j]? = some (V.int d) ∧ 0 < d ∧ d < 1073741824 := by
          match j, hj6 with
          | 0, _ => exact ⟨1, rfl, by decide, by decide⟩
          | 1, _ => exact ⟨2, rfl, by decide, by decide⟩
          | 2, _ => exact ⟨4, rfl, by decide, by decide⟩
          | 3, _ => exact ⟨8, rfl, by decide, by decide⟩
          | 4, _ => exact ⟨16, rfl, by decide, by decide⟩
          | 5, _ => exact ⟨32, rfl, by decide, by decide⟩
          | j + 6, h => omega
        have sT := same_new hT (u := .tup [.int (j : Nat), .str z])
        refine ⟨T, [.int (j : Nat), .str z], rfl, SqT.of upd_same, rfl, _, _, rfl, _, _, rfl, rfl, rfl, ?_⟩
        refine ⟨_, rfl, .inl ⟨n, rfl, (by show 6 ≤ sizeLine; decide), fun l hl => ⟨_, rfl, l, _, (j : Int), .int d, rfl, rfl, SqL.of upd_same, atI_nat hd, ?_⟩⟩⟩
        have sl := same_new hl (u := .lst [.int 1, .int 2, .int 4, .int 8, .int 16, .int 32])
        have s3 := (s2.trans sT).trans sl
        have gz3 := sl _ _ (sT _ _ gz)
        refine ⟨_, _, rfl, rfl, ⟨hd0, hd1⟩, _, _, rfl, rfl, (by show (0 : Int) < 2; decide), rfl, _, rfl, ?_⟩
        refine ite2 (fun _ => ?_) fun _ => ?_
        · refine ⟨_, rfl, _, gz3, by rw [List.length_map]; omega, ?_, zs ++ [z], ?_, by rw [List.length_append, List.length_singleton]; omega⟩
          · intro b u hb
            rw [upd_ne (ne_of_none hb hD)]
            exact s3 _ _ hb
          · rw [upd_same, List.map_append]
            rfl
        · exact ⟨s3, zs, gz3, by omega⟩
      · rintro G2 ⟨s2, zs, gz, hz⟩
        have hzl : zs.length ≤ 6 := hz
        have neD : D ≠ o := fun e => by
          rw [e, fo] at hD
          cases hD
        have new6 : w6 ≠ o := fun e => by
          rw [e, fo] at f6
          injection f6 with f6
          injection f6 with f6
          rw [f6] at hin
          exact now e.symm
        refine ⟨o, _, _, rfl, rfl, s2 _ _ fo, by omega, ?_⟩
        refine ⟨_, _, _, xs ++ [.ref D], ws ++ [fun s => inV (.str s) (zs.map V.str)], rfl, ?_, ?_, upd_same, ?_, by rw [List.length_append, List.length_singleton]; omega⟩
        · intro b u hb
          rw [upd_ne (ne_of_none hb ho)]
          exact s2 _ _ (s1 _ _ hb)
        · rw [upd_ne new6]
          exact s2 _ _ f6
        · have sh : Same (hid o F) (hid o (upd G2 o (.lst (xs ++ [.ref D])))) := fun b u hb => by
            obtain ⟨n1, h1⟩ := hid_some hb
            refine hid_at n1 ?_
            rw [upd_ne n1]
            exact s2 _ _ h1
          refine InsOk.snoc (hin.same sh) (.inl ⟨D, zs.map V.str, rfl, .inl (SqL.of (hid_at neD ?_)), flat_strs _, fun s => rfl⟩)
          rw [upd_ne neD]
          exact gz
    · rintro σ F ⟨o3, o4, o5, xs, ws, rfl, s1, f6, fo, hin, hlen⟩
      rw [List.length_map] at hlen
      have hin2 := hin.same hid_sub
      -- the three that are put behind
      refine ⟨_, rfl, (by show 2 ≤ sizeLine; decide), fun l1 hl1 => ?_⟩
      have t1 := same_new hl1 (u := .lst [.str "more", .str "open@x"])
      refine ⟨_, rfl, w6, _, rfl, .inl ⟨SqL.of (t1 _ _ f6), fun l2 hl2 => ?_⟩⟩
      have t2 := same_new hl2 (u := .tup (sixWords.map V.str))
      refine ⟨(by show 1 ≤ sizeLine; decide), fun l3 hl3 => ?_⟩
      have t3 := same_new hl3 (u := .lst [.str "open"])
      refine ⟨(by show 4 ≤ sizeLine; decide), fun l4 hl4 => ?_⟩
      have t4 := same_new hl4 (u := .lst [.ref l3, .non, .str "android", .int 5])
      refine ⟨(by show 3 ≤ sizeLine; decide), fun l5 hl5 => ?_⟩
      have t5 := same_new hl5 (u := .lst [.ref l1, .ref l2, .ref l4])
      have g5 := upd_same (H := upd (upd (upd (upd F l1 (.lst [.str "more", .str "open@x"])) l2 (.tup (sixWords.map V.str))) l3 (.lst [.str "open"])) l4 (.lst [.ref l3, .non, .str "android", .int 5])) (a := l5) (o := .lst [.ref l1, .ref l2, .ref l4])
      have g4 := t5 _ _ (upd_same (H := upd (upd (upd F l1 (.lst [.str "more", .str "open@x"])) l2 (.tup (sixWords.map V.str))) l3 (.lst [.str "open"])) (a := l4) (o := .lst [.ref l3, .non, .str "android", .int 5]))
      have g3 := (t4.trans t5) _ _ (upd_same (H := upd (upd F l1 (.lst [.str "more", .str "open@x"])) l2 (.tup (sixWords.map V.str))) (a := l3) (o := .lst [.str "open"]))
      have g2 := ((t3.trans t4).trans t5) _ _ (upd_same (H := upd F l1 (.lst [.str "more", .str "open@x"])) (a := l2) (o := .tup (sixWords.map V.str)))
      have g1 := (((t2.trans t3).trans t4).trans t5) _ _ (upd_same (H := F) (a := l1) (o := .lst [.str "more", .str "open@x"]))
      have tt := (((t1.trans t2).trans t3).trans t4).trans t5
      clear t1 t2 t3 t4 t5
      have fo5 := tt _ _ fo
      have hin5 := hin2.same tt
      have s5 := s1.trans tt
      generalize upd (upd (upd (upd (upd F l1 (.lst [.str "more", .str "open@x"])) l2 (.tup (sixWords.map V.str))) l3 (.lst [.str "open"])) l4 (.lst [.ref l3, .non, .str "android", .int 5])) l5 (.lst [.ref l1, .ref l2, .ref l4]) = G5 at g1 g2 g3 g4 g5 fo5 hin5 s5 ⊢
      refine ⟨o, l5, _, _, rfl, rfl, fo5, g5, by show _ + 3 ≤ _; omega, fun p hp => ?_⟩
      have sp := same_new hp (u := .lst (xs ++ [.ref l1, .ref l2, .ref l4]))
      have last : InsOk K G5 [.ref l1, .ref l2, .ref l4] [fun s => inV (.str s) (([("more" : Str), "open@x"] : List Str).map V.str), fun s => inV (.str s) (sixWords.map V.str), fun s => [PyData.list [.str "open"], .none, .str "android", .int 5].any fun z => PyData.eqv z (.str s)] :=
        ⟨_, _, rfl, .inl ⟨l1, _, rfl, .inl (SqL.of g1), flat_strs ["more", "open@x"], fun _ => rfl⟩, _, _, rfl, .inl ⟨l2, _, rfl, .inr (SqT.of g2), flat_strs sixWords, fun _ => rfl⟩, _, _, rfl,
          .inr ⟨[.list [.str "open"], .none, .str "android", .int 5], .lst (SqL.of g4) (.cons (.lst (SqL.of g3) (.cons (.str _) .nil)) (.cons .non (.cons (.str _) (.cons (.int 5) .nil)))), by decide +kernel, fun _ _ => rfl⟩, rfl⟩
      exact q p _ _ _ (s5.trans sp) (s5.free hp) upd_same ((hin5.app last).same sp) (by rw [List.length_append]; show _ + 3 ≤ 60; omega)
end
end Fx
set_option maxHeartbeats 2000000
namespace Fx
open PySem PySem.Spec PyProof.Rows L2 TL

/-! ### tuples of the very same things are not unequal -/
def Self (v : V) : Prop := flatB v = true ∨ ∃ p, v = .ref p
theorem self_items {A : Around} {s : Shared} : ∀ {xs : List V} {us ws : List Value}, Vals xs us → Vals xs ws → (∀ v ∈ xs, Self v) → ∀ j (h1 : j < us.length) (h2 : j < ws.length), SeqAt.EqAt A s us[j] ws[j] true
  | [], us, ws, r1, _, _, j, h1, _ => by
    cases r1
    exact absurd h1 (Nat.not_lt_zero j)
  | x :: xs, us, ws, r1, r2, h, j, h1, h2 => by
    cases r1 with
    | cons a1 b1 =>
      cases r2 with
      | cons a2 b2 =>
        cases j with
        | zero =>
          rcases h x List.mem_cons_self with f | ⟨p, e⟩
          · exact eqAt_same a1 a2 f
          · subst e
            have e1 := (show _ = Value.ref p from a1)
            have e2 := (show _ = Value.ref p from a2)
            show SeqAt.EqAt A s _ _ true
            simp only [List.getElem_cons_zero]
            rw [e1, e2]
            exact SeqAt.EqAt.same _
        | succ j =>
          exact self_items b1 b2 (fun v hv => h v (List.mem_cons_of_mem _ hv)) j (Nat.lt_of_succ_lt_succ h1) (Nat.lt_of_succ_lt_succ h2)
def rNeS (K : PySem.W.Frag) : R2 := fun x y H Q => ∃ a b xs, x = .ref a ∧ y = .ref b ∧ SqT K H a xs ∧ SqT K H b xs ∧ (∀ v ∈ xs, Self v) ∧ Q (.bl false) H
section
variable {X : Cx}
theorem op_neS (hu : X.A.units < cLine) : OpR X (compareOp .NotEq) (rNeS X.K) := by
  intro pins s σ H x y v u Q I rx ry h
  obtain ⟨a, b, xs, rfl, rfl, ha, hb, hs, q⟩ := h
  obtain rfl : v = Value.ref a := rx
  obtain rfl : u = Value.ref b := ry
  obtain ⟨us, r1, p1, _⟩ := I.tuple ha
  obtain ⟨ws, r2, p2, _⟩ := I.tuple hb
  have hl : us.length = ws.length := r1.length.symm.trans r2.length
  refine SeqAt.RcNeAt.tuples (e := fun _ => true) p1 p2 hu (fun j h1 h2 => ?_) _ _ _ _ ?_
  · have k := self_items (A := X.A.in1) (s := s) r1 r2 hs j (by simpa using h1) (by simpa using h2)
    simpa using k
  · have e : (!((List.range (min us.toArray.size ws.toArray.size)).all (fun _ => true) && us.toArray.size == ws.toArray.size)) = false := by
      simp [hl]
    rw [e]
    exact ⟨.bl false, H, I, rfl, q⟩
end
end Fx
set_option maxHeartbeats 2000000
namespace Fx
open PySem PySem.Spec PyProof.Rows L2 TL

mutual
theorem lenT_Q : ∀ t : LT, lenT t ≤ lenQ t
  | .word z => by show z.length + 1 ≤ z.length + 2; omega
  | .cst _ => by show 5 ≤ 6; omega
  | .neg t => by
    have h := lenT_Q t
    show lenT t + 7 ≤ lenQ t + 8
    omega
  | .nary _ ts => by
    have h := lenL_R ts
    show lenL ts + 1 ≤ lenR ts + 2
    omega
theorem lenL_R : ∀ ts : List LT, lenL ts ≤ lenR ts
  | [] => Nat.le_refl _
  | t :: ts => by
    have h1 := lenT_Q t
    have h2 := lenL_R ts
    show lenT t + 7 + lenL ts ≤ lenQ t + 7 + lenR ts
    omega
end
theorem lt_up {ws : List Str} : ∀ (d : Nat) (t : LT), LtOk ws d t → LtOk ws (d + 1) t := by
  intro d
  induction d with
  | zero =>
    intro t h
    cases t with
    | word z => exact h
    | cst b => trivial
    | neg t => exact False.elim h
    | nary k ts => exact False.elim h
  | succ d ih =>
    intro t h
    cases t with
    | word z => exact h
    | cst b => trivial
    | neg t => exact ih t h
    | nary k ts => exact ⟨h.1, fun t ht => ih t (h.2 t ht)⟩
theorem leaves_in {ws : List Str} : ∀ (d : Nat) (t : LT), LtOk ws d t → ∀ z ∈ leavT t, z ∈ ws := by
  intro d
  induction d with
  | zero =>
    intro t h z hz
    cases t with
    | word y =>
      rw [List.mem_singleton.mp hz]
      exact h
    | cst b => cases hz
    | neg t => exact False.elim h
    | nary k ts => exact False.elim h
  | succ d ih =>
    intro t h z hz
    cases t with
    | word y =>
      rw [List.mem_singleton.mp hz]
      exact h
    | cst b => cases hz
    | neg t => exact ih t h z hz
    | nary k ts =>
      have h2 := h.2
      clear h
      have hz2 : z ∈ leavL ts := hz
      clear hz
      induction ts with
      | nil => cases hz2
      | cons t ts ih2 =>
        rcases List.mem_append.mp (show z ∈ leavT t ++ leavL ts from hz2) with w | w
        · exact ih t (h2 t List.mem_cons_self) z w
        · exact ih2 (fun x hx => h2 x (List.mem_cons_of_mem _ hx)) w
theorem six_ok : ∀ z ∈ sixWords, PyData.strOk z = true := by decide +kernel
theorem txt_cap {d n : Nat} {t : LT} (h : LtOk sixWords d t) (hn : depT t ≤ n) : (txtN n t).length + 2 ≤ capQ d :=
  Nat.le_trans (core_len t _ (core_txt d t h n hn)) (lenQ_cap d t h)
/-- texts of trees, one each -/
def AllL : List LT → List Str → Prop
  | [], ss => ss = []
  | t :: ts, ss => ∃ s r, ss = s :: r ∧ Loose t s ∧ AllL ts r
theorem AllL.snoc {t : LT} {s : Str} : ∀ {ts : List LT} {ss : List Str}, AllL ts ss → Loose t s → AllL (ts ++ [t]) (ss ++ [s])
  | [], ss, h, hs => by
    have e : ss = [] := h
    subst e
    exact ⟨s, [], rfl, hs, rfl⟩
  | _ :: _, _, ⟨u, r, e, h1, h2⟩, hs => ⟨u, r ++ [s], by rw [e]; rfl, h1, AllL.snoc h2 hs⟩
theorem cutV_map (ns : List Int) (lo hi : Option Int) : ∃ ms : List Int, cutV (ns.map V.int) lo hi = ms.map V.int ∧ ms.length ≤ ns.length := by
  refine ⟨(ns.drop (HT.sIx (ns.map V.int).length 0 lo)).take (HT.sIx (ns.map V.int).length (ns.map V.int).length hi - HT.sIx (ns.map V.int).length 0 lo), ?_, ?_⟩
  · unfold cutV
    rw [List.map_take, List.map_drop]
  · rw [List.length_take, List.length_drop]
    omega
/-! ### pairs of a formula and its tree -/
def PairAt (H : Hp) (C : Addr) (x : V) (T : LT) : Prop := ∃ tp c tt, x = .ref tp ∧ H tp = some (.tup [.ref c, tt]) ∧ IsF H C c T ∧ TreeAt H T tt ∧ LtOk sixWords 4 T
theorem PairAt.same {H G : Hp} {C : Addr} {x : V} {T : LT} (s : Same H G) (h : PairAt H C x T) : PairAt G C x T := by
  obtain ⟨tp, c, tt, e, h1, h2, h3, h4⟩ := h
  exact ⟨tp, c, tt, e, s _ _ h1, h2.same s, treeAt_same s h3, h4⟩
/-! ### odd things -/
def OddOk (K : PySem.W.Frag) (H : Hp) (x : V) : Prop := Any K H x ∧ (∀ z, x = .str z → z.length ≤ 3900 ∧ Asc z) ∧ Self x
def OddL (K : PySem.W.Frag) (H : Hp) (xs : List V) : Prop := ∀ x ∈ xs, OddOk K H x
theorem OddOk.same {K : PySem.W.Frag} {H G : Hp} {x : V} (s : Same H G) (h : OddOk K H x) : OddOk K G x := ⟨any_same s h.1, h.2⟩
theorem OddL.same {K : PySem.W.Frag} {H G : Hp} {xs : List V} (s : Same H G) (h : OddL K H xs) : OddL K G xs := fun x hx => (h x hx).same s
theorem OddL.app {K : PySem.W.Frag} {H : Hp} {xs ys : List V} (h : OddL K H xs) (h2 : OddL K H ys) : OddL K H (xs ++ ys) := fun x hx => by
  rcases List.mem_append.mp hx with w | w
  · exact h x w
  · exact h2 x w
theorem OddL.cons {K : PySem.W.Frag} {H : Hp} {x : V} {xs : List V} (h : OddOk K H x) (h2 : OddL K H xs) : OddL K H (x :: xs) := fun y hy => by
  rcases List.mem_cons.mp hy with w | w
  · rw [w]; exact h
  · exact h2 y w
theorem OddL.nil {K : PySem.W.Frag} {H : Hp} : OddL K H [] := fun x hx => by cases hx
theorem odd_str {K : PySem.W.Frag} {H : Hp} {z : Str} (h : z.length ≤ 3900) (a : Asc z) : OddOk K H (.str z) :=
  ⟨any_str (Nat.le_trans h (by decide)), fun y e => by cases e; exact ⟨h, a⟩, .inl rfl⟩
theorem odd_strs {K : PySem.W.Frag} {H : Hp} {zs : List Str} (h : (zs.all fun z => decide (z.length ≤ 3900) && (tl z).all (· < 256)) = true) : OddL K H (zs.map V.str) := fun x hx => by
  obtain ⟨z, hz, e⟩ := List.mem_map.mp hx
  have w := List.all_eq_true.mp h z hz
  obtain ⟨w1, w2⟩ := (Bool.and_eq_true _ _).mp w
  rw [← e]
  exact odd_str (of_decide_eq_true w1) (asc_lit w2)
theorem any_no {K : PySem.W.Frag} {H : Hp} {x : V} {t : Value} (ty : TyX K H x t) (k : PySem.W.kitOne K t (.type "str") = some false) (n : ∀ z, x ≠ .str z) : Any K H x :=
  ⟨t, false, ty, k, ⟨fun e => (nomatch e), fun ⟨z, e⟩ => absurd e (n z)⟩, fun z e => absurd e (n z)⟩
theorem odd_non {K : PySem.W.Frag} {H : Hp} : OddOk K H .non := ⟨any_no (.base .non) (kit_ty (by decide +kernel)) (fun z e => (nomatch e)), fun z e => (nomatch e), .inl rfl⟩
theorem odd_int {K : PySem.W.Frag} {H : Hp} (i : Int) : OddOk K H (.int i) := ⟨any_no (.base (.int i)) (kit_ty (by decide +kernel)) (fun z e => (nomatch e)), fun z e => (nomatch e), .inl rfl⟩
theorem odd_lst {K : PySem.W.Frag} {H : Hp} {a : Addr} {xs : List V} (h : H a = some (.lst xs)) : OddOk K H (.ref a) := ⟨any_no (.base (.lst h)) (kit_ty (by decide +kernel)) (fun z e => (nomatch e)), fun z e => (nomatch e), .inr ⟨a, rfl⟩⟩
theorem odd_fm {K : PySem.W.Frag} {mg : Str → Option Value} {H : Hp} {C fI a dx : Addr} {fs : List (Str × V)} (X : FCls K C) (M : MTxt K mg C fI) (h : H a = some (.ins C dx fs)) (k : PySem.W.kitOne K (.ref C) (.type "str") = some false) : OddOk K H (.ref a) :=
  ⟨any_no (.base (.ins h X.cl M.ca M.sg M.tk M.mr)) k (fun z e => (nomatch e)), fun z e => (nomatch e), .inr ⟨a, rfl⟩⟩
theorem rd_mkR {K : PySem.W.Frag} {C CB : Addr} {G : Hp} {R : Addr → Hp → Prop} {z : Str} (hz : z.length ≤ 3900) (hs : signsOf z ≠ []) (q : ∀ a G2, Same G G2 → G a = none → FmAt G2 C a (codeOf (signsOf z)) → R a G2) :
    ∀ x dx, G x = none → G dx = none → dx ≠ x → spInitF K C CB (.ref x :: ([.str z] ++ [])) (upd (upd G dx (.own x)) x (.ins C dx [])) (fun v H2 => v = .non ∧ R x H2) E0 :=
  rd_mkF (Q := fun v H2 => match v with | .ref a => R a H2 | _ => True) hz hs q
theorem right_args {t : LT} (h : LtOk sixWords 4 t) : depT t ≤ 4 ∧ lenT t ≤ 100000 ∧ ∀ z ∈ leavT t, PyData.strOk z = true := by
  have c4 : capQ 4 = 2135 := by decide
  have w1 := lenT_Q t
  have w2 := lenQ_cap 4 t h
  exact ⟨dep_ok 4 t h, by omega, fun z hz => six_ok z (leaves_in 4 t h z hz)⟩
theorem len_bin (mid x y : Str) : (binText mid x y).length = 1 + x.length + mid.length + y.length + 1 := by
  unfold binText
  rw [len_app, len_app, len_app, len_app, len_app]
  have e1 : Str.empty.length = 0 := rfl
  have e2 : ("(" : Str).length = 1 := rfl
  have e3 : (")" : Str).length = 1 := rfl
  omega
theorem len_neg (x : Str) : (negText x).length = 5 + x.length + 1 := by
  unfold negText
  rw [len_app, len_app, len_app]
  have e1 : Str.empty.length = 0 := rfl
  have e2 : ("not (" : Str).length = 5 := rfl
  have e3 : (")" : Str).length = 1 := rfl
  omega
theorem lt_bin {t1 t2 : LT} (k : Bool) (h1 : LtOk sixWords 3 t1) (h2 : LtOk sixWords 3 t2) : LtOk sixWords 4 (.nary k [t1, t2]) :=
  ⟨.inl rfl, fun t ht => by
    rcases List.mem_cons.mp ht with e | e
    · rw [e]; exact h1
    · rw [List.mem_singleton.mp e]; exact h2⟩
/-- the text of and, or of two formulas -/
theorem bin_ok (k : Bool) {t1 t2 : LT} {f1 f2 : Fm} (h1 : LtOk sixWords 3 t1) (h2 : LtOk sixWords 3 t2) (r1 : Rel t1 f1) (r2 : Rel t2 f2) :
    (binText (midK k) (trT f1).1 (trT f2).1).length ≤ 3900 ∧ Read (.nary k [t1, t2]) (binText (midK k) (trT f1).1 (trT f2).1) := by
  have d1 := dep_ok 3 t1 h1
  have d2 := dep_ok 3 t2 h2
  rw [r1.txt 3 d1, r2.txt 3 d2]
  refine ⟨?_, read_core six_leaf 4 _ (lt_bin k h1 h2) _ (core_bin k (core_txt 3 t1 h1 3 d1) (core_txt 3 t2 h2 3 d2))⟩
  have w1 := txt_cap h1 d1
  have w2 := txt_cap h2 d2
  have c3 : capQ 3 = 704 := by decide
  have em : (midK k).length ≤ 7 := by cases k <;> decide +kernel
  rw [len_bin]
  omega
theorem neg_ok {t1 : LT} {f1 : Fm} (h1 : LtOk sixWords 3 t1) (r1 : Rel t1 f1) : (negText (trT f1).1).length ≤ 3900 ∧ Read (.neg t1) (negText (trT f1).1) := by
  have d1 := dep_ok 3 t1 h1
  rw [r1.txt 3 d1]
  refine ⟨?_, read_core six_leaf 4 (.neg t1) h1 _ (core_neg (core_txt 3 t1 h1 3 d1))⟩
  have w1 := txt_cap h1 d1
  have c3 : capQ 3 = 704 := by decide
  rw [len_neg]
  omega
/-- a formula's own text, read again -/
theorem own_ok {T : LT} {f : Fm} (h : LtOk sixWords 4 T) (r : Rel T f) : (trT f).1.length ≤ 3900 ∧ Read T (trT f).1 := by
  have d := dep_ok 4 T h
  rw [r.txt 4 d]
  have w1 := txt_cap h d
  have c4 : capQ 4 = 2135 := by decide
  exact ⟨by omega, read_text h d⟩
/-- pairs at hand -/
def PairsOk (H : Hp) (C : Addr) (xs : List V) : Prop := ∀ x ∈ xs, ∃ T, PairAt H C x T
theorem PairsOk.same {H G : Hp} {C : Addr} {xs : List V} (s : Same H G) (h : PairsOk H C xs) : PairsOk G C xs := fun x hx => by
  obtain ⟨T, p⟩ := h x hx
  exact ⟨T, p.same s⟩
theorem lawV_is (x : V) : lawFormulaV x = !(signsV x).isEmpty := by
  cases x with
  | str z =>
    show lawFormula z = !(signsOf z).isEmpty
    have w := lawFormula_is z
    cases h : lawFormula z with
    | true =>
      have w2 := w.mp h
      cases e : signsOf z with
      | nil => exact absurd e w2
      | cons a b => rfl
    | false =>
      cases e : signsOf z with
      | nil => rfl
      | cons a b =>
        have w3 := w.mpr (by rw [e]; simp)
        rw [h] at w3
        cases w3
  | _ => rfl
/-! ### the law's odd things -/
def od1 : List V := [.non, .int 5, .str "", .str " ", .str "a b", .str "not", .str "a and", .str "(a", .str "a)", .str "a  and b", .str " a", .str "and"]
def od2 : List V := [.str "a@b@c", .str "all@a", .str "a@there", .str "ninelette", .str "A", .str "()", .str "not not a", .str "(a)"]
def od3 : List V := [.str "a or (b)", .str "nota", .str "a@all", .str "thereof", .str "noneof or allin and not", .str "orand"]
def od4 : List V := [.str "note andy", .str "not@a", .str "a@not", .str "a and(b)", .str "(a)and b", .str "(a) and b", .str "or@a", .str "a@or"]
theorem od1_ok {K : PySem.W.Frag} {H : Hp} : OddL K H od1 := OddL.cons odd_non (OddL.cons (odd_int 5) (odd_strs (zs := ([("" : Str), " ", "a b", "not", "a and", "(a", "a)", "a  and b", " a", "and"] : List Str)) (by decide +kernel)))
theorem od2_ok {K : PySem.W.Frag} {H : Hp} : OddL K H od2 := odd_strs (zs := ([("a@b@c" : Str), "all@a", "a@there", "ninelette", "A", "()", "not not a", "(a)"] : List Str)) (by decide +kernel)
theorem od3_ok {K : PySem.W.Frag} {H : Hp} : OddL K H od3 := odd_strs (zs := ([("a or (b)" : Str), "nota", "a@all", "thereof", "noneof or allin and not", "orand"] : List Str)) (by decide +kernel)
theorem od4_ok {K : PySem.W.Frag} {H : Hp} : OddL K H od4 := odd_strs (zs := ([("note andy" : Str), "not@a", "a@not", "a and(b)", "(a)and b", "(a) and b", "or@a", "a@or"] : List Str)) (by decide +kernel)
theorem odd_first {K : PySem.W.Frag} {G : Hp} {o : Addr} {ys : List V} (ho : G o = none) (z : ∀ H, OddL K H ys) : Same G (upd G o (.lst ys)) ∧ upd G o (.lst ys) o = some (.lst ys) ∧ OddL K (upd G o (.lst ys)) ys := ⟨same_new ho, upd_same, z _⟩
theorem odd_step {K : PySem.W.Frag} {G : Hp} {p o : Addr} {ys zs : List V} (hp : G p = none) (ho : upd G p (.lst zs) o = none) (z : OddL K G ys) (z2 : ∀ H, OddL K H zs) :
    Same G (upd (upd G p (.lst zs)) o (.lst (ys ++ zs))) ∧ upd (upd G p (.lst zs)) o (.lst (ys ++ zs)) o = some (.lst (ys ++ zs)) ∧ OddL K (upd (upd G p (.lst zs)) o (.lst (ys ++ zs))) (ys ++ zs) ∧ (ys ++ zs).length = ys.length + zs.length :=
  ⟨(same_new hp).trans (same_new ho), upd_same, (z.same ((same_new hp).trans (same_new ho))).app (z2 _), List.length_append⟩
theorem odd_last {K : PySem.W.Frag} {G : Hp} {p o : Addr} {ys zs : List V} (hp : G p = none) (ho : upd G p (.lst zs) o = none) (z : OddL K G ys) (z2 : OddL K G zs) :
    Same G (upd (upd G p (.lst zs)) o (.lst (ys ++ zs))) ∧ upd (upd G p (.lst zs)) o (.lst (ys ++ zs)) o = some (.lst (ys ++ zs)) ∧ OddL K (upd (upd G p (.lst zs)) o (.lst (ys ++ zs))) (ys ++ zs) ∧ (ys ++ zs).length = ys.length + zs.length :=
  ⟨(same_new hp).trans (same_new ho), upd_same, (z.app z2).same ((same_new hp).trans (same_new ho)), List.length_append⟩
theorem odd_cat {K : PySem.W.Frag} {G : Hp} {o : Addr} {ys zs : List V} (ho : G o = none) (z : OddL K G ys) (z2 : OddL K G zs) :
    Same G (upd G o (.lst (ys ++ zs))) ∧ upd G o (.lst (ys ++ zs)) o = some (.lst (ys ++ zs)) ∧ OddL K (upd G o (.lst (ys ++ zs))) (ys ++ zs) :=
  ⟨same_new ho, upd_same, (z.app z2).same (same_new ho)⟩
theorem odd_each {K : PySem.W.Frag} {G : Hp} {zs : List Str} (h : ∀ z ∈ zs, z.length ≤ 3900 ∧ Asc z) : OddL K G (zs.map V.str) := fun x hx => by
  obtain ⟨z, hz, e⟩ := List.mem_map.mp hx
  rw [← e]
  exact odd_str (h z hz).1 (h z hz).2
/-- one thing of the law's last loop: what is told of it -/
theorem told_ok (x : V) : (signsV x = [] ∧ lawFormulaV x = false) ∨ (signsV x ≠ [] ∧ lawFormulaV x = true) := by
  rw [lawV_is]
  cases signsV x with
  | nil => exact .inl ⟨rfl, rfl⟩
  | cons a b => exact .inr ⟨by simp, rfl⟩
end Fx
set_option maxHeartbeats 8000000
namespace Fx
open PySem PySem.Spec PyProof.Rows L2 TL

theorem boot_list : PySem.bootBuiltins ("list" : Str) = some (.type "list") := by decide +kernel
theorem boot_str : PySem.bootBuiltins ("str" : Str) = some (.type "str") := by decide +kernel
theorem boot_all : PySem.bootBuiltins ("all" : Str) = some (.builtin "all") := by decide +kernel
def rListOf (K : PySem.W.Frag) : List V → Hp → VK → Prop := fun xs H Q => ∃ p ys, xs = [.ref p] ∧ (SqL K H p ys ∨ SqT K H p ys) ∧ ∀ l, H l = none → Q (.ref l) (upd H l (.lst ys))
def rStrI (C : Addr) : List V → Hp → VK → Prop := fun xs H Q => ∃ (a dx : Addr) (fs : List (Str × V)), xs = [.ref a] ∧ H a = some (.ins C dx fs) ∧ spMStr C [.ref a] H (fun v G2 => ∃ y : Str, v = .str y ∧ Q (.str y) G2) E0
def spLaw (K : PySem.W.Frag) : Sp := fun vs H Q _ => ∃ (a : Addr) (ns : List Int), vs = [.ref a] ∧ SqL K H a (ns.map V.int) ∧ ∀ G, Q (.bl true) G
theorem sc_law : FnScope ["_law_script", "_law_words", "_law_trees", "_law_row_here", "_law_some", "_law_texts", "_law_one", "_law_other", "_law_pairs", "_law_odd", "_law_thing", "_law_told", "_law_k", "_law_tree_here", "_law_formula", "_law_text_here"] ["_law_script"] (defScope (tp 44)) := ⟨rfl, rfl, rfl, by decide +kernel, rfl, by decide +kernel, by decide +kernel⟩
abbrev XLaw (P : Program) (w : World) (K : PySem.W.Frag) (mg : Str → Option Value) (base : Heap) (f : Addr) (cdv : Value) (A : Around) (outer : List Env) (s : Shared) (H : Hp) (E : XK) : Cx :=
  (cxOf CX0 P w K mg base ["_law_script", "_law_words", "_law_trees", "_law_row_here", "_law_some", "_law_texts", "_law_one", "_law_other", "_law_pairs", "_law_odd", "_law_thing", "_law_told", "_law_k", "_law_tree_here", "_law_formula", "_law_text_here"] "law" (defScope (tp 44)) f cdv A outer s H E).nox
end Fx
set_option maxHeartbeats 8000000
namespace Fx
open PySem PySem.Spec PyProof.Rows L2 TL
section
variable {P : Program} {w : World} {K : PySem.W.Frag} {mg : Str → Option Value} {base : Heap} {f C CB fS fI fA fO fN fCe fRo fTr fLi fLo fRi fX fSp fFo fMe : Addr} {fd fdS fdI fdA fdO fdN fdCe fdRo fdTr fdLi fdLo fdRi fdX fdSp fdFo fdMe : FuncData}
def Tail3 (C : Addr) (t : TS) : Prop := ∀ (De : Ends) (Gl : Hp) (a w6 D p3 sm D2 one oth lp : Addr) (ns3 : List Int) (x1 x2 : Str) (t1 : LT) (hl3 : ns3.length = 47) (le1 : x1.length ≤ 704) (as1 : Asc x1) (le2 : x2.length ≤ 704) (as2 : Asc x2) (i1 : IsF Gl C one t1) (g3 : Gl p3 = some (.lst (ns3.map V.int))) (gD2 : Gl D2 = some (.lst [.str x1, .str x2])), (∀ G, De.rt (.bl true) G) → t De [some (.ref a), some (.ref w6), some (.ref D), some (.ref p3), some (.ref sm), some (.ref D2), some (.ref one), some (.ref oth), some (.ref lp), none, none, none, none, none, none, none] Gl
theorem tail3 {cdv : Value} {A : Around} {outer : List Env} {s : Shared} {H : Hp} {E : XK} (hr : Room 11 (A.deeper (envOfC "law" (defScope (tp 44)) s.heap.objs.size f cdv))) (T : RTxt K w mg) (X : FCls K C) (M : MTxt K mg C fI) (kStr : PySem.W.kitOne K (.ref C) (.type "str") = some false) (gTu : mg "tuple" = none)
    (FSp : FnT K "_law_spoilt" 41 fSp fdSp) (gSp : mg "_law_spoilt" = some (.ref fSp)) (GSp : FnOk P w K mg base CX0 1 fSp fdSp ["_law_text_here", "_law_way", "_law_at", "_law_more"] spSpoilt)
    (FFo : FnT K "_law_is_formula" 37 fFo fdFo) (gFo : mg "_law_is_formula" = some (.ref fFo)) (GFo : FnOk P w K mg base CX0 3 fFo fdFo ["_law_thing"] (spLawFormula K))
    (FMe : FnT K "_law_met" 40 fMe fdMe) (gMe : mg "_law_met" = some (.ref fMe)) (GMe : FnOk P w K mg base CX0 8 fMe fdMe ["_law_thing"] (spMet K)) :
    ∃ t, PSs (XLaw P w K mg base f cdv A outer s H E) ((defBody (tp 44)).drop 10) t ∧ Tail3 C t := by
  have bSp : L2.Binds K fdSp ["_law_text_here", "_law_way", "_law_at", "_law_more"] [] := FSp.bindsN fun _ _ _ _ _ _ us hl => match us, hl with | [_, _, _, _], _ => rfl
  have bFo : L2.Binds K fdFo ["_law_thing"] [] := FFo.bindsN fun _ _ _ _ _ _ us hl => match us, hl with | [_], _ => rfl
  have bMe : L2.Binds K fdMe ["_law_thing"] [] := FMe.bindsN fun _ _ _ _ _ _ us hl => match us, hl with | [_], _ => rfl
  have hu0 : (A.deeper (envOfC "law" (defScope (tp 44)) s.heap.objs.size f cdv)).units < cLine := by have := hr.un; omega
  have line : (400000 : Nat) ≤ sizeLine := by decide
  refine ⟨_, (pss_cons (ps_set (i := 9) sc_law.nd rfl (Or.inl rfl) (pe_lst (pa_cons pe_non (pa_cons pe_int (pa_cons pe_str (pa_cons pe_str (pa_cons pe_str (pa_cons pe_str (pa_cons pe_str (pa_cons pe_str (pa_cons pe_str (pa_cons pe_str (pa_cons pe_str (pa_cons pe_str pa_nil))))))))))))))
      (pss_cons (ps_set (i := 9) sc_law.nd rfl (Or.inl rfl) (pe_op op_cat (pv 9) (pe_lst (pa_cons pe_str (pa_cons pe_str (pa_cons pe_str (pa_cons pe_str (pa_cons pe_str (pa_cons pe_str (pa_cons pe_str (pa_cons pe_str pa_nil)))))))))))
      (pss_cons (ps_set (i := 9) sc_law.nd rfl (Or.inl rfl) (pe_op op_cat (pv 9) (pe_lst (pa_cons pe_str (pa_cons pe_str (pa_cons pe_str (pa_cons pe_str (pa_cons pe_str (pa_cons pe_str pa_nil)))))))))
      (pss_cons (ps_set (i := 9) sc_law.nd rfl (Or.inl rfl) (pe_op op_cat (pv 9) (pe_lst (pa_cons pe_str (pa_cons pe_str (pa_cons pe_str (pa_cons pe_str (pa_cons pe_str (pa_cons pe_str (pa_cons pe_str (pa_cons pe_str pa_nil)))))))))))
      (pss_cons (ps_set (i := 9) sc_law.nd rfl (Or.inl rfl) (pe_op op_cat (pv 9) (pe_lst (pa_cons pe_str (pa_cons (pv 6) (pa_cons pe_str (pa_cons (pe_lst (pa_cons (pv 6) pa_nil)) pa_nil)))))))
      (pss_cons (ps_for PassesOwn.never rfl (pi_list (pe_op op_cat (pv 9) (pe_lc (own := [("_law_text_here", 15)]) (g := (gName 15)) (tt := tYes) rfl sc_law.nd (pi_list (pv 5)) (blkOk_by (N := ["_law_script", "_law_words", "_law_trees", "_law_row_here", "_law_some", "_law_texts", "_law_one", "_law_other", "_law_pairs", "_law_odd", "_law_thing", "_law_told", "_law_k", "_law_tree_here", "_law_formula", "_law_text_here"]) (sc := defScope (tp 44)) (by decide +kernel)) (fun _ _ _ _ _ => (pg_name (i := 15) sc_law.nd rfl (Or.inl rfl))) (fun _ _ _ _ _ => pts_nil) (fun _ _ _ _ _ => (pe_call GSp (hr.mono (by decide)) rfl gSp FSp.kp bSp .nil pass0 (pa_cons (pv 15) (pa_cons (pe_ix (r := rIxL K) ix_list (pv 3) pe_int (fun _ _ => rfl)) (pa_cons (pe_ix (r := rIxL K) ix_list (pv 3) pe_int (fun _ _ => rfl)) (pa_cons (pe_ix (r := rIxL K) ix_list (pv 3) pe_int (fun _ _ => rfl)) pa_nil))))))))) (pg_name (i := 10) sc_law.nd rfl (Or.inl rfl)) (pss_cons (ps_set (i := 11) sc_law.nd rfl (Or.inl rfl) (pe_call GMe (hr.mono (by decide)) rfl gMe FMe.kp bMe .nil pass0 (pa_cons (pv 10) pa_nil)))
      (pss_one (ps_if (PW.pt (pw_or (pt_cmpR op_eq (pe_call GFo (hr.mono (by decide)) rfl gFo FFo.kp bFo .nil pass0 (pa_cons (pv 10) pa_nil)) (pe_callB (r := rIsi K) call_isi rfl T.n.isi boot_isi (pa_cons (pv 11) (pa_cons (pe_bltn (v := .ty "tuple") rfl gTu (by decide +kernel) rfl) pa_nil))) (nomark _)) (pw_or1 (PW.pt (pw_and (pt_val (pe_callB (r := rIsi K) call_isi rfl T.n.isi boot_isi (pa_cons (pv 11) (pa_cons (pe_bltn (v := .ty "tuple") rfl gTu (by decide +kernel) rfl) pa_nil)))) (pw_and1 (pt_cmpR (op_neS hu0) (pv 11) (pe_tup (pa_cons pe_str (pa_cons (pv 10) pa_nil))) (nomark _)))))))) (pss_one (ps_ret pe_bl)) pss_nil))))
      (pss_one (ps_ret pe_bl)))))))), ?_⟩
  intro De Gl a w6 D p3 sm D2 one oth lp ns3 x1 x2 t1 hl3 le1 as1 le2 as2 i1 g3 gD2 q
  -- the odd things
  have grow := g3
  clear g3
  obtain ⟨f1b, rel1b, ⟨dxb, qb, eb1, eb2⟩, wt1b, so1b⟩ := i1
  refine ⟨(by show 12 ≤ sizeLine; decide), fun o1 ho1 => ?_⟩
  obtain ⟨s1, g1, z1⟩ := odd_first (K := K) ho1 (ys := [.non, .int 5, .str "", .str " ", .str "a b", .str "not", .str "a and", .str "(a", .str "a)", .str "a  and b", .str " a", .str "and"]) (fun H => od1_ok)
  have n1 : ([.non, .int 5, .str "", .str " ", .str "a b", .str "not", .str "a and", .str "(a", .str "a)", .str "a  and b", .str " a", .str "and"] : List V).length ≤ 12 := by decide
  generalize upd Gl o1 _ = Gm at s1 g1 z1 ⊢
  generalize ([.non, .int 5, .str "", .str " ", .str "a b", .str "not", .str "a and", .str "(a", .str "a)", .str "a  and b", .str " a", .str "and"] : List V) = y1 at g1 z1 n1
  clear ho1
  refine ⟨_, rfl, (by show 8 ≤ sizeLine; decide), fun r2 hr2 => ⟨o1, r2, y1, _, rfl, rfl, same_new hr2 _ _ g1, upd_same, (by show y1.length + 8 ≤ sizeLine; omega), fun o2 ho2 => ?_⟩⟩
  obtain ⟨s2, g2, z2, n2⟩ := odd_step (K := K) hr2 ho2 z1 (fun H => od2_ok)
  have s2 := s1.trans s2
  generalize upd (upd Gm r2 _) o2 _ = Gp at s2 g2 z2 ⊢
  generalize y1 ++ _ = y2 at g2 z2 n2
  have n2 : y2.length ≤ 20 := by rw [n2]; show _ + 8 ≤ _; omega
  clear hr2 ho2
  refine ⟨_, rfl, (by show 6 ≤ sizeLine; decide), fun r3 hr3 => ⟨o2, r3, y2, _, rfl, rfl, same_new hr3 _ _ g2, upd_same, (by show y2.length + 6 ≤ sizeLine; omega), fun o3 ho3 => ?_⟩⟩
  obtain ⟨s3, g3, z3, n3⟩ := odd_step (K := K) hr3 ho3 z2 (fun H => od3_ok)
  have s3 := s2.trans s3
  generalize upd (upd Gp r3 _) o3 _ = Gq at s3 g3 z3 ⊢
  generalize y2 ++ _ = y3 at g3 z3 n3
  have n3 : y3.length ≤ 26 := by rw [n3]; show _ + 6 ≤ _; omega
  clear hr3 ho3
  refine ⟨_, rfl, (by show 8 ≤ sizeLine; decide), fun r4 hr4 => ⟨o3, r4, y3, _, rfl, rfl, same_new hr4 _ _ g3, upd_same, (by show y3.length + 8 ≤ sizeLine; omega), fun o4 ho4 => ?_⟩⟩
  obtain ⟨s4, g4, z4, n4⟩ := odd_step (K := K) hr4 ho4 z3 (fun H => od4_ok)
  have s4 := s3.trans s4
  generalize upd (upd Gq r4 _) o4 _ = Gr at s4 g4 z4 ⊢
  generalize y3 ++ _ = y4 at g4 z4 n4
  have n4 : y4.length ≤ 34 := by rw [n4]; show _ + 8 ≤ _; omega
  clear hr4 ho4
  have zo : OddOk K Gr (.ref one) := odd_fm X M (s4 _ _ eb1) kStr
  refine ⟨_, rfl, _, rfl, _, rfl, (by show 1 ≤ sizeLine; decide), fun l5 hl5 => ⟨(by show 4 ≤ sizeLine; decide), fun p5 hp5 => ⟨o4, p5, y4, _, rfl, rfl, ((same_new hl5).trans (same_new hp5)) _ _ g4, upd_same, (by show y4.length + 4 ≤ sizeLine; omega), fun o5 ho5 => ?_⟩⟩⟩
  have sl5 := same_new hl5 (u := .lst [.ref one])
  have z5 : OddL K (upd Gr l5 (.lst [.ref one])) [.str "there@a", .ref one, .str "not(a)", .ref l5] :=
    OddL.cons (odd_str (by decide +kernel) (asc_lit (by decide +kernel))) (OddL.cons (zo.same sl5) (OddL.cons (odd_str (by decide +kernel) (asc_lit (by decide +kernel))) (OddL.cons (odd_lst upd_same) OddL.nil)))
  obtain ⟨s5, g5, z5, n5⟩ := odd_last hp5 ho5 (z4.same sl5) z5
  have s5 := (s4.trans sl5).trans s5
  generalize upd (upd (upd Gr l5 _) p5 _) o5 _ = Gs at s5 g5 z5 ⊢
  generalize y4 ++ _ = y5 at g5 z5 n5
  have n5 : y5.length ≤ 40 := by rw [n5]; show _ + 4 ≤ _; omega
  have grow := s5 _ _ grow
  have gD2 := s5 _ _ gD2
  clear hl5 hp5 ho5 sl5 s4 s5 g4 z4 n4 zo eb1 eb2 s1 s2 s3
  -- the spoilt texts
  refine ⟨_, rfl, _, rfl, D2, rfl, ⟨_, SqL.of gD2⟩, fun D5 hD5 => ?_⟩
  refine lc_list (K := K) (a := D2) (xs := [.str x1, .str x2]) (fun i G => Same Gs G ∧ ∃ us : List Str, G D5 = some (.lst (us.map V.str)) ∧ (∀ z ∈ us, z.length ≤ 3900 ∧ Asc z) ∧ us.length = i) ⟨same_new hD5, [], upd_same, (fun z hz => by cases hz), rfl⟩ (fun i G _ h => SqL.of (h.1 _ _ gD2)) ?_ ?_
  · rintro i x G hi ⟨s6, us, gD5, hus, hul⟩
    have hi2 : i < 2 := (List.getElem?_eq_some_iff.mp hi).1
    obtain ⟨z, rfl, hz, hza⟩ : ∃ z, x = .str z ∧ z.length ≤ 704 ∧ Asc z := by
      rcases List.mem_cons.mp (List.mem_of_getElem? hi) with e | e
      · exact ⟨x1, e, le1, as1⟩
      · exact ⟨x2, List.mem_singleton.mp e, le2, as2⟩
    have row : ∀ j : Nat, j < 47 → ∃ c : Int, atI (ns3.map V.int) (j : Int) = some (.int c) := fun j hj => by
      have hj2 : j < ns3.length := by omega
      exact ⟨ns3[j], atI_nat (by simp [hj2])⟩
    obtain ⟨c0, hc0⟩ := row 0 (by decide)
    obtain ⟨c1, hc1⟩ := row 1 (by decide)
    obtain ⟨c2, hc2⟩ := row 2 (by decide)
    have g36 := SqL.of (K := K) (s6 _ _ grow)
    refine ⟨rfl, ?_⟩
    dsimp only [tYes]
    rw [if_pos rfl]
    refine ⟨_, rfl, _, rfl, p3, _, 0, .int c0, rfl, rfl, g36, hc0, _, rfl, p3, _, 1, .int c1, rfl, rfl, g36, hc1, _, rfl, p3, _, 2, .int c2, rfl, rfl, g36, hc2, ?_⟩
    refine ⟨z, c0, c1, c2, rfl, by omega, hza, fun sp hsl hsa => ⟨_, gD5, by rw [List.length_map]; omega, ?_, us ++ [sp], ?_, ?_, by rw [List.length_append, hul]; rfl⟩⟩
    · intro b o hb
      rw [upd_ne (ne_of_none hb hD5)]
      exact s6 _ _ hb
    · rw [upd_same, List.map_append]
      rfl
    · intro y hy
      rcases List.mem_append.mp hy with w1 | w1
      · exact hus y w1
      · rw [List.mem_singleton.mp w1]
        exact ⟨by omega, hsa⟩
  rintro Gt ⟨s6, us, gD5, hus, hul⟩
  have hul : us.length = 2 := hul
  refine ⟨o5, D5, y5, us.map V.str, rfl, rfl, s6 _ _ g5, gD5, by rw [List.length_map]; omega, fun oo hoo => ?_⟩
  obtain ⟨s7, g7, z7⟩ := odd_cat hoo (z5.same s6) (odd_each (K := K) hus)
  generalize upd Gt oo _ = Gu at s7 g7 z7 ⊢
  generalize y5 ++ List.map V.str us = yy at g7 z7
  clear s6 s7 gD5 hus hul g5 z5 n5 hoo hD5 grow gD2 hl3
  refine ⟨oo, rfl, ⟨_, SqL.of g7⟩, for_list (K := K) (a := oo) (xs := yy)
    (fun i σ F => ∃ o10 o11, σ = [some (.ref a), some (.ref w6), some (.ref D), some (.ref p3), some (.ref sm), some (.ref D2), some (.ref one), some (.ref oth), some (.ref lp), some (.ref o5), o10, o11, none, none, none, none] ∧ Same Gu F)
    ⟨none, none, rfl, Same.refl _⟩ (fun i σ F _ h => by
      obtain ⟨_, _, _, h⟩ := h
      exact SqL.of (h _ _ g7)) ?_ ?_⟩
  · rintro i x σ F hi ⟨o10, o11, rfl, s8⟩
    obtain ⟨any, hstr, self⟩ := (z7.same s8) x (List.mem_of_getElem? hi)
    have look : ∀ z, x = .str z → z.length ≤ 20000 ∧ ∀ c ∈ tl z, c < 256 := fun z e => ⟨Nat.le_trans (hstr z e).1 (by decide), (hstr z e).2⟩
    refine ⟨_, rfl, x, rfl, any, (fun z e => (hstr z e).1), ?_, ?_⟩
    · intro hsg p G s9 np gp
      have hf : lawFormulaV x = false := by rw [lawV_is, hsg]; rfl
      refine ⟨_, rfl, x, rfl, any_same s9 any, look, fun G2 s10 => ⟨_, rfl, .ref p, .ty "tuple", .type "tuple", .type "tuple", true, rfl, .ty _, .base (.tup (s10 _ _ gp)), kit_ty (by decide +kernel), rfl, false, ?_, iteF ?_⟩⟩
      · rw [hf]
        rfl
      refine ⟨_, rfl, .ref p, .ty "tuple", .type "tuple", .type "tuple", true, rfl, .ty _, .base (.tup (s10 _ _ gp)), kit_ty (by decide +kernel), true, rfl, iteT ?_⟩
      refine ⟨_, rfl, _, rfl, (by show 2 ≤ sizeLine; decide), fun tq htq => ⟨p, tq, [.str "bad", x], rfl, rfl, SqT.of (same_new htq _ _ (s10 _ _ gp)), SqT.of upd_same, ?_, false, rfl, iteF ⟨_, _, rfl, ((s8.trans s9).trans s10).trans (same_new htq)⟩⟩⟩
      intro v hv
      rcases List.mem_cons.mp hv with e | hv
      · rw [e]; exact .inl rfl
      · rw [List.mem_singleton.mp hv]; exact self
    · intro hsg y G s9
      have hf : lawFormulaV x = true := by
        rcases told_ok x with ⟨w1, _⟩ | ⟨_, w2⟩
        · exact absurd w1 hsg
        · exact w2
      refine ⟨_, rfl, x, rfl, any_same s9 any, look, fun G2 s10 => ⟨_, rfl, .str y, .ty "tuple", .type "str", .type "tuple", false, rfl, .ty _, .base (.str y), kit_ty (by decide +kernel), rfl, false, ?_, iteF ?_⟩⟩
      · rw [hf]
        rfl
      exact ⟨_, rfl, .str y, .ty "tuple", .type "str", .type "tuple", false, rfl, .ty _, .base (.str y), kit_ty (by decide +kernel), false, rfl, iteF ⟨_, _, rfl, (s8.trans s9).trans s10⟩⟩
  · rintro σ F ⟨o10, o11, rfl, s8⟩
    exact q F
end
end Fx
set_option maxHeartbeats 8000000
namespace Fx
open PySem PySem.Spec PyProof.Rows L2 TL
section
variable {P : Program} {w : World} {K : PySem.W.Frag} {mg : Str → Option Value} {base : Heap} {f C CB fS fI fA fO fN fCe fRo fTr fLi fLo fRi fX fSp fFo fMe : Addr} {fd fdS fdI fdA fdO fdN fdCe fdRo fdTr fdLi fdLo fdRi fdX fdSp fdFo fdMe : FuncData}
def Tail2 (K : PySem.W.Frag) (C : Addr) (t : TS) : Prop := ∀ (De : Ends) (G9 : Hp) (a w6 D p3 sm D2 one oth : Addr) (ns3 : List Int) (x1 x2 : Str) (t1 t2 : LT) (u1 u2 : V) (xs : List V) (ws : List (Str → Bool)) (hl3 : ns3.length = 47) (le1 : x1.length ≤ 704) (as1 : Asc x1) (le2 : x2.length ≤ 704) (as2 : Asc x2) (ok1 : LtOk sixWords 3 t1) (ok2 : LtOk sixWords 3 t2)
    (hxl : xs.length ≤ 60) (i1 : IsF G9 C one t1) (i2 : IsF G9 C oth t2) (gD29 : G9 D2 = some (.lst [.str x1, .str x2])) (gD9 : G9 D = some (.lst [u1, u2])) (g39 : G9 p3 = some (.lst (ns3.map V.int))) (gsm9 : G9 sm = some (.lst xs)) (hin9 : InsOk K G9 xs ws) (tr19 : TreeAt G9 t1 u1) (tr29 : TreeAt G9 t2 u2), (∀ G, De.rt (.bl true) G) → t De [some (.ref a), some (.ref w6), some (.ref D), some (.ref p3), some (.ref sm), some (.ref D2), some (.ref one), some (.ref oth), none, none, none, none, none, none, none, none] G9
theorem tail2 {cdv : Value} {A : Around} {outer : List Env} {s : Shared} {H : Hp} {E : XK} (hr : Room 11 (A.deeper (envOfC "law" (defScope (tp 44)) s.heap.objs.size f cdv))) (T : RTxt K w mg) (X : FCls K C) (M : MTxt K mg C fI) (OC : OCls K C fA fO fN)
    (FRi : FnT K "_law_right" 38 fRi fdRi) (gRi : mg "_law_right" = some (.ref fRi)) (GRi : FnOk P w K mg base CX0 10 fRi fdRi ["_law_formula", "_law_tree_here", "_law_some"] (spRight K C))
    (SC : SCls K C fS) (GS : FnOk P w K mg base CX0 3 fS fdS ["self"] (spMStr C)) (FS : FnI K "Formula.__str__" "__str__" 13 7 fS fdS)
    (GI : FnOk P w K mg base (L2.CX P w) 5 fI fdI ["self", "text"] (spInitF K C CB)) (FI : FnI K "Formula.__init__" "__init__" 13 0 fI fdI)
    (GA : FnOk P w K mg base CX0 8 fA fdA ["self", "other"] (spBin C ") and (")) (FA : FnI K "Formula.__and__" "__and__" 13 3 fA fdA)
    (GO : FnOk P w K mg base CX0 8 fO fdO ["self", "other"] (spBin C ") or (")) (FO : FnI K "Formula.__or__" "__or__" 13 4 fO fdO)
    (GN : FnOk P w K mg base CX0 8 fN fdN ["self"] (spInv C)) (FN : FnI K "Formula.__invert__" "__invert__" 13 5 fN fdN)
    {t3 : TS} (h3 : PSs (XLaw P w K mg base f cdv A outer s H E) ((defBody (tp 44)).drop 10) t3) (r3 : Tail3 C t3) :
    ∃ t, PSs (XLaw P w K mg base f cdv A outer s H E) ((defBody (tp 44)).drop 6) t ∧ Tail2 K C t := by
  have bRi : L2.Binds K fdRi ["_law_formula", "_law_tree_here", "_law_some"] [] := FRi.bindsN fun _ _ _ _ _ _ us hl => match us, hl with | [_, _, _], _ => rfl
  have bS : L2.Binds K fdS ["self"] [] := FS.bindsN fun _ _ _ _ _ _ us hl => match us, hl with | [_], _ => rfl
  have bI : L2.Binds K fdI ["self", "text"] [] := FI.bindsN fun _ _ _ _ _ _ us hl => match us, hl with | [_, _], _ => rfl
  have gF := M.g
  have MF := M.mkr
  have bA : L2.Binds K fdA ["self", "other"] [] := FA.bindsN fun _ _ _ _ _ _ us hl => match us, hl with | [_, _], _ => rfl
  have bO : L2.Binds K fdO ["self", "other"] [] := FO.bindsN fun _ _ _ _ _ _ us hl => match us, hl with | [_, _], _ => rfl
  have bN : L2.Binds K fdN ["self"] [] := FN.bindsN fun _ _ _ _ _ _ us hl => match us, hl with | [_], _ => rfl
  have line : (400000 : Nat) ≤ sizeLine := by decide
  refine ⟨_, (pss_cons (ps_if (PW.pt (pw_or (pt_not (pt_val (pe_call GRi (hr.mono (by decide)) rfl gRi FRi.kp bRi .nil pass0 (pa_cons (pv 6) (pa_cons (pe_ix (r := rIxL K) ix_list (pv 2) pe_int (fun _ _ => rfl)) (pa_cons (pv 4) pa_nil)))))) (pw_or1 (pt_not (pt_val (pe_call GRi (hr.mono (by decide)) rfl gRi FRi.kp bRi .nil pass0 (pa_cons (pv 7) (pa_cons (pe_ix (r := rIxL K) ix_list (pv 2) pe_int (fun _ _ => rfl)) (pa_cons (pv 4) pa_nil))))))))) (pss_one (ps_ret pe_bl)) pss_nil)
      (pss_cons (ps_set (i := 8) sc_law.nd rfl (Or.inl rfl) (pe_lst (pa_cons (pe_tup (pa_cons (pe_op (op_own OC.sf OC.a.at_ OC.a.fn GA (hr.mono (by decide)) bA) (pv 6) (pv 7)) (pa_cons (pe_tup (pa_cons pe_str (pa_cons (pv 2) pa_nil))) pa_nil))) (pa_cons (pe_tup (pa_cons (pe_op (op_own OC.sf OC.o.at_ OC.o.fn GO (hr.mono (by decide)) bO) (pv 6) (pv 7)) (pa_cons (pe_tup (pa_cons pe_str (pa_cons (pv 2) pa_nil))) pa_nil))) (pa_cons (pe_tup (pa_cons (pe_un (un_own OC.i.at_ OC.i.fn GN (hr.mono (by decide)) bN) (pv 6)) (pa_cons (pe_tup (pa_cons pe_str (pa_cons (pe_ix (r := rIxL K) ix_list (pv 2) pe_int (fun _ _ => rfl)) pa_nil))) pa_nil))) pa_nil)))))
      (pss_cons (ps_if (PW.pt (pw_or (pt_not (pt_val (pe_callB (cr_all rfl) rfl T.n.all boot_all (pa_cons (pe_lc (own := [("_law_formula", 14), ("_law_tree_here", 13)]) (g := (gTup K 2 (gCons (gName 14) (gCons (gName 13) gNil)))) (tt := tYes) rfl sc_law.nd (pi_list (pv 8)) (blkOk_by (N := ["_law_script", "_law_words", "_law_trees", "_law_row_here", "_law_some", "_law_texts", "_law_one", "_law_other", "_law_pairs", "_law_odd", "_law_thing", "_law_told", "_law_k", "_law_tree_here", "_law_formula", "_law_text_here"]) (sc := defScope (tp 44)) (by decide +kernel)) (fun _ _ _ _ _ => (pg_tup rfl (pgs_cons (pg_name (i := 14) sc_law.nd rfl (Or.inl rfl)) (pgs_cons (pg_name (i := 13) sc_law.nd rfl (Or.inl rfl)) pgs_nil)))) (fun _ _ _ _ _ => pts_nil) (fun _ _ _ _ _ => (pe_call GRi (hr.mono (by decide)) rfl gRi FRi.kp bRi .nil pass0 (pa_cons (pv 14) (pa_cons (pv 13) (pa_cons (pv 4) pa_nil)))))) pa_nil)))) (pw_or1 (pt_not (pt_val (pe_call GRi (hr.mono (by decide)) rfl gRi FRi.kp bRi .nil pass0 (pa_cons (pv 6) (pa_cons (pe_ix (r := rIxL K) ix_list (pv 2) pe_int (fun _ _ => rfl)) (pa_cons (pv 4) pa_nil))))))))) (pss_one (ps_ret pe_bl)) pss_nil)
      (pss_cons (ps_if (pt_not (pt_val (pe_callB (cr_all rfl) rfl T.n.all boot_all (pa_cons (pe_lc (own := [("_law_formula", 14), ("_law_tree_here", 13)]) (g := (gTup K 2 (gCons (gName 14) (gCons (gName 13) gNil)))) (tt := tYes) rfl sc_law.nd (pi_list (pv 8)) (blkOk_by (N := ["_law_script", "_law_words", "_law_trees", "_law_row_here", "_law_some", "_law_texts", "_law_one", "_law_other", "_law_pairs", "_law_odd", "_law_thing", "_law_told", "_law_k", "_law_tree_here", "_law_formula", "_law_text_here"]) (sc := defScope (tp 44)) (by decide +kernel)) (fun _ _ _ _ _ => (pg_tup rfl (pgs_cons (pg_name (i := 14) sc_law.nd rfl (Or.inl rfl)) (pgs_cons (pg_name (i := 13) sc_law.nd rfl (Or.inl rfl)) pgs_nil)))) (fun _ _ _ _ _ => pts_nil) (fun _ _ _ _ _ => (pe_cmpR (r := rEq) op_eq (pe_callTy (r := (rStrI C)) (call_strI SC GS (hr.mono (by decide)) bS) rfl T.n.str boot_str (pa_cons (pe_make MF GI (hr.mono (by decide)) rfl gF bI .nil passL (pa_cons (pe_callTy (r := (rStrI C)) (call_strI SC GS (hr.mono (by decide)) bS) rfl T.n.str boot_str (pa_cons (pv 14) pa_nil)) pa_nil)) pa_nil)) (pe_callTy (r := (rStrI C)) (call_strI SC GS (hr.mono (by decide)) bS) rfl T.n.str boot_str (pa_cons (pv 14) pa_nil)) (nomark _)))) pa_nil)))) (pss_one (ps_ret pe_bl)) pss_nil)
      h3)))), ?_⟩
  intro De G9 a w6 D p3 sm D2 one oth ns3 x1 x2 t1 t2 u1 u2 xs ws hl3 le1 as1 le2 as2 ok1 ok2 hxl i1 i2 gD29 gD9 g39 gsm9 hin9 tr19 tr29 q
  -- both are right
  obtain ⟨dd1, ll1, kk1⟩ := right_args (lt_up 3 t1 ok1)
  obtain ⟨dd2, ll2, kk2⟩ := right_args (lt_up 3 t2 ok2)
  have hxl2 : xs.length ≤ 100 := by omega
  refine ⟨_, rfl, _, rfl, D, _, 0, u1, rfl, rfl, SqL.of gD9, rfl, _, rfl, one, u1, sm, t1, xs, ws, rfl, i1, tr19, SqL.of gsm9, hin9, dd1, ll1, kk1, hxl2, fun Ga sa => ⟨true, rfl, iteF ?_⟩⟩
  refine ⟨_, rfl, _, rfl, D, _, 1, u2, rfl, rfl, SqL.of (sa _ _ gD9), rfl, _, rfl, oth, u2, sm, t2, xs, ws, rfl, i2.same sa, treeAt_same sa tr29, SqL.of (sa _ _ gsm9), hin9.same sa, dd2, ll2, kk2, hxl2, fun Gb sb => ⟨true, rfl, iteF ?_⟩⟩
  have sab := sa.trans sb
  have i1 := i1.same sab
  have i2 := i2.same sab
  have gD := sab _ _ gD9
  have g3 := sab _ _ g39
  have gsm := sab _ _ gsm9
  have gD2 := sab _ _ gD29
  have hin := hin9.same sab
  have tr1 := treeAt_same sab tr19
  have tr2 := treeAt_same sab tr29
  clear sa sb sab gD9 g39 gsm9 gD29 hin9 tr19 tr29
  -- the pairs
  obtain ⟨f1, rel1, fm1, wt1, so1⟩ := id i1
  obtain ⟨f2, rel2, fm2, wt2, so2⟩ := id i2
  obtain ⟨lenA, rdA⟩ := bin_ok true ok1 ok2 rel1 rel2
  obtain ⟨lenO, rdO⟩ := bin_ok false ok1 ok2 rel1 rel2
  obtain ⟨lenN, rdN⟩ := neg_ok ok1 rel1
  obtain ⟨neA, mkA⟩ := read_fm rdA lenA
  obtain ⟨neO, mkO⟩ := read_fm rdO lenO
  obtain ⟨neN, mkN⟩ := read_fm rdN lenN
  obtain ⟨dx1, q1, e11, e12⟩ := id fm1
  obtain ⟨dx2, q2, e21, e22⟩ := id fm2
  refine ⟨_, rfl, _, rfl, one, oth, dx1, dx2, _, _, rfl, rfl, e11, e21, one, oth, f1, f2, rfl, fm1, fm2, rel1.wf, rel2.wf, wt1, wt2, lenA, neA, fun cA Gc sc nc fmA => ⟨cA, rfl, ?_⟩⟩
  refine ⟨_, rfl, (by show 2 ≤ sizeLine; decide), fun tA htA => ⟨(by show 2 ≤ sizeLine; decide), fun pA hpA => ?_⟩⟩
  have sd := same_new htA (u := .tup [.str "and", .ref D])
  have se := same_new hpA (u := .tup [.ref cA, .ref tA])
  have pairA : PairAt (upd (upd Gc tA (.tup [.str "and", .ref D])) pA (.tup [.ref cA, .ref tA])) C (.ref pA) (.nary true [t1, t2]) :=
    ⟨pA, cA, .ref tA, rfl, upd_same, (mkA Gc C cA fmA).same (sd.trans se), treeAt_same se ⟨tA, D, [u1, u2], rfl, upd_same, sd _ _ (sc _ _ gD), treesAt_same (sc.trans sd) ⟨u1, _, rfl, tr1, u2, _, rfl, tr2, rfl⟩⟩, lt_bin true ok1 ok2⟩
  have s1 := (sc.trans sd).trans se
  generalize upd (upd Gc tA (.tup [.str "and", .ref D])) pA (.tup [.ref cA, .ref tA]) = Gd at s1 pairA ⊢
  clear sc sd se htA hpA fmA
  refine ⟨_, rfl, _, rfl, one, oth, dx1, dx2, _, _, rfl, rfl, s1 _ _ e11, s1 _ _ e21, one, oth, f1, f2, rfl, fm1.same s1, fm2.same s1, rel1.wf, rel2.wf, wt1, wt2, lenO, neO, fun cO Ge sc nc2 fmO => ⟨cO, rfl, ?_⟩⟩
  refine ⟨_, rfl, (by show 2 ≤ sizeLine; decide), fun tO htO => ⟨(by show 2 ≤ sizeLine; decide), fun pO hpO => ?_⟩⟩
  have sd := same_new htO (u := .tup [.str "or", .ref D])
  have se := same_new hpO (u := .tup [.ref cO, .ref tO])
  have s1c := s1.trans sc
  have pairO : PairAt (upd (upd Ge tO (.tup [.str "or", .ref D])) pO (.tup [.ref cO, .ref tO])) C (.ref pO) (.nary false [t1, t2]) :=
    ⟨pO, cO, .ref tO, rfl, upd_same, (mkO Ge C cO fmO).same (sd.trans se), treeAt_same se ⟨tO, D, [u1, u2], rfl, upd_same, sd _ _ (s1c _ _ gD), treesAt_same (s1c.trans sd) ⟨u1, _, rfl, tr1, u2, _, rfl, tr2, rfl⟩⟩, lt_bin false ok1 ok2⟩
  have s2 := (sc.trans sd).trans se
  have pairA := pairA.same s2
  have s2 := s1.trans s2
  generalize upd (upd Ge tO (.tup [.str "or", .ref D])) pO (.tup [.ref cO, .ref tO]) = Gf at s2 pairA pairO ⊢
  clear sc sd se htO hpO fmO s1 s1c nc nc2
  refine ⟨_, rfl, one, dx1, _, rfl, s2 _ _ e11, one, f1, rfl, fm1.same s2, rel1.wf, wt1, lenN, neN, fun cN Gg sc nc fmN => ?_⟩
  refine ⟨_, rfl, D, _, 0, u1, rfl, rfl, SqL.of ((s2.trans sc) _ _ gD), rfl, (by show 2 ≤ sizeLine; decide), fun tN htN => ⟨(by show 2 ≤ sizeLine; decide), fun pN hpN => ?_⟩⟩
  have sd := same_new htN (u := .tup [.str "not", u1])
  have se := same_new hpN (u := .tup [.ref cN, .ref tN])
  have s2c := s2.trans sc
  have pairN : PairAt (upd (upd Gg tN (.tup [.str "not", u1])) pN (.tup [.ref cN, .ref tN])) C (.ref pN) (.neg t1) :=
    ⟨pN, cN, .ref tN, rfl, upd_same, (mkN Gg C cN fmN).same (sd.trans se), treeAt_same se ⟨tN, u1, rfl, upd_same, treeAt_same (s2c.trans sd) tr1⟩, ok1⟩
  have s3 := (sc.trans sd).trans se
  have pairA := pairA.same s3
  have pairO := pairO.same s3
  have s3 := s2.trans s3
  generalize upd (upd Gg tN (.tup [.str "not", u1])) pN (.tup [.ref cN, .ref tN]) = Gh at s3 pairA pairO pairN ⊢
  clear sc sd se htN hpN fmN s2 s2c nc
  refine ⟨(by show 3 ≤ sizeLine; decide), fun lp hlp => ?_⟩
  have s4 := same_new hlp (u := .lst [.ref pA, .ref pO, .ref pN])
  have glp : upd Gh lp (.lst [.ref pA, .ref pO, .ref pN]) lp = some (.lst [.ref pA, .ref pO, .ref pN]) := upd_same
  have prs : PairsOk (upd Gh lp (.lst [.ref pA, .ref pO, .ref pN])) C [.ref pA, .ref pO, .ref pN] := fun x hx => by
    rcases List.mem_cons.mp hx with e | hx
    · rw [e]; exact ⟨_, pairA.same s4⟩
    · rcases List.mem_cons.mp hx with e | hx
      · rw [e]; exact ⟨_, pairO.same s4⟩
      · rw [List.mem_singleton.mp hx]; exact ⟨_, pairN.same s4⟩
  have s4 := s3.trans s4
  have hpl : ([.ref pA, .ref pO, .ref pN] : List V).length = 3 := rfl
  generalize upd Gh lp (.lst [.ref pA, .ref pO, .ref pN]) = Gi at s4 glp prs ⊢
  generalize ([.ref pA, .ref pO, .ref pN] : List V) = prl at glp prs hpl ⊢
  have i1 := i1.same s4
  have gD := s4 _ _ gD
  have g3 := s4 _ _ g3
  have gsm := s4 _ _ gsm
  have gD2 := s4 _ _ gD2
  have hin := hin.same s4
  have tr1 := treeAt_same s4 tr1
  clear s3 s4 pairA pairO pairN hlp i2 fm1 fm2 e11 e12 e21 e22 neA neO neN mkA mkO mkN rdA rdO rdN lenA lenO lenN tr2
  -- all of them are right
  have allT : ∀ n : Nat, (List.replicate n true).all id = true := fun n => by
    rw [List.all_eq_true]
    intro x hx
    rw [List.eq_of_mem_replicate hx]
    rfl
  refine ⟨_, rfl, lp, rfl, ⟨_, SqL.of glp⟩, fun D3 hD3 => ?_⟩
  refine lc_list (K := K) (a := lp) (xs := prl) (fun i G => Same Gi G ∧ G D3 = some (.lst ((List.replicate i true).map V.bl))) ⟨same_new hD3, upd_same⟩ (fun i G _ h => SqL.of (h.1 _ _ glp)) ?_ ?_
  · rintro i x G hi ⟨s5, gD3⟩
    obtain ⟨T2, tp2, c2, tt2, rfl, hp1, hp2, hp3, hp4⟩ := (prs.same s5) x (List.mem_of_getElem? hi)
    have hi2 := (List.getElem?_eq_some_iff.mp hi).1
    obtain ⟨dd, ll, kk⟩ := right_args hp4
    refine ⟨tp2, [.ref c2, tt2], rfl, SqT.of hp1, rfl, _, _, rfl, _, _, rfl, rfl, rfl, ?_⟩
    dsimp only [tYes]
    rw [if_pos rfl]
    refine ⟨_, rfl, _, rfl, _, rfl, c2, tt2, sm, T2, xs, ws, rfl, hp2, hp3, SqL.of (s5 _ _ gsm), hin.same s5, dd, ll, kk, hxl2, fun Gj sj => ⟨_, sj _ _ gD3, ?_, ?_, ?_⟩⟩
    · rw [List.length_map, List.length_replicate]
      omega
    · intro b o hb
      rw [upd_ne (ne_of_none hb hD3)]
      exact sj _ _ (s5 _ _ hb)
    · rw [List.replicate_succ', List.map_append]
      exact upd_same
  rintro Gj ⟨s5, gD3⟩
  refine ⟨D3, List.replicate prl.length true, rfl, SqL.of gD3, true, congrArg V.bl (allT _), iteF ?_⟩
  refine ⟨_, rfl, _, rfl, D, _, 0, u1, rfl, rfl, SqL.of (s5 _ _ gD), rfl, _, rfl, one, u1, sm, t1, xs, ws, rfl, i1.same s5, treeAt_same s5 tr1, SqL.of (s5 _ _ gsm), hin.same s5, dd1, ll1, kk1, hxl2, fun Gk sk => ⟨true, rfl, iteF ?_⟩⟩
  have s5k := s5.trans sk
  have i1 := i1.same s5k
  have g3 := s5k _ _ g3
  have gD2 := s5k _ _ gD2
  have glp := s5k _ _ glp
  have prs := prs.same s5k
  clear s5 sk s5k gD3 hD3 gD gsm hin tr1
  -- each one's text, read again
  refine ⟨_, rfl, lp, rfl, ⟨_, SqL.of glp⟩, fun D4 hD4 => ?_⟩
  refine lc_list (K := K) (a := lp) (xs := prl) (fun i G => Same Gk G ∧ G D4 = some (.lst ((List.replicate i true).map V.bl))) ⟨same_new hD4, upd_same⟩ (fun i G _ h => SqL.of (h.1 _ _ glp)) ?_ ?_
  · rintro i x G hi ⟨s5, gD4⟩
    obtain ⟨T2, tp2, c2, tt2, rfl, hp1, ⟨f3, rel3, fm3, wt3, so3⟩, hp3, hp4⟩ := (prs.same s5) x (List.mem_of_getElem? hi)
    have hi2 := (List.getElem?_eq_some_iff.mp hi).1
    obtain ⟨len3, rd3⟩ := own_ok hp4 rel3
    obtain ⟨ne3, mk3⟩ := read_fm rd3 len3
    obtain ⟨dx3, q3, e31, e32⟩ := id fm3
    refine ⟨tp2, [.ref c2, tt2], rfl, SqT.of hp1, rfl, _, _, rfl, _, _, rfl, rfl, rfl, ?_⟩
    dsimp only [tYes]
    rw [if_pos rfl]
    refine ⟨_, rfl, c2, dx3, _, rfl, e31, c2, f3, rfl, fm3, rel3.wf, wt3, fun Gl sl => ⟨_, rfl, ?_⟩⟩
    refine rd_mkR len3 ne3 fun c4 Gm sm4 nm4 fm4 => ?_
    obtain ⟨f4, rel4, fm4, wt4, so4⟩ := mk3 Gm C c4 fm4
    obtain ⟨dx4, q4, e41, e42⟩ := id fm4
    have slm := sl.trans sm4
    refine ⟨c4, dx4, _, rfl, e41, c4, f4, rfl, fm4, rel4.wf, wt4, fun Gn sn => ⟨_, rfl, ?_⟩⟩
    have sln := slm.trans sn
    refine ⟨_, rfl, c2, dx3, _, rfl, sln _ _ e31, c2, f3, rfl, fm3.same sln, rel3.wf, wt3, fun Go so => ⟨_, rfl, rfl, ?_⟩⟩
    have d4 := dep_ok 4 T2 hp4
    rw [rel3.txt 4 d4, rel4.txt 4 d4, decide_eq_true rfl]
    have slo := sln.trans so
    refine ⟨_, slo _ _ gD4, ?_, ?_, ?_⟩
    · rw [List.length_map, List.length_replicate]
      omega
    · intro b o hb
      rw [upd_ne (ne_of_none hb hD4)]
      exact slo _ _ (s5 _ _ hb)
    · rw [List.replicate_succ', List.map_append]
      exact upd_same
  rintro Gl ⟨s5, gD4⟩
  refine ⟨D4, List.replicate prl.length true, rfl, SqL.of gD4, true, congrArg V.bl (allT _), iteF ?_⟩
  have i1 := i1.same s5
  have g3 := s5 _ _ g3
  have gD2 := s5 _ _ gD2
  clear s5 gD4 hD4 glp prs
  exact r3 De Gl a w6 D p3 sm D2 one oth lp ns3 x1 x2 t1 hl3 le1 as1 le2 as2 i1 g3 gD2 q
end
end Fx
set_option maxHeartbeats 8000000
namespace Fx
open PySem PySem.Spec PyProof.Rows L2 TL
section
variable {P : Program} {w : World} {K : PySem.W.Frag} {mg : Str → Option Value} {base : Heap} {f C CB fS fI fA fO fN fCe fRo fTr fLi fLo fRi fX fSp fFo fMe : Addr} {fd fdS fdI fdA fdO fdN fdCe fdRo fdTr fdLi fdLo fdRi fdX fdSp fdFo fdMe : FuncData}
theorem ok_law (F : FnT K "law" 44 f fd) (T : RTxt K w mg) (X : FCls K C) (M : MTxt K mg C fI) (OC : OCls K C fA fO fN) (kStr : PySem.W.kitOne K (.ref C) (.type "str") = some false) (gTu : mg "tuple" = none) (gLs : mg "list" = none)
    (FCe : FnT K "_law_cell" 26 fCe fdCe) (gCe : mg "_law_cell" = some (.ref fCe)) (GCe : FnOk P w K mg base CX0 1 fCe fdCe ["_law_script", "_law_k"] (spCell K))
    (FRo : FnT K "_law_row" 27 fRo fdRo) (gRo : mg "_law_row" = some (.ref fRo)) (GRo : FnOk P w K mg base CX0 1 fRo fdRo ["_law_cell_here", "_law_sizes"] (spRow K))
    (FTr : FnT K "_law_tree" 28 fTr fdTr) (gTr : mg "_law_tree" = some (.ref fTr)) (GTr : FnOk P w K mg base CX0 4 fTr fdTr ["_law_left", "_law_words", "_law_depth"] (spTree K 3))
    (FLi : FnT K "_law_word_lists" 43 fLi fdLi) (gLi : mg "_law_word_lists" = some (.ref fLi)) (GLi : FnOk P w K mg base CX0 2 fLi fdLi ["_law_draws"] (spLists K))
    (FLo : FnT K "_law_loose" 33 fLo fdLo) (gLo : mg "_law_loose" = some (.ref fLo)) (GLo : FnOk P w K mg base CX0 4 fLo fdLo ["_law_tree_here", "_law_left"] (spLoose 3))
    (FRi : FnT K "_law_right" 38 fRi fdRi) (gRi : mg "_law_right" = some (.ref fRi)) (GRi : FnOk P w K mg base CX0 10 fRi fdRi ["_law_formula", "_law_tree_here", "_law_some"] (spRight K C))
    (FX : FnT K "_law_six_words" 42 fX fdX) (gX : mg "_law_six_words" = some (.ref fX)) (GX : FnOk P w K mg base CX0 1 fX fdX [] spSix)
    (FSp : FnT K "_law_spoilt" 41 fSp fdSp) (gSp : mg "_law_spoilt" = some (.ref fSp)) (GSp : FnOk P w K mg base CX0 1 fSp fdSp ["_law_text_here", "_law_way", "_law_at", "_law_more"] spSpoilt)
    (FFo : FnT K "_law_is_formula" 37 fFo fdFo) (gFo : mg "_law_is_formula" = some (.ref fFo)) (GFo : FnOk P w K mg base CX0 3 fFo fdFo ["_law_thing"] (spLawFormula K))
    (FMe : FnT K "_law_met" 40 fMe fdMe) (gMe : mg "_law_met" = some (.ref fMe)) (GMe : FnOk P w K mg base CX0 8 fMe fdMe ["_law_thing"] (spMet K))
    (SC : SCls K C fS) (GS : FnOk P w K mg base CX0 3 fS fdS ["self"] (spMStr C)) (FS : FnI K "Formula.__str__" "__str__" 13 7 fS fdS)
    (GI : FnOk P w K mg base (L2.CX P w) 5 fI fdI ["self", "text"] (spInitF K C CB)) (FI : FnI K "Formula.__init__" "__init__" 13 0 fI fdI)
    (GA : FnOk P w K mg base CX0 8 fA fdA ["self", "other"] (spBin C ") and (")) (FA : FnI K "Formula.__and__" "__and__" 13 3 fA fdA)
    (GO : FnOk P w K mg base CX0 8 fO fdO ["self", "other"] (spBin C ") or (")) (FO : FnI K "Formula.__or__" "__or__" 13 4 fO fdO)
    (GN : FnOk P w K mg base CX0 8 fN fdN ["self"] (spInv C)) (FN : FnI K "Formula.__invert__" "__invert__" 13 5 fN fdN) :
    FnOk P w K mg base CX0 12 f fd ["_law_script"] (spLaw K) := by
  have bCe : L2.Binds K fdCe ["_law_script", "_law_k"] [] := FCe.bindsN fun _ _ _ _ _ _ us hl => match us, hl with | [_, _], _ => rfl
  have bRo : L2.Binds K fdRo ["_law_cell_here", "_law_sizes"] [] := FRo.bindsN fun _ _ _ _ _ _ us hl => match us, hl with | [_, _], _ => rfl
  have bTr : L2.Binds K fdTr ["_law_left", "_law_words", "_law_depth"] [] := FTr.bindsN fun _ _ _ _ _ _ us hl => match us, hl with | [_, _, _], _ => rfl
  have bLi : L2.Binds K fdLi ["_law_draws"] [] := FLi.bindsN fun _ _ _ _ _ _ us hl => match us, hl with | [_], _ => rfl
  have bLo : L2.Binds K fdLo ["_law_tree_here", "_law_left"] [] := FLo.bindsN fun _ _ _ _ _ _ us hl => match us, hl with | [_, _], _ => rfl
  have bX : L2.Binds K fdX [] [] := FX.bindsN fun _ _ _ _ _ _ us hl => match us, hl with | [], _ => rfl
  have bS : L2.Binds K fdS ["self"] [] := FS.bindsN fun _ _ _ _ _ _ us hl => match us, hl with | [_], _ => rfl
  have bI : L2.Binds K fdI ["self", "text"] [] := FI.bindsN fun _ _ _ _ _ _ us hl => match us, hl with | [_, _], _ => rfl
  have gF := M.g
  have MF := M.mkr
  refine F.ok sc_law (fun vs H Q E h => ?_) (fun cdv A outer s H vs Q E hr h => ?_)
  · obtain ⟨a, ns, rfl, _⟩ := h
    rfl
  obtain ⟨t3, h3, r3⟩ := tail3 (outer := outer) (H := H) (E := E) hr T X M kStr gTu FSp gSp GSp FFo gFo GFo FMe gMe GMe
  obtain ⟨t2, h2, r2⟩ := tail2 (outer := outer) (H := H) (E := E) hr T X M OC FRi gRi GRi SC GS FS GI FI GA FA GO FO GN FN h3 r3
  have line : (400000 : Nat) ≤ sizeLine := by decide
  refine ⟨_, PSs.nox (pss_cons (ps_set (i := 1) sc_law.nd rfl (Or.inr rfl) (pe_call0 GX (hr.mono (by decide)) rfl gX FX.kp bX .nil pass0))
      (pss_cons ((ps_setLc (i := 2) (own := [("_law_k", 12)]) (g := (gName 12)) (tt := tYes) rfl sc_law.nd rfl rfl (sw_true rfl rfl rfl (by decide +kernel)) (pi_tup (pe_tup (pa_cons pe_int (pa_cons pe_int pa_nil)))) (blkOk_by (N := ["_law_script", "_law_words", "_law_trees", "_law_row_here", "_law_some", "_law_texts", "_law_one", "_law_other", "_law_pairs", "_law_odd", "_law_thing", "_law_told", "_law_k", "_law_tree_here", "_law_formula", "_law_text_here"]) (sc := defScope (tp 44)) (by decide +kernel)) (fun _ _ _ _ _ => (pg_name (i := 12) sc_law.nd rfl (Or.inl rfl))) (fun _ _ _ _ _ => pts_nil) (fun _ _ _ _ _ => (pe_call GTr (hr.mono (by decide)) rfl gTr FTr.kp bTr .nil pass0 (pa_cons (pe_call GRo (hr.mono (by decide)) rfl gRo FRo.kp bRo .nil pass0 (pa_cons (pe_call GCe (hr.mono (by decide)) rfl gCe FCe.kp bCe .nil pass0 (pa_cons (pv 0) (pa_cons (pv 12) pa_nil))) (pa_cons (pe_op op_rep (pe_lst (pa_cons pe_int pa_nil)) pe_int) pa_nil))) (pa_cons (pv 1) (pa_cons pe_int pa_nil)))))))
      (pss_cons (ps_set (i := 3) sc_law.nd rfl (Or.inr rfl) (pe_call GRo (hr.mono (by decide)) rfl gRo FRo.kp bRo .nil pass0 (pa_cons (pe_call GCe (hr.mono (by decide)) rfl gCe FCe.kp bCe .nil pass0 (pa_cons (pv 0) (pa_cons pe_int pa_nil))) (pa_cons (pe_op op_cat (pe_lst (pa_cons pe_int (pa_cons pe_int (pa_cons pe_int (pa_cons pe_int (pa_cons pe_int (pa_cons pe_int (pa_cons pe_int pa_nil)))))))) (pe_op op_rep (pe_lst (pa_cons pe_int pa_nil)) pe_int)) pa_nil))))
      (pss_cons (ps_set (i := 4) sc_law.nd rfl (Or.inr rfl) (pe_call GLi (hr.mono (by decide)) rfl gLi FLi.kp bLi .nil pass0 (pa_cons (pe_slice sl_list (pv 3) (po_some pe_int) (po_some pe_int)) pa_nil)))
      (pss_cons ((ps_setLc (i := 5) (own := [("_law_tree_here", 13)]) (g := (gName 13)) (tt := tYes) rfl sc_law.nd rfl rfl (sw_true rfl rfl rfl (by decide +kernel)) (pi_list (pv 2)) (blkOk_by (N := ["_law_script", "_law_words", "_law_trees", "_law_row_here", "_law_some", "_law_texts", "_law_one", "_law_other", "_law_pairs", "_law_odd", "_law_thing", "_law_told", "_law_k", "_law_tree_here", "_law_formula", "_law_text_here"]) (sc := defScope (tp 44)) (by decide +kernel)) (fun _ _ _ _ _ => (pg_name (i := 13) sc_law.nd rfl (Or.inl rfl))) (fun _ _ _ _ _ => pts_nil) (fun _ _ _ _ _ => (pe_call GLo (hr.mono (by decide)) rfl gLo FLo.kp bLo .nil pass0 (pa_cons (pv 13) (pa_cons (pe_callTy (r := (rListOf K)) call_list_of rfl gLs boot_list (pa_cons (pe_slice (r := rSlL K) sl_list (pv 3) (po_some pe_int) po_none) pa_nil)) pa_nil))))))
      (pss_cons (ps_par (i := 6) (j := 7) rfl sc_law.nd rfl rfl (by decide) rfl rfl (pa_cons (pe_make MF GI (hr.mono (by decide)) rfl gF bI .nil passL (pa_cons (pe_ix (r := rIxL K) ix_list (pv 5) pe_int (fun _ _ => rfl)) pa_nil)) (pa_cons (pe_make MF GI (hr.mono (by decide)) rfl gF bI .nil passL (pa_cons (pe_ix (r := rIxL K) ix_list (pv 5) pe_int (fun _ _ => rfl)) pa_nil)) pa_nil)) (by rfl))
      h2)))))), ?_⟩
  obtain ⟨a, ns, rfl, hs, q⟩ := h
  refine ⟨rfl, fun w6 hw6 => ?_⟩
  have s0 := same_new hw6 (u := .lst (sixWords.map V.str))
  have g6 : upd H w6 (.lst (sixWords.map V.str)) w6 = some (.lst (sixWords.map V.str)) := upd_same
  generalize upd H w6 (.lst (sixWords.map V.str)) = G0 at s0 g6 ⊢
  have hs0 := s0.seq hs
  -- the trees
  refine ⟨(by show 2 ≤ sizeLine; decide), fun t01 h01 => ⟨t01, rfl, ⟨_, SqT.of upd_same⟩, fun D hD => ?_⟩⟩
  have s1 := same_new h01 (u := .tup [.int 0, .int 1])
  have g01 : upd G0 t01 (.tup [.int 0, .int 1]) t01 = some (.tup [.int 0, .int 1]) := upd_same
  generalize upd G0 t01 (.tup [.int 0, .int 1]) = G1 at s1 g01 hD ⊢
  have g61 := s1 _ _ g6
  have hs1 := s1.seq hs0
  refine lc_it (walk_tup (K := K) (a := t01) (xs := [.int 0, .int 1])) (fun i G => Same G1 G ∧ ∃ us ts, G D = some (.lst us) ∧ TreesAt (hid D G) ts us ∧ (∀ t ∈ ts, LtOk sixWords 3 t) ∧ ts.length = i) ⟨same_new hD, [], [], upd_same, rfl, (fun t ht => by cases ht), rfl⟩ (fun i G _ h => SqT.of (h.1 _ _ g01)) ?_ ?_
  · rintro i x G G' hi ⟨s2, us, ts, gD, hts, hok, hlen⟩ ⟨rfl, hx⟩
    obtain ⟨k, rfl⟩ : ∃ k : Nat, x = .int (k : Nat) := by
      match i, hi, hx with
      | 0, _, hx => exact ⟨0, by cases hx; rfl⟩
      | 1, _, hx => exact ⟨1, by cases hx; rfl⟩
      | i + 2, hi, _ => exact absurd hi (by show ¬ i + 2 < 2; omega)
    refine ⟨rfl, ?_⟩
    dsimp only [tYes]
    rw [if_pos rfl]
    refine ⟨_, rfl, _, rfl, a, k, ns, rfl, s2.seq hs1, fun c => ⟨(by show 1 ≤ sizeLine; decide), fun l8 hl8 => ⟨l8, 30, [.int 512], rfl, rfl, upd_same, by decide, by decide, (by show 1 * 30 ≤ sizeLine; decide), fun p9 hp9 => ?_⟩⟩⟩
    have s3 := (same_new hl8 (u := .lst [.int 512])).trans (same_new hp9 (u := .lst (List.replicate (30 : Int).toNat [.int 512]).flatten))
    have g9 : upd (upd G' l8 (.lst [.int 512])) p9 (.lst (List.replicate (30 : Int).toNat [.int 512]).flatten) p9 = some (.lst ((List.replicate 30 (512 : Int)).map V.int)) := upd_same
    generalize upd (upd G' l8 (.lst [.int 512])) p9 (.lst (List.replicate (30 : Int).toNat [.int 512]).flatten) = G2 at s3 g9 ⊢
    refine ⟨c, p9, List.replicate 30 512, rfl, SqL.of g9, by simp, (fun s hs => by rw [List.eq_of_mem_replicate hs]; decide), fun lf G3 ns3 s4 hlf glf _ => ?_⟩
    have s34 := s3.trans s4
    have g63 := (s2.trans s34) _ _ g61
    have new : w6 ≠ lf := fun e => by
      rw [← e] at hlf
      have := (s2.trans s3) _ _ g61
      rw [hlf] at this
      cases this
    have neD : D ≠ lf := fun e => by
      rw [← e] at hlf
      have := s3 _ _ gD
      rw [hlf] at this
      cases this
    refine ⟨_, rfl, lf, w6, ns3, sixWords, rfl, glf, SqL.of (hid_at new g63), by decide, fun T v G4 ns4 tok frm glf4 tre => ?_⟩
    have gD4 : G4 D = some (.lst us) := frm _ _ neD (s34 _ _ gD)
    have s2' : Same G' G4 := fun b o hb => frm b o (fun e => by
      rw [e] at hb
      have := s3 _ _ hb
      rw [hlf] at this
      cases this) (s34 _ _ hb)
    refine ⟨_, gD4, ?_, ?_, us ++ [v], ts ++ [T], upd_same, ?_, ?_, by rw [List.length_append, hlen]; rfl⟩
    · have w1 := hts.len
      have hi2 : i < 2 := hi
      omega
    · intro b o hb
      rw [upd_ne (ne_of_none hb hD)]
      exact s2' _ _ (s2 _ _ hb)
    · have sh : Same (hid D G') (hid D (upd G4 D (.lst (us ++ [v])))) := fun b u hb => by
        obtain ⟨n1, h1⟩ := hid_some hb
        refine hid_at n1 ?_
        rw [upd_ne n1]
        exact s2' _ _ h1
      refine TreesAt.snoc (treesAt_same sh hts) (treeAt_same ?_ tre)
      intro b o hb
      obtain ⟨n1, n2⟩ := nw_some hb
      have nb : b ≠ D := fun e => by
        rw [e] at n1
        have := s34 _ _ gD
        rw [n1] at this
        cases this
      refine hid_at nb ?_
      rw [upd_ne nb]
      exact n2
    · intro t ht
      rcases List.mem_append.mp ht with w1 | w1
      · exact hok t w1
      · rw [List.mem_singleton.mp w1]
        exact tok
  rintro G2 ⟨s2, us, ts, gD, hts, hok, hlen⟩
  have hlen2 : ts.length = 2 := hlen
  have hul := hts.len
  obtain ⟨y1, y2, rfl⟩ : ∃ y1 y2, ts = [y1, y2] := by
    match ts, hlen2 with
    | [y1, y2], _ => exact ⟨y1, y2, rfl⟩
  have hts := treesAt_same hid_sub hts
  obtain ⟨u1, r1, rfl, tr1, u2, r2, rfl, tr2, e3⟩ := hts
  have e3 : r2 = [] := e3
  subst e3
  have ok1 := hok y1 (by simp)
  have ok2 := hok y2 (by simp)
  clear hok hlen hlen2 hul
  have hs2 := s2.seq hs1
  clear s0 s1 s2 g6 g61 g01 hs0 hs1 hs
  -- the row
  refine ⟨_, rfl, a, 2, ns, rfl, hs2, fun c => ⟨(by show 7 ≤ sizeLine; decide), fun l1 h1 => ⟨(by show 1 ≤ sizeLine; decide), fun l2 h2 => ⟨l2, 40, [.int 4], rfl, rfl, upd_same, by decide, by decide, (by show 1 * 40 ≤ sizeLine; decide), fun l3 h3 =>
    ⟨l1, l3, _, _, rfl, rfl, ((same_new h2).trans (same_new h3)) _ _ upd_same, upd_same, (by show 7 + 40 ≤ sizeLine; decide), fun l4 h4 => ?_⟩⟩⟩⟩⟩
  have s3 := (((same_new h1).trans (same_new h2)).trans (same_new h3)).trans (same_new h4 (u := .lst ([.int 3, .int 200, .int 11, .int 64, .int 64, .int 64, .int 64] ++ (List.replicate (40 : Int).toNat [.int 4]).flatten)))
  have g4 := upd_same (H := upd (upd (upd G2 l1 (.lst [.int 3, .int 200, .int 11, .int 64, .int 64, .int 64, .int 64])) l2 (.lst [.int 4])) l3 (.lst (List.replicate (40 : Int).toNat [.int 4]).flatten)) (a := l4) (o := .lst ([.int 3, .int 200, .int 11, .int 64, .int 64, .int 64, .int 64] ++ (List.replicate (40 : Int).toNat [.int 4]).flatten))
  have g4 : upd (upd (upd (upd G2 l1 (.lst [.int 3, .int 200, .int 11, .int 64, .int 64, .int 64, .int 64])) l2 (.lst [.int 4])) l3 (.lst (List.replicate (40 : Int).toNat [.int 4]).flatten)) l4 (.lst ([.int 3, .int 200, .int 11, .int 64, .int 64, .int 64, .int 64] ++ (List.replicate (40 : Int).toNat [.int 4]).flatten)) l4 = some (.lst ((([3, 200, 11, 64, 64, 64, 64] : List Int) ++ List.replicate 40 4).map V.int)) := g4
  generalize upd (upd (upd (upd G2 l1 (.lst [.int 3, .int 200, .int 11, .int 64, .int 64, .int 64, .int 64])) l2 (.lst [.int 4])) l3 (.lst (List.replicate (40 : Int).toNat [.int 4]).flatten)) l4 (.lst ([.int 3, .int 200, .int 11, .int 64, .int 64, .int 64, .int 64] ++ (List.replicate (40 : Int).toNat [.int 4]).flatten)) = G3 at s3 g4 ⊢
  refine ⟨c, l4, ([3, 200, 11, 64, 64, 64, 64] : List Int) ++ List.replicate 40 4, rfl, SqL.of g4, by decide, by decide +kernel, fun p3 G4 ns3 s4 n3 g3 rng => ?_⟩
  have hl3 : ns3.length = 47 := rng.len
  clear rng
  -- what holds
  obtain ⟨ms, em, lm⟩ := cutV_map ns3 (some 3) (some 7)
  refine ⟨_, rfl, 3, rfl, 7, rfl, p3, _, rfl, SqL.of g3, fun p4 hp4 => ?_⟩
  rw [em]
  have s5 := same_new hp4 (u := .lst (ms.map V.int))
  have g5 : upd G4 p4 (.lst (ms.map V.int)) p4 = some (.lst (ms.map V.int)) := upd_same
  refine ⟨p4, ms, rfl, SqL.of g5, by omega, fun sm G6 xs ws s6 nsm gsm hin hxl => ?_⟩
  have s26 := ((s3.trans s4).trans s5).trans s6
  have g36 := (s5.trans s6) _ _ g3
  have gD6 := s26 _ _ gD
  have tr16 := treeAt_same s26 tr1
  have tr26 := treeAt_same s26 tr2
  clear s3 s4 s5 s6 g4 g5 g3 gD tr1 tr2 s26 hs2
  -- the texts
  refine ⟨_, rfl, D, rfl, ⟨_, SqL.of gD6⟩, fun D2 hD2 => ?_⟩
  have hts6 : TreesAt G6 [y1, y2] [u1, u2] := ⟨u1, _, rfl, tr16, u2, _, rfl, tr26, rfl⟩
  obtain ⟨ms2, em2, lm2⟩ := cutV_map ns3 (some 7) none
  refine lc_list (K := K) (a := D) (xs := [u1, u2]) (fun i G => Same G6 G ∧ ∃ ss : List Str, G D2 = some (.lst (ss.map V.str)) ∧ AllL ([y1, y2].take i) ss ∧ ss.length = i) ⟨same_new hD2, [], upd_same, rfl, rfl⟩ (fun i G _ h => SqL.of (h.1 _ _ gD6)) ?_ ?_
  · rintro i x G hi ⟨s7, ss, gD2, hall, hsl⟩
    obtain ⟨t, ht, tx⟩ := hts6.at hi
    have htok : LtOk sixWords 3 t := by
      rcases List.mem_cons.mp (List.mem_of_getElem? ht) with e | e
      · rw [e]; exact ok1
      · rw [List.mem_singleton.mp e]; exact ok2
    have hi2 : i < 2 := (List.getElem?_eq_some_iff.mp hi).1
    refine ⟨rfl, ?_⟩
    dsimp only [tYes]
    rw [if_pos rfl]
    refine ⟨_, rfl, _, rfl, 7, rfl, p3, _, rfl, SqL.of (s7 _ _ g36), fun p5 hp5 => ⟨p5, _, rfl, .inl (SqL.of upd_same), fun p6 hp6 => ?_⟩⟩
    rw [em2]
    rw [em2] at hp6
    have s8 := (same_new hp5 (u := .lst (ms2.map V.int))).trans (same_new hp6 (u := .lst (ms2.map V.int)))
    have g6 : upd (upd G p5 (.lst (ms2.map V.int))) p6 (.lst (ms2.map V.int)) p6 = some (.lst (ms2.map V.int)) := upd_same
    have nG6 : G p6 = none := (same_new hp5 (u := .lst (ms2.map V.int))).free hp6
    generalize upd (upd G p5 (.lst (ms2.map V.int))) p6 (.lst (ms2.map V.int)) = Gy at s8 g6 ⊢
    have ne6 : ∀ b o, G b = some o → b ≠ p6 := fun b o hb e => by
      rw [e, nG6] at hb
      cases hb
    have sh : Same G (hid p6 Gy) := fun b o hb => hid_at (ne6 b o hb) (s8 _ _ hb)
    have hd := dep_ok 3 t htok
    have hq := lenQ_cap 3 t htok
    have c3 : capQ 3 = 704 := by decide
    refine ⟨x, p6, t, ms2, rfl, g6, treeAt_same sh (treeAt_same s7 tx), hd, by omega, fun s Gz ns' hloose frm glf => ?_⟩
    have s9 : Same G Gz := fun b o hb => frm b o (ne6 b o hb) (s8 _ _ hb)
    refine ⟨_, s9 _ _ gD2, ?_, ?_, ss ++ [s], ?_, ?_, by rw [List.length_append, hsl]; rfl⟩
    · rw [List.length_map]
      omega
    · intro b o hb
      rw [upd_ne (ne_of_none hb hD2)]
      exact s9 _ _ (s7 _ _ hb)
    · rw [upd_same, List.map_append]
      rfl
    · rw [take_snoc ht]
      exact hall.snoc hloose
  rintro G7 ⟨s7, ss, gD2, hall, _⟩
  obtain ⟨x1, r1, rfl, lo1, x2, r2, rfl, lo2, e3⟩ := (show AllL [y1, y2] ss from hall)
  have e3 : r2 = [] := e3
  subst e3
  obtain ⟨le1, as1⟩ := loose_ok ok1 lo1
  obtain ⟨le2, as2⟩ := loose_ok ok2 lo2
  obtain ⟨ne1, mk1⟩ := read_fm (read_loose ok1 lo1) (by omega)
  obtain ⟨ne2, mk2⟩ := read_fm (read_loose ok2 lo2) (by omega)
  -- the formulas
  refine ⟨_, rfl, D2, _, 0, .str x1, rfl, rfl, SqL.of gD2, rfl, ?_⟩
  refine rd_mkR (by omega) ne1 fun one G8 s8 n8 f8 => ?_
  have gD28 := s8 _ _ gD2
  refine ⟨_, rfl, D2, _, 1, .str x2, rfl, rfl, SqL.of gD28, rfl, ?_⟩
  refine rd_mkR (by omega) ne2 fun oth G9 s9 n9 f9 => ⟨_, _, rfl, ?_⟩
  have i1 := (mk1 G8 C one f8).same s9
  have i2 := mk2 G9 C oth f9
  have s69 := (s7.trans s8).trans s9
  have gD29 := s9 _ _ gD28
  have gD9 := s69 _ _ gD6
  have g39 := s69 _ _ g36
  have gsm9 := s69 _ _ gsm
  have hin9 := hin.same s69
  have tr19 := treeAt_same s69 tr16
  have tr29 := treeAt_same s69 tr26
  clear s7 s8 s9 s69 gD28 gD2 gD6 g36 gsm hin tr16 tr26 hts6 f8 f9 mk1 mk2 hall lo1 lo2 em em2 lm lm2 ne1 ne2
  exact r2 _ G9 a w6 D p3 sm D2 one oth ns3 x1 x2 y1 y2 u1 u2 xs ws hl3 le1 as1 le2 as2 ok1 ok2 hxl i1 i2 gD29 gD9 g39 gsm9 hin9 tr19 tr29 q
end
end Fx
set_option maxHeartbeats 0
namespace Fx
open PySem PySem.Spec PySem.Calls PyProof.Rows L2
/-- __init__ of the errors' class -/
def dInit2 : He.DefD := ⟨("BadFormula", some "__init__"), "__init__", "BadFormula.__init__", defArgs (inClass (tp 2) 0), defBody (inClass (tp 2) 0), defScope (inClass (tp 2) 0), [], []⟩
def dM (m q : Str) (j : Nat) : He.DefD := ⟨("Formula", some m), m, q, defArgs (inClass (tp 13) j), defBody (inClass (tp 13) j), defScope (inClass (tp 13) j), [], []⟩
def dTop (x : Str) (i : Nat) : He.DefD := ⟨(x, none), x, x, defArgs (tp i), defBody (tp i), defScope (tp i), [], []⟩
def fn : List He.DefD := [dInit2, dM "__init__" "Formula.__init__" 0, dM "words" "Formula.words" 1, dM "holds" "Formula.holds" 2, dM "__and__" "Formula.__and__" 3, dM "__or__" "Formula.__or__" 4, dM "__invert__" "Formula.__invert__" 5, dM "__str__" "Formula.__str__" 7, dTop "is_name" 7, dTop "as_formula" 14, dTop "is_word" 15, dTop "signs_of" 16, dTop "can_stand" 17, dTop "code_of" 18, dTop "text_of" 19, dTop "bracketed" 20, dTop "words_of" 21, dTop "worth" 22, dTop "_law_cell" 26, dTop "_law_row" 27, dTop "_law_tree" 28, dTop "_law_true" 29, dTop "_law_flat" 30, dTop "_law_text" 31, dTop "_law_close" 32, dTop "_law_loose" 33, dTop "_law_is_word" 34, dTop "_law_shrunk" 35, dTop "_law_signs" 36, dTop "_law_is_formula" 37, dTop "_law_right" 38, dTop "_law_leaves" 39, dTop "_law_met" 40, dTop "_law_spoilt" 41, dTop "_law_six_words" 42, dTop "_law_word_lists" 43, dTop "law" 44]
def fa : List He.Fa := [.glo "BadFormula", .glo "Formula", .glo "RESERVED", .glo "CONSTANTS", .glo "OPERATORS", .glo "RANKS", .glo "is_name", .glo "as_formula", .glo "is_word", .glo "signs_of", .glo "can_stand", .glo "code_of", .glo "text_of", .glo "bracketed", .glo "words_of", .glo "worth", .glo "_law_cell", .glo "_law_row", .glo "_law_tree", .glo "_law_true", .glo "_law_flat", .glo "_law_text", .glo "_law_close", .glo "_law_loose", .glo "_law_is_word", .glo "_law_shrunk", .glo "_law_signs", .glo "_law_is_formula", .glo "_law_right", .glo "_law_leaves", .glo "_law_met", .glo "_law_spoilt", .glo "_law_six_words", .glo "_law_word_lists", .glo "law", .free "isinstance", .free "str", .free "len", .free "all", .free "int", .free "range", .free "tuple", .free "list", .free "bool", .free "enumerate", .str "LETTERS" "abcdefghijklmnopqrstuvwxyz", .int "LONGEST" 8, .int "RANK_OF_WORDS" 4, .cls "Formula", .noat "Formula" "code", .noat "BadFormula" "text", .meth "Formula" "words", .meth "Formula" "holds", .meth "Formula" "__and__", .meth "Formula" "__or__", .meth "Formula" "__invert__", .meth "Formula" "__str__", .mkr "Formula", .exm "BadFormula" "BadFormula" true]
/-- the class object at C is that of an exception class over ValueError, by a look -/
def shapeB (K : PySem.W.Frag) (C : Addr) : Bool :=
  match K.lookup C with
  | some ⟨.type t, _, .cls d, s⟩ =>
    (match d.mro, s.toList with
      | .ref c :: m, [_, _, _, _, some (.builtin n), _] =>
        (t == "type") && ((c == C) && ((n == "ValueError.__new__") && ((!d.hasDel) && (d.hasDict && HandSPX.refsVE m))))
      | _, _ => false)
  | _ => false
/-- a written tuple of texts -/
def strsB : List Value → List Str → Bool
  | [], [] => true
  | .str x _ :: vs, z :: zs => (x == z) && strsB vs zs
  | _, _ => false
def tupB (K : PySem.W.Frag) (a : Addr) (zs : List Str) : Bool := match K.lookup a with
  | some o => (match o.cls, o.data with
    | .type t, .seq its _ => (t == "tuple") && strsB its.toList zs
    | _, _ => false)
  | none => false
def rankB (K : PySem.W.Frag) (a : Addr) (s : Str) : Bool := match PySem.W.nsIn K a s with
  | some (some (.int i _)) => i == rank s
  | _ => false
def exA (K : PySem.W.Frag) : Bool := tupB K (He.ga K "RESERVED") reserved && (tupB K (He.ga K "CONSTANTS") constants && (tupB K (He.ga K "OPERATORS") operators && (rankB K (He.ga K "RANKS") "(" && (rankB K (He.ga K "RANKS") "or" && (rankB K (He.ga K "RANKS") "and" && rankB K (He.ga K "RANKS") "not")))))
def exB (K : PySem.W.Frag) : Bool := shapeB K (He.ga K "BadFormula") && (decide (PySem.W.findIn K (.ref (He.ga K "BadFormula")) "__setattr__" = some (some (.builtin "object.__setattr__"))) &&
  (decide (PySem.W.typeIn K (.ref (He.ga K "BadFormula")) = some (.type "type")) && (PySem.W.keepIn K (.ref (He.ga K "BadFormula")) && xfB K (He.ga K "BadFormula"))))
def exC (K : PySem.W.Frag) : Bool := decide (PySem.W.findIn K (.ref (He.ga K "BadFormula")) "__init__" = some (some (.ref (He.ma K (He.ga K "BadFormula") "__init__")))) && decide (PySem.W.typeIn K (.ref (He.ma K (He.ga K "BadFormula") "__init__")) = some (.type "function"))
def exD (K : PySem.W.Frag) : Bool := decide (PySem.W.findIn K (.ref (He.ga K "Formula")) "__class__" = some (some (.builtin "object.__class__"))) &&
  (decide (PySem.W.specialIn K (.builtin "object.__class__") "__get__" = some (some (.builtin "getset_descriptor.__get__"))) &&
  (decide (PySem.W.takesIn K (.builtin "object.__class__") = some true) && (decide (PySem.W.mroIn K (He.ga K "Formula") (.type "object") = some true) &&
  (decide (PySem.W.findIn K (.ref (He.ga K "Formula")) "__format__" = some (some (.builtin "object.__format__"))) && (PySem.W.selfFirst K (He.ga K "Formula") &&
  (decide (PySem.W.kitOne K (.type "str") (.ref (He.ga K "Formula")) = some false) && decide (PySem.W.kitOne K (.ref (He.ga K "Formula")) (.type "str") = some false)))))))
def ex (K : PySem.W.Frag) : Bool := exA K && (exB K && (exC K && exD K))
def tabs : List He.Tab := [(fun K => He.ga K "RANKS", ["(", "or", "and", "not"])]
abbrev R : PySem.W.OpenRow := PySem.W.OpenLaw.row PySem.Challenge.rw_allticked_k02_formulas_read
abbrev hk : PySem.W.Hook := He.hookX 5 fa fn tabs [] ex
def ob (s : PySem.W.SharedT) : He.AlX := He.obsX 5 fa fn tabs [] ex (HandSHeadRun.getT s)
theorem ob_eq (s : PySem.W.SharedT) : ob s = hk.obs s.abs := He.obsX_eq (HandSHeadRun.getT_eq s)
def loose : List Str := [("TickError" : Str), ("BadFormula" : Str), ("LETTERS" : Str), ("LONGEST" : Str), ("RESERVED" : Str), ("is_name" : Str), ("CONSTANTS" : Str), ("OPERATORS" : Str), ("RANKS" : Str), ("RANK_OF_WORDS" : Str), ("Formula" : Str), ("as_formula" : Str), ("is_word" : Str), ("signs_of" : Str), ("can_stand" : Str), ("code_of" : Str), ("text_of" : Str), ("bracketed" : Str), ("words_of" : Str), ("worth" : Str), ("differing" : Str), ("table_of" : Str), ("column" : Str), ("_law_cell" : Str), ("_law_row" : Str), ("_law_tree" : Str), ("_law_true" : Str), ("_law_flat" : Str), ("_law_text" : Str), ("_law_close" : Str), ("_law_loose" : Str), ("_law_is_word" : Str), ("_law_shrunk" : Str), ("_law_signs" : Str), ("_law_is_formula" : Str), ("_law_right" : Str), ("_law_leaves" : Str), ("_law_met" : Str), ("_law_spoilt" : Str), ("_law_six_words" : Str), ("_law_word_lists" : Str)]
theorem run_f (w : World) : HandSHeadRun.RunEq R (PySem.W.view R.prog [45]) hk ob 9000 loose (w.withFollow "special-get-raises" false) := by
  intro os
  kernel_rfl
theorem run_t (w : World) : HandSHeadRun.RunEq R (PySem.W.view R.prog [45]) hk ob 9000 loose (w.withFollow "special-get-raises" true) := by
  intro os
  kernel_rfl
theorem run (w : World) : HandSHeadRun.RunEq R (PySem.W.view R.prog [45]) hk ob 9000 loose w :=
  PySem.W.byRow2 "special-get-raises" (P := fun w => HandSHeadRun.RunEq R (PySem.W.view R.prog [45]) hk ob 9000 loose w) run_f run_t w
end Fx
set_option maxHeartbeats 4000000
namespace Fx
open PySem PySem.Spec PyProof.Rows L2 TL

theorem and2 {a b : Bool} (h : (a && b) = true) : a = true ∧ b = true := by
  cases a <;> cases b <;> first | exact ⟨rfl, rfl⟩ | cases h
theorem shapeB_ok {K : PySem.W.Frag} {C : Addr} (e : shapeB K C = true) :
    ∃ nm q N bs bm sn sub ab col dd k0 k1 k2 k3 k5,
      K.lookup C = some (excClassObj nm q C N bs bm true sn sub ab col dd k0 k1 k2 k3 k5 "ValueError.__new__") ∧
        HandSPX.refsVE bm = true := by
  unfold shapeB at e
  split at e
  · rename_i t dd d s lk
    split at e
    · rename_i c m k0 k1 k2 k3 n k5 hm hs
      simp only [Bool.and_eq_true, beq_iff_eq, Bool.not_eq_true'] at e
      obtain ⟨rfl, rfl, rfl, h1, h2, h3⟩ := e
      obtain ⟨nm, bs, mro, ns, qn, hd, sn, sub, ab, col, del⟩ := d
      dsimp only at hm h1 h2
      subst hm h1 h2
      have hsl : s = #[k0, k1, k2, k3, some (.builtin "ValueError.__new__"), k5] := by
        obtain ⟨l⟩ := s
        simp only at hs
        rw [hs]
      subst hsl
      exact ⟨nm, qn, ns, bs, m, sn, sub, ab, col, dd, k0, k1, k2, k3, k5, lk, h3⟩
    · cases e
  · cases e
theorem strsB_ok : ∀ {vs : List Value} {zs : List Str}, strsB vs zs = true → Vals (zs.map V.str) vs ∧ vs.length = zs.length
  | [], [], _ => ⟨.nil, rfl⟩
  | [], _ :: _, h => by cases h
  | v :: vs, [], h => by cases v <;> cases h
  | v :: vs, z :: zs, h => by
    cases v with
    | str x t =>
      obtain ⟨h1, h2⟩ := and2 (show ((x == z) && strsB vs zs) = true from h)
      obtain ⟨r1, r2⟩ := strsB_ok h2
      have e : x = z := beq_iff_eq.mp h1
      subst e
      exact ⟨.cons ⟨t, rfl⟩ r1, by rw [List.length_cons, List.length_cons, r2]⟩
    | _ => cases h
theorem tupB_ok {K : PySem.W.Frag} {a : Addr} {zs : List Str} (h : tupB K a zs = true) (hz : zs.length ≤ 1000) : ∀ H, SqT K H a (zs.map V.str) := by
  unfold tupB at h
  cases q : K.lookup a with
  | none =>
    rw [q] at h
    cases h
  | some ob =>
    rw [q] at h
    obtain ⟨oc, od, dt, osl⟩ := ob
    cases oc with
    | type t =>
      cases dt with
      | seq its n =>
        obtain ⟨h1, h2⟩ := and2 (show ((t == "tuple") && strsB its.toList zs) = true from h)
        obtain ⟨r1, r2⟩ := strsB_ok h2
        have e : t = "tuple" := beq_iff_eq.mp h1
        intro H
        refine .inr ⟨_, its, n, q, by rw [e], rfl, ?_, r1⟩
        have line : (1000 : Nat) ≤ sizeLine := by decide
        rw [Array.length_toList] at r2
        omega
      | _ => cases h
    | _ => cases dt <;> cases h
theorem rankB_ok {K : PySem.W.Frag} {a : Addr} {s : Str} (h : rankB K a s = true) : ∃ t, PySem.W.nsIn K a s = some (some (.int (rank s) t)) := by
  unfold rankB at h
  split at h
  · rename_i i t q
    rw [q, beq_iff_eq.mp h]
    exact ⟨t, rfl⟩
  · cases h
section
variable {P : Program} {w : World} {K : PySem.W.Frag} {mg : Str → Option Value} {h base : Heap}
theorem facts {f : Addr} (Y : K.In h) (G : h.Ns mainGlobals mg) (hfa : mg ("law" : Str) = some (.ref f)) (c : He.SaysX fa fn tabs [] ex w h K) :
    ∃ fd : FuncData, (∀ (s : Shared) (v : Value), BindsTo s fd ⟨[v], []⟩ [("_law_script", v)]) ∧ ∀ base : Heap, K.In base → base.Ns mainGlobals mg → FnOk P w K mg base CX0 12 f fd ["_law_script"] (spLaw K) := by
  have D := c.t.d
  obtain ⟨eA, eR⟩ := and2 c.more
  obtain ⟨eB, eR⟩ := and2 eR
  obtain ⟨eC, eD⟩ := and2 eR
  obtain ⟨a1, eA⟩ := and2 eA
  obtain ⟨a2, eA⟩ := and2 eA
  obtain ⟨a3, eA⟩ := and2 eA
  obtain ⟨a4, eA⟩ := and2 eA
  obtain ⟨a5, eA⟩ := and2 eA
  obtain ⟨a6, a7⟩ := and2 eA
  obtain ⟨b1, eB⟩ := and2 eB
  obtain ⟨b2, eB⟩ := and2 eB
  obtain ⟨b3, eB⟩ := and2 eB
  obtain ⟨b4, b5⟩ := and2 eB
  obtain ⟨c1, c2⟩ := and2 eC
  obtain ⟨d1, eD⟩ := and2 eD
  obtain ⟨d2, eD⟩ := and2 eD
  obtain ⟨d3, eD⟩ := and2 eD
  obtain ⟨d4, eD⟩ := and2 eD
  obtain ⟨d5, eD⟩ := and2 eD
  obtain ⟨d6, eD⟩ := and2 eD
  obtain ⟨d7, d8⟩ := and2 eD

  have N : NTxt K mg := ⟨He.str_ok Y G (D.fact 45 (f := .str "LETTERS" "abcdefghijklmnopqrstuvwxyz") rfl), He.int_ok Y G (D.fact 46 (f := .int "LONGEST" 8) rfl), ⟨_, (He.glo_ok Y G (D.fact 2 (f := .glo "RESERVED") rfl)), tupB_ok a1 (by decide)⟩, ⟨_, (He.glo_ok Y G (D.fact 3 (f := .glo "CONSTANTS") rfl)), tupB_ok a2 (by decide)⟩, ⟨_, (He.glo_ok Y G (D.fact 4 (f := .glo "OPERATORS") rfl)), tupB_ok a3 (by decide)⟩, (He.free_ok Y G (D.fact 35 (f := .free "isinstance") rfl)), (He.free_ok Y G (D.fact 36 (f := .free "str") rfl)), (He.free_ok Y G (D.fact 37 (f := .free "len") rfl)), (He.free_ok Y G (D.fact 38 (f := .free "all") rfl))⟩
  obtain ⟨es, nd, KD⟩ := c.t.tab 0 (t := (fun K => He.ga K "RANKS", ["(", "or", "and", "not"])) rfl
  have CT : CTxt K w mg := ⟨N, ⟨_, es, nd, (He.glo_ok Y G (D.fact 5 (f := .glo "RANKS") rfl)), KD, fun s hs => by
    have hs2 : (s == "(" || (s == "or" || (s == "and" || s == "not"))) = true := hs
    rcases (Bool.or_eq_true _ _).mp hs2 with e | hs2
    · rw [beq_iff_eq.mp e]; exact rankB_ok a4
    · rcases (Bool.or_eq_true _ _).mp hs2 with e | hs2
      · rw [beq_iff_eq.mp e]; exact rankB_ok a5
      · rcases (Bool.or_eq_true _ _).mp hs2 with e | e
        · rw [beq_iff_eq.mp e]; exact rankB_ok a6
        · rw [beq_iff_eq.mp e]; exact rankB_ok a7⟩, (He.free_ok Y G (D.fact 41 (f := .free "tuple") rfl))⟩
  have TT : TTxt K w mg := ⟨CT, He.int_ok Y G (D.fact 47 (f := .int "RANK_OF_WORDS" 4) rfl)⟩
  have XC : FCls K (He.ga K "Formula") := ⟨He.cls_ok (D.fact 48 (f := .cls "Formula") rfl), He.noat_ok (D.fact 49 (f := .noat "Formula" "code") rfl)⟩
  have XF := xfB_ok b5
  have OX : OexC K (He.ga K "BadFormula") := ⟨shapeB_ok b1, of_decide_eq_true b2, XF.exC, of_decide_eq_true b3, b4⟩
  have noB : PySem.W.findIn K (.ref (He.ga K "BadFormula")) "text" = some none := He.noat_ok (D.fact 50 (f := .noat "BadFormula" "text") rfl)
  have BT : BTxt K mg (He.ga K "BadFormula") (He.ma K (He.ga K "BadFormula") "__init__") := ⟨OX, noB, of_decide_eq_true c1, of_decide_eq_true c2, (He.glo_ok Y G (D.fact 0 (f := .glo "BadFormula") rfl))⟩
  have MT : MTxt K mg (He.ga K "Formula") (He.ma K (He.ga K "Formula") "__init__") := ⟨(He.glo_ok Y G (D.fact 1 (f := .glo "Formula") rfl)), He.mkr_ok (D.fact 57 (f := .mkr "Formula") rfl), of_decide_eq_true d7, of_decide_eq_true d1, of_decide_eq_true d2, of_decide_eq_true d3, of_decide_eq_true d4⟩
  have SC : SCls K (He.ga K "Formula") (He.ma K (He.ga K "Formula") "__str__") := ⟨(He.meth_ok (D.fact 56 (f := .meth "Formula" "__str__") rfl)), of_decide_eq_true d5, of_decide_eq_true d4⟩
  have OC : OCls K (He.ga K "Formula") (He.ma K (He.ga K "Formula") "__and__") (He.ma K (He.ga K "Formula") "__or__") (He.ma K (He.ga K "Formula") "__invert__") := ⟨d6, (He.meth_ok (D.fact 53 (f := .meth "Formula" "__and__") rfl)), (He.meth_ok (D.fact 54 (f := .meth "Formula" "__or__") rfl)), (He.meth_ok (D.fact 55 (f := .meth "Formula" "__invert__") rfl))⟩
  have LT2 : LTxt mg := ⟨(He.free_ok Y G (D.fact 39 (f := .free "int") rfl)), (He.free_ok Y G (D.fact 37 (f := .free "len") rfl)), (He.free_ok Y G (D.fact 40 (f := .free "range") rfl))⟩
  have RT : RTxt K w mg := ⟨N, (He.free_ok Y G (D.fact 43 (f := .free "bool") rfl))⟩
  obtain ⟨fd0, FBI⟩ := D.def_ 0 (d := dInit2) rfl
  obtain ⟨fm0, FI0⟩ := D.def_ 1 (d := dM "__init__" "Formula.__init__" 0) rfl
  obtain ⟨fm1, FI1⟩ := D.def_ 2 (d := dM "words" "Formula.words" 1) rfl
  obtain ⟨fm2, FI2⟩ := D.def_ 3 (d := dM "holds" "Formula.holds" 2) rfl
  obtain ⟨fm3, FI3⟩ := D.def_ 4 (d := dM "__and__" "Formula.__and__" 3) rfl
  obtain ⟨fm4, FI4⟩ := D.def_ 5 (d := dM "__or__" "Formula.__or__" 4) rfl
  obtain ⟨fm5, FI5⟩ := D.def_ 6 (d := dM "__invert__" "Formula.__invert__" 5) rfl
  obtain ⟨fm7, FI7⟩ := D.def_ 7 (d := dM "__str__" "Formula.__str__" 7) rfl
  obtain ⟨fd7, F7⟩ := D.def_ 8 (d := dTop "is_name" 7) rfl
  have g7 := (He.glo_ok Y G (D.fact 6 (f := .glo "is_name") rfl))
  obtain ⟨fd14, F14⟩ := D.def_ 9 (d := dTop "as_formula" 14) rfl
  have g14 := (He.glo_ok Y G (D.fact 7 (f := .glo "as_formula") rfl))
  obtain ⟨fd15, F15⟩ := D.def_ 10 (d := dTop "is_word" 15) rfl
  have g15 := (He.glo_ok Y G (D.fact 8 (f := .glo "is_word") rfl))
  obtain ⟨fd16, F16⟩ := D.def_ 11 (d := dTop "signs_of" 16) rfl
  have g16 := (He.glo_ok Y G (D.fact 9 (f := .glo "signs_of") rfl))
  obtain ⟨fd17, F17⟩ := D.def_ 12 (d := dTop "can_stand" 17) rfl
  have g17 := (He.glo_ok Y G (D.fact 10 (f := .glo "can_stand") rfl))
  obtain ⟨fd18, F18⟩ := D.def_ 13 (d := dTop "code_of" 18) rfl
  have g18 := (He.glo_ok Y G (D.fact 11 (f := .glo "code_of") rfl))
  obtain ⟨fd19, F19⟩ := D.def_ 14 (d := dTop "text_of" 19) rfl
  have g19 := (He.glo_ok Y G (D.fact 12 (f := .glo "text_of") rfl))
  obtain ⟨fd20, F20⟩ := D.def_ 15 (d := dTop "bracketed" 20) rfl
  have g20 := (He.glo_ok Y G (D.fact 13 (f := .glo "bracketed") rfl))
  obtain ⟨fd21, F21⟩ := D.def_ 16 (d := dTop "words_of" 21) rfl
  have g21 := (He.glo_ok Y G (D.fact 14 (f := .glo "words_of") rfl))
  obtain ⟨fd22, F22⟩ := D.def_ 17 (d := dTop "worth" 22) rfl
  have g22 := (He.glo_ok Y G (D.fact 15 (f := .glo "worth") rfl))
  obtain ⟨fd26, F26⟩ := D.def_ 18 (d := dTop "_law_cell" 26) rfl
  have g26 := (He.glo_ok Y G (D.fact 16 (f := .glo "_law_cell") rfl))
  obtain ⟨fd27, F27⟩ := D.def_ 19 (d := dTop "_law_row" 27) rfl
  have g27 := (He.glo_ok Y G (D.fact 17 (f := .glo "_law_row") rfl))
  obtain ⟨fd28, F28⟩ := D.def_ 20 (d := dTop "_law_tree" 28) rfl
  have g28 := (He.glo_ok Y G (D.fact 18 (f := .glo "_law_tree") rfl))
  obtain ⟨fd29, F29⟩ := D.def_ 21 (d := dTop "_law_true" 29) rfl
  have g29 := (He.glo_ok Y G (D.fact 19 (f := .glo "_law_true") rfl))
  obtain ⟨fd30, F30⟩ := D.def_ 22 (d := dTop "_law_flat" 30) rfl
  have g30 := (He.glo_ok Y G (D.fact 20 (f := .glo "_law_flat") rfl))
  obtain ⟨fd31, F31⟩ := D.def_ 23 (d := dTop "_law_text" 31) rfl
  have g31 := (He.glo_ok Y G (D.fact 21 (f := .glo "_law_text") rfl))
  obtain ⟨fd32, F32⟩ := D.def_ 24 (d := dTop "_law_close" 32) rfl
  have g32 := (He.glo_ok Y G (D.fact 22 (f := .glo "_law_close") rfl))
  obtain ⟨fd33, F33⟩ := D.def_ 25 (d := dTop "_law_loose" 33) rfl
  have g33 := (He.glo_ok Y G (D.fact 23 (f := .glo "_law_loose") rfl))
  obtain ⟨fd34, F34⟩ := D.def_ 26 (d := dTop "_law_is_word" 34) rfl
  have g34 := (He.glo_ok Y G (D.fact 24 (f := .glo "_law_is_word") rfl))
  obtain ⟨fd35, F35⟩ := D.def_ 27 (d := dTop "_law_shrunk" 35) rfl
  have g35 := (He.glo_ok Y G (D.fact 25 (f := .glo "_law_shrunk") rfl))
  obtain ⟨fd36, F36⟩ := D.def_ 28 (d := dTop "_law_signs" 36) rfl
  have g36 := (He.glo_ok Y G (D.fact 26 (f := .glo "_law_signs") rfl))
  obtain ⟨fd37, F37⟩ := D.def_ 29 (d := dTop "_law_is_formula" 37) rfl
  have g37 := (He.glo_ok Y G (D.fact 27 (f := .glo "_law_is_formula") rfl))
  obtain ⟨fd38, F38⟩ := D.def_ 30 (d := dTop "_law_right" 38) rfl
  have g38 := (He.glo_ok Y G (D.fact 28 (f := .glo "_law_right") rfl))
  obtain ⟨fd39, F39⟩ := D.def_ 31 (d := dTop "_law_leaves" 39) rfl
  have g39 := (He.glo_ok Y G (D.fact 29 (f := .glo "_law_leaves") rfl))
  obtain ⟨fd40, F40⟩ := D.def_ 32 (d := dTop "_law_met" 40) rfl
  have g40 := (He.glo_ok Y G (D.fact 30 (f := .glo "_law_met") rfl))
  obtain ⟨fd41, F41⟩ := D.def_ 33 (d := dTop "_law_spoilt" 41) rfl
  have g41 := (He.glo_ok Y G (D.fact 31 (f := .glo "_law_spoilt") rfl))
  obtain ⟨fd42, F42⟩ := D.def_ 34 (d := dTop "_law_six_words" 42) rfl
  have g42 := (He.glo_ok Y G (D.fact 32 (f := .glo "_law_six_words") rfl))
  obtain ⟨fd43, F43⟩ := D.def_ 35 (d := dTop "_law_word_lists" 43) rfl
  have g43 := (He.glo_ok Y G (D.fact 33 (f := .glo "_law_word_lists") rfl))
  obtain ⟨fd44, F44⟩ := D.def_ 36 (d := dTop "law" 44) rfl
  have eL := hfa.symm.trans (He.glo_ok Y G (D.fact 34 (f := .glo "law") rfl))
  cases eL
  have bL := FunD.bindsA (ps := ["_law_script"]) F44 fun _ _ _ _ _ _ us hl => match us, hl with | [_], _ => rfl
  refine ⟨fd44, fun s v => bL s [v] rfl, fun base _ _ => ?_⟩
  have k16 := ok_signs (P := P) (w := w) (mg := mg) (base := base) F16 N F7 g7 F15 g15 F17 g17
  have k18 := ok_code (P := P) (w := w) (mg := mg) (base := base) F18 CT
  have kI := ok_initF (P := P) (w := w) (mg := mg) (base := base) FI0 CT XC BT FBI k16 F16 g16 k18 F18 g18
  have k21 := ok_words (P := P) (w := w) (mg := mg) (base := base) F21 N XC
  have kW := ok_mwords (P := P) (w := w) (mg := mg) (base := base) FI1 k21 F21 g21
  have k22 := ok_worth (P := P) (w := w) (mg := mg) (base := base) F22 N
  have kH := ok_holds (P := P) (w := w) (mg := mg) (base := base) FI2 XC (He.free_ok Y G (D.fact 39 (f := .free "int") rfl)) k22 F22 g22 (He.meth_ok (D.fact 51 (f := .meth "Formula" "words") rfl)) kW FI1
  have k19 := ok_text (P := P) (w := w) (mg := mg) (base := base) F19 TT F20 g20
  have kS := ok_mstr (P := P) (w := w) (mg := mg) (base := base) FI7 TT XC k19 F19 g19
  have k14 := ok_as (P := P) (w := w) (mg := mg) (base := base) F14 CT XC MT kI FI0
  have kA := ok_and (P := P) (w := w) (mg := mg) (base := base) FI3 SC kS FI7 MT kI FI0 k14 F14 g14
  have kO := ok_or (P := P) (w := w) (mg := mg) (base := base) FI4 SC kS FI7 MT kI FI0 k14 F14 g14
  have kN := ok_inv (P := P) (w := w) (mg := mg) (base := base) FI5 SC kS FI7 MT kI FI0
  have k26 := ok_cell (P := P) (w := w) (mg := mg) (base := base) F26 LT2
  have k27 := ok_row (P := P) (w := w) (mg := mg) (base := base) F27 LT2
  have t0 := base_tree (P := P) (w := w) (mg := mg) (base := base) F28 LT2
  have t1 := step_tree F28 LT2 g28 0 t0
  have t2 := step_tree F28 LT2 g28 1 t1
  have t3 := step_tree F28 LT2 g28 2 t2
  have r0 := base_true (P := P) (w := w) (mg := mg) (base := base) F29
  have r1 := step_true F29 g29 0 r0
  have r2 := step_true F29 g29 1 r1
  have r3 := step_true F29 g29 2 r2
  have r4 := step_true F29 g29 3 r3
  have l0 := base_flat (P := P) (w := w) (mg := mg) (base := base) F30
  have l1 := step_flat F30 g30 0 l0
  have l2 := step_flat F30 g30 1 l1
  have l3 := step_flat F30 g30 2 l2
  have l4 := step_flat F30 g30 3 l3
  have x0 := base_ltext (P := P) (w := w) (mg := mg) (base := base) F31
  have y0 := ok_close 0 0 F32 F31 g31 x0
  have x1 := step_ltext 1 0 F31 F32 g32 y0 F30 g30 (l0.mono (by decide))
  have y1 := ok_close 2 1 F32 F31 g31 x1
  have x2 := step_ltext 3 1 F31 F32 g32 y1 F30 g30 (l1.mono (by decide))
  have y2 := ok_close 4 2 F32 F31 g31 x2
  have x3 := step_ltext 5 2 F31 F32 g32 y2 F30 g30 (l2.mono (by decide))
  have y3 := ok_close 6 3 F32 F31 g31 x3
  have x4 := step_ltext 7 3 F31 F32 g32 y3 F30 g30 (l3.mono (by decide))
  have o0 := base_loose (P := P) (w := w) (mg := mg) (base := base) F33
  have o1 := step_loose F33 g33 0 o0
  have o2 := step_loose F33 g33 1 o1
  have o3 := step_loose F33 g33 2 o2
  have v0 := base_leaves (P := P) (w := w) (mg := mg) (base := base) F39
  have v1 := step_leaves F39 g39 0 v0
  have v2 := step_leaves F39 g39 1 v1
  have v3 := step_leaves F39 g39 2 v2
  have v4 := step_leaves F39 g39 3 v3
  have k42 := ok_six (P := P) (w := w) (mg := mg) (base := base) F42
  have k41 := ok_spoilt (P := P) (w := w) (mg := mg) (base := base) F41 LT2
  have k35 := ok_shrunk (P := P) (w := w) (mg := mg) (base := base) F35 LT2
  have k34 := ok_lawword (P := P) (w := w) (mg := mg) (base := base) F34 LT2
  have k36 := ok_lawsigns (P := P) (w := w) (mg := mg) (base := base) F36 F34 g34 k34
  have k37 := ok_lawformula (P := P) (w := w) (mg := mg) (base := base) F37 N LT2 F36 g36 k36 F35 g35 k35
  have k38 := ok_right (P := P) (w := w) (mg := mg) (base := base) F38 RT XC F39 g39 v4 F31 g31 x4 F29 g29 r4 SC kS FI7 (He.meth_ok (D.fact 51 (f := .meth "Formula" "words") rfl)) kW FI1 (He.meth_ok (D.fact 52 (f := .meth "Formula" "holds") rfl)) kH FI2
  have k40 := ok_met (P := P) (w := w) (mg := mg) (base := base) F40 RT XC MT (He.glo_ok Y G (D.fact 0 (f := .glo "BadFormula") rfl)) XF noB (He.exm_ok (D.fact 58 (f := .exm "BadFormula" "BadFormula" true) rfl)) SC kS FI7 kI FI0
  have k43 := ok_lists (P := P) (w := w) (mg := mg) (base := base) F43 LT2 (He.free_ok Y G (D.fact 44 (f := .free "enumerate") rfl)) (He.free_ok Y G (D.fact 41 (f := .free "tuple") rfl)) F42 g42 k42
  exact ok_law F44 RT XC MT OC (of_decide_eq_true d8) (He.free_ok Y G (D.fact 41 (f := .free "tuple") rfl)) (He.free_ok Y G (D.fact 42 (f := .free "list") rfl)) F26 g26 k26 F27 g27 k27 F28 g28 t3 F43 g43 k43 F33 g33 o3 F38 g38 k38 F42 g42 k42 F41 g41 k41 F37 g37 k37 F40 g40 k40 SC kS FI7 kI FI0 kA FI3 kO FI4 kN FI5
end
end Fx
open PySem PySem.W PySem.Calls PyProof.Rows
theorem PySem.Challenge.cw_allticked_k02_formulas_read_holds : PySem.Challenge.rw_allticked_k02_formulas_read.Holds := by
  w_on; o_law
  refine HandSHeadRun.head_any (r := Fx.R) (q := view Fx.R.prog [45]) (H := Fx.hk) (ob := Fx.ob) (M := 9000) (loose := Fx.loose) (d := HandSHeadRun.topDef Fx.R.prog 45) (kwd := []) Fx.ob_eq
    (by kernel_rfl) (fun s => by kernel_rfl) Fx.run (by kernel_rfl) (by kernel_rfl) (by kernel_rfl) (by rfl) (by first | assumption | decide +kernel) (by decide +kernel) ⟨rfl, rfl, rfl, rfl, rfl, by decide +kernel⟩ ?hw ?hc
  case hw => w_witness2
  case hc =>
    refine L2.walk_ofE (l := PySem.Challenge.rw_allticked_k02_formulas_read) (n := 63) (k := 12) (x := "_law_script") (CX := L2.CX0) rfl (by decide) (by kernel_rfl) ⟨rfl, by decide, by decide⟩ ?F (fun _ _ _ _ z => z)
    intro w mg fa h Y G hmg0
    obtain ⟨K, KX, c⟩ := Y
    have hmg : mg ("law" : PySem.Str) = some (.ref fa) := by
      have e : (HandSHeadRun.topDef Fx.R.prog 45).name = ("law" : PySem.Str) := by kernel_rfl
      rw [← e]
      exact hmg0
    obtain ⟨fd, hb, hF⟩ := Fx.facts (P := (PySem.Challenge.rw_allticked_k02_formulas_read).prog) (w := w) KX G hmg c
    exact ⟨K, fd, Fx.spLaw K, KX, hb, fun H a ns hl _ hS => ⟨a, ns, rfl, hS, fun _ => rfl⟩, hF⟩
