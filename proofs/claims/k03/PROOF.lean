import PyProof.Rows.All
import Wide.All
import OpenK.AllK
import Wide.FinOn
import HandS.ForMost
import HandS.Exc
import HandS.Defaults
import HandS.Flow
import HandS.IsInst
import HandS.StrMore
import HandS.Walk
import PySem.Challenge.RW_allticked_k03_whole_formulas_compared
import HandS.More
import HandS.Style
import HandS.FStr
import HandS.ExcInit
import KE.KFmtOwn
import KE.KCallOwn
import HandS.RaiseMore
import KE.KOpsOwn
import HandS.WordsExc
import HandS.Deep
import HandS.DictComp
import HandS.WideBits
import HandS.TupAny
import HandS.Strs
import KE.DataCmp
import PyProof.InstEq
import HandS.Lambda
import HandS.HeadWalk
import HandS.ExcField
import HandS.Head0
import HandS.Head1
import HandS.Head2
import HandS.HeadEnd
import HandS.HeadHook4
set_option Elab.async false
set_option linter.all false
set_option maxRecDepth 100000
set_option maxHeartbeats 2000000
namespace Fx
open PySem PySem.Spec PyProof.Rows L2 TL

/-- where the statements stand in this text: by their places in k02's, and by their own places and 100 -/
def ren0 (i : Nat) : Nat := if 100 ≤ i then i - 100 else if i ≤ 7 then i else if i = 13 then 15 else if i ≤ 24 then i + 3 else i + 3
/-- table_of stands at 27 now: it is 300 here -/
def ren (i : Nat) : Nat := if i = 300 then 27 else if ren0 i ≤ 26 then ren0 i else ren0 i + 1
def tp (i : Nat) : Stmt := PySem.Challenge.pw_allticked_k03_whole_formulas_compared.main.body.getD (ren i) (.Pass ⟨1, 1, 1, 1⟩)
abbrev FnT (K : PySem.W.Frag) (x : Str) (i : Nat) (f : Addr) (fd : FuncData) : Prop :=
  FunD K x x (defArgs (tp i)) (defBody (tp i)) (defScope (tp i)) [] [] f fd
theorem same_new {H : Hp} {a : Addr} {u : HO} (n : H a = none) : Same H (upd H a u) := fun b x e => by
  rw [upd_ne (ne_of_none e n)]
  exact e

/-! ### names and words, on texts -/
def isLetter (c : Nat) : Bool := decide (c ∈ tl ("abcdefghijklmnopqrstuvwxyz" : Str))
def reserved : List Str := ["and", "or", "not", "there", "all", "none"]
def isName (z : Str) : Bool := !(reserved.any fun y => y == z) && (decide (1 ≤ z.length) && (decide (z.length ≤ 8) && (tl z).all isLetter))
def isNameV : V → Bool
  | .str z => isName z
  | _ => false
def isWord (z : Str) : Bool :=
  ((Txt.partition z "@").1 == "there" || isName (Txt.partition z "@").1) && ((Txt.partition z "@").2.1 == "" || isName (Txt.partition z "@").2.2)
def constants : List Str := ["all", "none"]
def operators : List Str := ["and", "or", "not"]
def canStand (core : Str) (mo ms : Int) (wanted : Bool) : Bool :=
  if core == "not" then wanted && ms == 0
  else if operators.any (fun y => y == core) then !wanted && (mo == 0 && ms == 0)
  else wanted && (constants.any (fun y => y == core) || isWord core)

structure NTxt (K : PySem.W.Frag) (mg : Str → Option Value) : Prop where
  letters : ∃ t, mg "LETTERS" = some (.str "abcdefghijklmnopqrstuvwxyz" t)
  longest : ∃ t, mg "LONGEST" = some (.int 8 t)
  reserved : ∃ a, mg "RESERVED" = some (.ref a) ∧ ∀ H, SqT K H a (reserved.map V.str)
  constants : ∃ a, mg "CONSTANTS" = some (.ref a) ∧ ∀ H, SqT K H a (constants.map V.str)
  operators : ∃ a, mg "OPERATORS" = some (.ref a) ∧ ∀ H, SqT K H a (operators.map V.str)
  isi : mg "isinstance" = none
  str : mg "str" = none
  len : mg "len" = none
  all : mg "all" = none
/-- an argument of any kind: whether it is a text is known; a text is not too long -/
def Any (K : PySem.W.Frag) (H : Hp) (v : V) : Prop := ∃ t b, TyX K H v t ∧ PySem.W.kitOne K t (.type "str") = some b ∧ (b = true ↔ ∃ z, v = .str z) ∧ ∀ z, v = .str z → z.length ≤ 1000000
theorem inV_strs {z : Str} : ∀ l : List Str, inV (.str z) (l.map V.str) = l.any fun y => y == z
  | [] => rfl
  | y :: l => by
    show (eqV (.str y) (.str z) || inV (.str z) (l.map V.str)) = _
    rw [inV_strs l] <;> rfl
theorem flat_strs : ∀ l : List Str, (l.map V.str).all flatV = true
  | [] => rfl
  | y :: l => by
    show (flatV (.str y) && (l.map V.str).all flatV) = true
    rw [flat_strs l] <;> rfl
theorem take_snoc {α : Type} {l : List α} {i : Nat} {x : α} (h : l[i]? = some x) : l.take (i + 1) = l.take i ++ [x] := by
  rw [List.take_add_one, h] <;> rfl

section
variable {P : Program} {w : World} {K : PySem.W.Frag} {mg : Str → Option Value} {base : Heap} {f fN : Addr} {fd fdN : FuncData}
/-! ### is_name -/
def spIsName (K : PySem.W.Frag) : Sp := fun vs H Q _ => ∃ v, vs = [v] ∧ Any K H v ∧ ∀ G, Same H G → Q (.bl (isNameV v)) G
theorem sc_isname : FnScope ["thing", "sign"] ["thing"] (defScope (tp 7)) := ⟨rfl, rfl, rfl, by decide +kernel, rfl, by decide +kernel, by decide +kernel⟩
theorem ok_isname (F : FnT K "is_name" 7 f fd) (T : NTxt K mg) : FnOk P w K mg base CX0 1 f fd ["thing"] (spIsName K) := by
  obtain ⟨t1, gL⟩ := T.letters
  obtain ⟨t2, gM⟩ := T.longest
  obtain ⟨aR, gR, hR⟩ := T.reserved
  refine F.ok sc_isname (fun vs H Q E h => ?_) (fun cdv A outer s H vs Q E hr h => ⟨_, PSs.nox (
    pss_cons (ps_if (PW.pt (pw_or (pt_not (pt_val (pe_callB call_isi rfl T.isi (by decide +kernel) (pa_cons (pv 0) (pa_cons (pe_bltn (v := .ty "str") rfl T.str (by decide +kernel) rfl) pa_nil)))))
        (pw_or1 (pt_cmpR op_in_seq (pv 0) (pe_glob (v := .ref aR) rfl gR rfl) (by rfl))))) (pss_one (ps_ret pe_bl)) pss_nil)
    (pss_one (ps_ret (pe_and (pe_chain op_le op_le pe_int (pe_callB call_len rfl T.len boot_len (pa_cons (pv 0) pa_nil)) (pe_glob (v := .int 8) rfl gM ⟨_, rfl⟩))
      (pe_one (pe_callB (cr_all rfl) rfl T.all (by decide +kernel) (pa_cons
        (pe_lc (own := [("sign", 1)]) (g := gName 1) (tt := tYes) rfl sc_isname.nd (pi_str (pv 0)) (blkOk_by (N := ["thing", "sign"]) (sc := defScope (tp 7)) (by decide +kernel))
          (fun _ _ _ _ _ => pg_name (i := 1) sc_isname.nd rfl (Or.inl rfl)) (fun _ _ _ _ _ => pts_nil)
          (fun _ _ _ _ _ => pe_cmpR op_in_sign (pv 1) (pe_glob (v := .str "abcdefghijklmnopqrstuvwxyz") rfl gL ⟨_, rfl⟩) (by rfl))) pa_nil))))))), ?_⟩)
  · obtain ⟨v, rfl, _⟩ := h
    rfl
  · obtain ⟨v, rfl, ⟨t, b, ty, kb, hb, hz⟩, q⟩ := h
    refine ⟨_, rfl, v, .ty "str", t, .type "str", b, rfl, .ty _, ty, kb, b, rfl, ?_⟩
    cases b with
    | false =>
      have e : isNameV v = false := by
        cases v with
        | str z => exact absurd (hb.mpr ⟨z, rfl⟩) Bool.false_ne_true
        | _ => rfl
      refine iteT ?_
      have z := q H (Same.refl H)
      rw [e] at z
      exact z
    | true =>
      obtain ⟨z, rfl⟩ := hb.mp rfl
      have hlen := hz z rfl
      refine iteF ⟨_, rfl, aR, reserved.map V.str, rfl, .inr (hR H), rfl, flat_strs _, _, rfl, ?_⟩
      rw [if_neg (by decide), inV_strs]
      cases er : reserved.any fun y => y == z with
      | true =>
        refine iteT ?_
        have w1 := q H (Same.refl H)
        have e : isNameV (.str z) = false := by
          show isName z = false
          unfold isName
          rw [er] <;> rfl
        rw [e] at w1
        exact w1
      | false =>
        have hsz : z.length ≤ sizeLine := Nat.le_trans hlen (by decide)
        refine iteF ⟨_, rfl, _, z.length, rfl, ⟨hsz, rfl⟩, 1, _, rfl, rfl, _, rfl, ?_⟩
        have eN : isNameV (.str z) = (decide (1 ≤ z.length) && (decide (z.length ≤ 8) && (tl z).all isLetter)) := by
          show isName z = _
          unfold isName
          rw [er] <;> rfl
        refine ite2 (fun c1 => ?_) fun c1 => ?_
        · have d1 : 1 ≤ z.length := by
            have w1 : (1 : Int) ≤ (z.length : Int) := of_decide_eq_true c1
            omega
          refine ⟨_, _, rfl, rfl, _, rfl, ?_⟩
          refine ite2 (fun c2 => ?_) fun c2 => ?_
          · have d2 : z.length ≤ 8 := by
              have w1 : (z.length : Int) ≤ 8 := of_decide_eq_true c2
              omega
            refine ⟨_, rfl, z, rfl, fun D hD => ?_⟩
            refine lc_it walk_str (fun i G => Same H G ∧ G D = some (.lst ((((tl z).take i).map isLetter).map V.bl))) ⟨same_new hD, upd_same⟩ (fun _ _ _ _ => trivial) ?_ ?_
            · rintro i x G G' hi ⟨s1, h1⟩ ⟨rfl, c, hc, rfl⟩
              refine ⟨rfl, ?_⟩
              dsimp only [tYes]
              rw [if_pos rfl]
              refine ⟨_, rfl, c, _, rfl, rfl, _, h1, ?_, ?_, ?_⟩
              · rw [List.length_map, List.length_map]
                refine Nat.lt_of_le_of_lt (List.length_take_le _ _) ?_
                exact Nat.lt_of_lt_of_le (Nat.lt_of_lt_of_le hi d2) (by decide)
              · intro b o hb2
                rw [upd_ne (ne_of_none hb2 hD)]
                exact s1 b o hb2
              · have hc2 : (tl z)[i]? = some c := by
                  show z.cps.toList[i]? = some c
                  rw [Array.getElem?_toList]
                  exact hc
                rw [upd_same, take_snoc hc2, List.map_append, List.map_append]
                rfl
            · rintro G ⟨s1, h1⟩
              have full : (tl z).take z.cps.size = tl z := List.take_of_length_le (by show z.cps.toList.length ≤ z.cps.size; rw [Array.length_toList]; exact Nat.le_refl _)
              rw [full] at h1
              refine ⟨D, (tl z).map isLetter, rfl, SqL.of h1, ?_⟩
              have w1 := q G s1
              rw [eN, decide_eq_true d1, decide_eq_true d2] at w1
              have e3 : ((tl z).map isLetter).all id = (true && (true && (tl z).all isLetter)) := by
                rw [List.all_map] <;> rfl
              rw [e3]
              exact w1
          · have d2 : ¬ z.length ≤ 8 := fun w1 => c2 (decide_eq_true (by show (z.length : Int) ≤ 8; omega))
            have w1 := q H (Same.refl H)
            rw [eN, decide_eq_false d2, Bool.false_and, Bool.and_false] at w1
            exact w1
        · have d1 : ¬ 1 ≤ z.length := fun w1 => c1 (decide_eq_true (by show (1 : Int) ≤ (z.length : Int); omega))
          have w1 := q H (Same.refl H)
          rw [eN, decide_eq_false d1, Bool.false_and] at w1
          exact ⟨false, rfl, iteF w1⟩
end
end Fx
set_option maxHeartbeats 2000000
namespace Fx
open PySem PySem.Spec PyProof.Rows L2 TL
theorem any_str {K : PySem.W.Frag} {H : Hp} {z : Str} (h : z.length ≤ 1000000) : Any K H (.str z) :=
  ⟨.type "str", true, .base (.str z), kit_ty (by decide +kernel), ⟨fun _ => ⟨z, rfl⟩, fun _ => rfl⟩, fun y e => by cases e; exact h⟩
theorem and_if {a b : Bool} {Q : V → Prop} (h : Q (.bl (a && b))) : if a = true then Q (.bl b) else Q (.bl false) := by
  cases a <;> exact h
theorem or_if {a b : Bool} {Q : V → Prop} (h : Q (.bl (a || b))) : if a = true then Q (.bl true) else Q (.bl b) := by
  cases a <;> exact h
theorem part_le (z : Str) : (Txt.partition z "@").1.length ≤ z.length ∧ (Txt.partition z "@").2.1.length ≤ 1 ∧ (Txt.partition z "@").2.2.length ≤ z.length := by
  have ey : tl ("@" : Str) = 64 :: [] := by decide +kernel
  by_cases h : 64 ∈ tl z
  · obtain ⟨a, b, e, ha⟩ := List.eq_append_cons_of_mem h
    have ez : z = (⟨a.toArray⟩ : Str) ++ ("@" : Str) ++ (⟨b.toArray⟩ : Str) := ext_tl (by
      rw [tl_append, tl_append, ey, e, List.append_assoc] <;> rfl)
    rw [ez, partition_app ey (show 64 ∉ tl (⟨a.toArray⟩ : Str) from ha)]
    refine ⟨?_, Nat.le_refl 1, ?_⟩
    all_goals
      dsimp only
      rw [len_tl, len_tl, tl_append, tl_append, List.length_append, List.length_append]
      omega
  · rw [partition_none ey h]
    exact ⟨Nat.le_refl _, Nat.zero_le 1, Nat.zero_le _⟩
section
variable {P : Program} {w : World} {K : PySem.W.Frag} {mg : Str → Option Value} {base : Heap} {f fN fW : Addr} {fd fdN fdW : FuncData}
theorem dec_str {a b : Str} : decide (V.str a = V.str b) = (a == b) := by
  by_cases e : a = b
  · subst e
    simp
  · have n : ¬ V.str a = V.str b := fun z => e (V.str.inj z)
    rw [decide_eq_false n]
    exact (beq_eq_false_iff_ne.mpr e).symm
theorem rd_or {σ : L2.St} {i j : Nat} {lit y z : Str} {H : Hp} {Q : VK} (h1 : σ[i]? = some (some (.str y))) (h2 : σ[j]? = some (some (.str z))) (hz : z.length ≤ 1000000)
    (q : ∀ G, Same H G → Q (.bl ((y == lit) || isName z)) G) : tOrV (tOp rEq (tVar i) (tC (.str lit))) (tCall (spIsName K) [] E0 (tCons (tVar j) tNil)) σ H Q := by
  refine ⟨_, h1, rfl, _, rfl, ?_⟩
  rw [dec_str]
  cases c : (y == lit) with
  | true =>
    have w1 := q H (Same.refl H)
    rw [c, Bool.true_or] at w1
    exact iteT w1
  | false =>
    refine iteF ⟨_, h2, .str z, rfl, any_str hz, fun G s => ?_⟩
    have w1 := q G s
    rw [c, Bool.false_or] at w1
    exact w1
/-! ### is_word -/
def spIsWord : Sp := fun vs H Q _ => ∃ z : Str, vs = [.str z] ∧ z.length ≤ 1000000 ∧ ∀ G, Same H G → Q (.bl (isWord z)) G
theorem sc_isword : FnScope ["text", "head", "at", "tail"] ["text"] (defScope (tp 15)) := ⟨rfl, rfl, rfl, by decide +kernel, rfl, by decide +kernel, by decide +kernel⟩
theorem ok_isword (F : FnT K "is_word" 15 f fd) (T : NTxt K mg) (FN : FnT K "is_name" 7 fN fdN) (gN : mg "is_name" = some (.ref fN)) : FnOk P w K mg base CX0 2 f fd ["text"] spIsWord := by
  have GN : FnOk P w K mg base CX0 1 fN fdN ["thing"] (spIsName K) := ok_isname FN T
  have bN : L2.Binds K fdN ["thing"] [] := FN.bindsN fun _ _ _ _ _ _ us hl => match us, hl with | [_], _ => rfl
  refine F.ok sc_isword (fun vs H Q E h => ?_) (fun cdv A outer s H vs Q E hr h => ⟨_, PSs.nox (
    pss_cons (ps_asg (pe_partition (pv 0) pe_str) (pg_tup rfl (pgs_cons (pg_name (i := 1) sc_isword.nd rfl (Or.inl rfl)) (pgs_cons (pg_name (i := 2) sc_isword.nd rfl (Or.inl rfl)) (pgs_cons (pg_name (i := 3) sc_isword.nd rfl (Or.inl rfl)) pgs_nil)))))
    (pss_one (ps_ret (pe_and (pe_or (pe_cmpR op_eq (pv 1) pe_str (nomark _)) (pe_one (pe_call GN hr rfl gN FN.kp bN .nil pass0 (pa_cons (pv 1) pa_nil))))
      (pe_one (pe_or (pe_cmpR op_eq (pv 2) pe_str (nomark _)) (pe_one (pe_call GN hr rfl gN FN.kp bN .nil pass0 (pa_cons (pv 3) pa_nil)))))))) ), ?_⟩)
  · obtain ⟨z, rfl, _⟩ := h
    rfl
  · obtain ⟨z, rfl, hz, q⟩ := h
    obtain ⟨l1, l2, l3⟩ := part_le z
    refine ⟨_, rfl, ⟨_, rfl⟩, z, _, rfl, rfl, (by decide +kernel), Nat.le_trans hz (by decide), fun p hp => ?_⟩
    have s1 := same_new hp (u := .tup [.str (Txt.partition z "@").1, .str (Txt.partition z "@").2.1, .str (Txt.partition z "@").2.2])
    refine ⟨p, _, rfl, SqT.of upd_same, rfl, _, _, rfl, _, _, rfl, _, _, rfl, rfl, ?_⟩
    unfold isWord at q
    generalize upd H p (.tup [.str (Txt.partition z "@").1, .str (Txt.partition z "@").2.1, .str (Txt.partition z "@").2.2]) = G at s1 ⊢
    generalize Txt.partition z "@" = r at l1 l2 l3 q ⊢
    obtain ⟨head, at_, tail⟩ := r
    dsimp only at l1 l2 l3 q ⊢
    refine rd_or (y := head) (z := head) rfl rfl (by omega) fun G2 s2 => ⟨_, rfl, ?_⟩
    cases c : (head == "there" || isName head) with
    | true =>
      refine iteT (rd_or (y := at_) (z := tail) rfl rfl (by omega) fun G3 s3 => ?_)
      have w2 := q _ ((s1.trans s2).trans s3)
      rw [c, Bool.true_and] at w2
      exact w2
    | false =>
      have w2 := q _ (s1.trans s2)
      rw [c, Bool.false_and] at w2
      exact iteF w2
end
end Fx
set_option maxHeartbeats 2000000
namespace Fx
open PySem PySem.Spec PyProof.Rows L2 TL
section
variable {P : Program} {w : World} {K : PySem.W.Frag} {mg : Str → Option Value} {base : Heap} {f fN fW fC : Addr} {fd fdN fdW fdC : FuncData}
theorem in_val (z : Str) (l : List Str) : (if (false : Bool) = true then !inV (.str z) (l.map V.str) else inV (.str z) (l.map V.str)) = l.any fun y => y == z := by
  rw [if_neg Bool.false_ne_true, inV_strs]
theorem dec_int0 {a b : Int} : decide (V.int a = V.int b) = (a == b) := dec_int
/-! ### can_stand -/
def spCan : Sp := fun vs H Q _ => ∃ (core : Str) (mo ms : Int) (wanted : Bool), vs = [.str core, .int mo, .int ms, .bl wanted] ∧ core.length ≤ 1000000 ∧ ∀ G, Same H G → Q (.bl (canStand core mo ms wanted)) G
theorem sc_can : FnScope ["core", "many_open", "many_shut", "wanted"] ["core", "many_open", "many_shut", "wanted"] (defScope (tp 17)) := ⟨rfl, rfl, rfl, by decide +kernel, rfl, by decide +kernel, by decide +kernel⟩
theorem ok_can (F : FnT K "can_stand" 17 f fd) (T : NTxt K mg) (FN : FnT K "is_name" 7 fN fdN) (gN : mg "is_name" = some (.ref fN)) (FW : FnT K "is_word" 15 fW fdW) (gW : mg "is_word" = some (.ref fW)) :
    FnOk P w K mg base CX0 3 f fd ["core", "many_open", "many_shut", "wanted"] spCan := by
  have GW : FnOk P w K mg base CX0 2 fW fdW ["text"] spIsWord := ok_isword FW T FN gN
  have bW : L2.Binds K fdW ["text"] [] := FW.bindsN fun _ _ _ _ _ _ us hl => match us, hl with | [_], _ => rfl
  obtain ⟨aO, gO, hO⟩ := T.operators
  obtain ⟨aC, gC, hC⟩ := T.constants
  refine F.ok sc_can (fun vs H Q E h => ?_) (fun cdv A outer s H vs Q E hr h => ⟨_, PSs.nox (
    pss_cons (ps_if (pt_cmpR op_eq (pv 0) pe_str (nomark _)) (pss_one (ps_ret (pe_and (pv 3) (pe_one (pe_cmpR op_eq (pv 2) pe_int (nomark _)))))) pss_nil)
    (pss_cons (ps_if (pt_cmpR op_in_seq (pv 0) (pe_glob (v := .ref aO) rfl gO rfl) (by rfl)) (pss_one (ps_ret (pe_and (pe_not (pv 3)) (pe_and (pe_cmpR op_eq (pv 1) pe_int (nomark _)) (pe_one (pe_cmpR op_eq (pv 2) pe_int (nomark _))))))) pss_nil)
    (pss_one (ps_ret (pe_and (pv 3) (pe_one (pe_or (pe_cmpR op_in_seq (pv 0) (pe_glob (v := .ref aC) rfl gC rfl) (by rfl)) (pe_one (pe_call GW hr rfl gW FW.kp bW .nil pass0 (pa_cons (pv 0) pa_nil))))))))) ), ?_⟩)
  · obtain ⟨core, mo, ms, wanted, rfl, _⟩ := h
    rfl
  · obtain ⟨core, mo, ms, wanted, rfl, hz, q⟩ := h
    refine ⟨_, rfl, rfl, _, rfl, ?_⟩
    rw [dec_str]
    unfold canStand at q
    cases c1 : (core == "not") with
    | true =>
      rw [c1] at q
      simp only [if_true] at q
      refine iteT ⟨_, rfl, wanted, rfl, ?_⟩
      cases wanted with
      | true => exact iteT ⟨_, rfl, rfl, by have w1 := q H (Same.refl H); rw [dec_int]; exact w1⟩
      | false => exact iteF (q H (Same.refl H))
    | false =>
      rw [c1] at q
      simp only [Bool.false_eq_true, if_false] at q
      refine iteF ⟨_, rfl, aO, operators.map V.str, rfl, .inr (hO H), rfl, flat_strs _, _, rfl, ?_⟩
      rw [in_val]
      cases c2 : operators.any fun y => y == core with
      | true =>
        rw [c2] at q
        simp only [if_true] at q
        refine iteT ⟨_, rfl, wanted, rfl, _, rfl, ?_⟩
        cases wanted with
        | true => exact iteF (q H (Same.refl H))
        | false =>
          refine iteT ⟨_, rfl, rfl, _, rfl, ?_⟩
          rw [dec_int]
          cases c3 : (mo == 0) with
          | true =>
            rw [c3] at q
            exact iteT ⟨_, rfl, rfl, by have w1 := q H (Same.refl H); rw [dec_int]; exact w1⟩
          | false =>
            rw [c3] at q
            exact iteF (q H (Same.refl H))
      | false =>
        rw [c2] at q
        simp only [Bool.false_eq_true, if_false] at q
        refine iteF ⟨_, rfl, wanted, rfl, ?_⟩
        cases wanted with
        | false => exact iteF (q H (Same.refl H))
        | true =>
          refine iteT ⟨_, rfl, aC, constants.map V.str, rfl, .inr (hC H), rfl, flat_strs _, _, rfl, ?_⟩
          rw [in_val]
          cases c3 : constants.any fun y => y == core with
          | true =>
            rw [c3] at q
            exact iteT (q H (Same.refl H))
          | false =>
            rw [c3] at q
            exact iteF ⟨_, rfl, core, rfl, hz, fun G s => q G s⟩
end
end Fx
set_option maxHeartbeats 2000000
namespace Fx
open PySem PySem.Spec PyProof.Rows L2 TL

/-! ### the mirror of signs_of -/
structure PSt where
  signs : List Str
  depth : Int
  wanted : Bool
def behindOf (p : Str) : Str := Txt.lstripChars p "("
def coreOf (p : Str) : Str := Txt.rstripChars (behindOf p) ")"
def openOf (p : Str) : Int := (p.length : Int) - (behindOf p).length
def shutOf (p : Str) : Int := ((behindOf p).length : Int) - (coreOf p).length
def signsP (p : Str) : List Str := List.replicate (openOf p).toNat ("(" : Str) ++ [coreOf p] ++ List.replicate (shutOf p).toNat (")" : Str)
def stepP (st : PSt) (p : Str) : Option PSt :=
  if decide (st.depth + openOf p - shutOf p < 0) || !canStand (coreOf p) (openOf p) (shutOf p) st.wanted then none
  else some ⟨st.signs ++ signsP p, st.depth + openOf p - shutOf p, operators.any fun y => y == coreOf p⟩
def runP : Option PSt → List Str → Option PSt
  | none, _ => none
  | some st, [] => some st
  | some st, p :: r => runP (stepP st p) r
def start0 : PSt := ⟨[], 0, true⟩
def signsOf (z : Str) : List Str := match runP (some start0) (Txt.split z " ") with
  | none => []
  | some st => if st.wanted || decide (0 < st.depth) then [] else st.signs
def signsV : V → List Str
  | .str z => signsOf z
  | _ => []
theorem runP_none : ∀ l, runP none l = none
  | [] => rfl
  | _ :: _ => rfl
theorem runP_app : ∀ (a b : List Str) (o : Option PSt), runP o (a ++ b) = runP (runP o a) b
  | [], b, none => by rw [runP_none, runP_none, runP_none]
  | [], b, some st => rfl
  | p :: a, b, none => by rw [runP_none, runP_none, runP_none]
  | p :: a, b, some st => by
    show runP (stepP st p) (a ++ b) = _
    rw [runP_app a b] <;> rfl
/-! ### lengths -/
theorem len_behind (p : Str) : (behindOf p).length ≤ p.length := by
  obtain ⟨i, hi, e⟩ := stripBy_left (("(" : Str).cps.contains) p
  unfold behindOf Txt.lstripChars
  rw [e, len_tl, tl_strSub_end, List.length_drop, ← len_tl]
  omega
theorem len_core (p : Str) : (coreOf p).length ≤ (behindOf p).length := by
  obtain ⟨j, hj, e⟩ := stripBy_right ((")" : Str).cps.contains) (behindOf p)
  unfold coreOf Txt.rstripChars
  rw [e, len_tl, tl_strSub, List.drop_zero, List.length_take, ← len_tl]
  omega
theorem len_signsP (p : Str) : (signsP p).length ≤ p.length + 1 := by
  have h1 := len_behind p
  have h2 := len_core p
  unfold signsP openOf shutOf
  rw [List.length_append, List.length_append, List.length_replicate, List.length_replicate, List.length_singleton]
  omega
theorem spl_len (S : List Nat) : ∀ (xs : List Nat) (k : Nat) (acc : List Nat), ∀ p ∈ spl S k acc xs, p.length ≤ acc.length + xs.length
  | [], k, acc, p, hp => by
    rw [spl_nil] at hp
    rw [List.mem_singleton.mp hp]
    exact Nat.le_add_right _ _
  | c :: r, 0, acc, p, hp => by
    cases h : pre S (c :: r) with
    | true =>
      rw [spl_hit h] at hp
      rcases List.mem_cons.mp hp with e | hp
      · rw [e]
        exact Nat.le_add_right _ _
      · have z := spl_len S r (S.length - 1) [] p hp
        rw [List.length_cons]
        simp only [List.length_nil] at z
        omega
    | false =>
      rw [spl_miss h] at hp
      have z := spl_len S r 0 (acc ++ [c]) p hp
      rw [List.length_append, List.length_singleton] at z
      rw [List.length_cons]
      omega
  | c :: r, k + 1, acc, p, hp => by
    have z := spl_len S r k acc p hp
    rw [List.length_cons]
    omega
theorem piece_len (z : Str) : ∀ p ∈ Txt.split z " ", p.length ≤ z.length := by
  intro p hp
  have e := split_spl z " " (by decide +kernel) (kind_ok (by decide +kernel))
  have m : tl p ∈ (Txt.split z " ").map tl := List.mem_map.mpr ⟨p, hp, rfl⟩
  rw [e] at m
  have w1 := spl_len _ _ _ _ _ m
  rw [len_tl, len_tl]
  simpa using w1
theorem runP_len : ∀ (l : List Str) (n : Nat) (st st' : PSt), (∀ p ∈ l, p.length ≤ n) → runP (some st) l = some st' → st'.signs.length ≤ st.signs.length + l.length * (n + 1)
  | [], n, st, st', _, e => by
    cases e
    omega
  | p :: l, n, st, st', h, e => by
    have e2 : runP (stepP st p) l = some st' := e
    cases q : stepP st p with
    | none =>
      rw [q, runP_none] at e2
      cases e2
    | some st2 =>
      rw [q] at e2
      have ih := runP_len l n st2 st' (fun y hy => h y (List.mem_cons_of_mem _ hy)) e2
      have h1 := len_signsP p
      have h2 := h p List.mem_cons_self
      have h3 : st2.signs = st.signs ++ signsP p := by
        unfold stepP at q
        split at q
        · cases q
        · cases q
          rfl
      rw [h3, List.length_append] at ih
      rw [List.length_cons, Nat.add_mul]
      omega

theorem rep_flat (z : Str) (k : Int) : (List.replicate k.toNat [V.str z]).flatten = (List.replicate k.toNat z).map V.str := by
  rw [List.map_replicate]
  induction k.toNat with
  | zero => rfl
  | succ n ih =>
    rw [List.replicate_succ, List.flatten_cons, ih] <;> rfl
theorem rd_rep {H : Hp} {Q : VK} {z : Str} {k : Int} (h0 : 0 ≤ k) (h1 : k ≤ 4000) (q : ∀ p G, Same H G → H p = none → G p = some (.lst ((List.replicate k.toNat z).map V.str)) → Q (.ref p) G) :
    ∀ l, H l = none → rRep (.ref l) (.int k) (upd H l (.lst [.str z])) Q := by
  intro l hl
  have e : (2 : Int) ^ 63 = 9223372036854775808 := by decide
  refine ⟨l, k, [.str z], rfl, rfl, upd_same, by rw [e]; omega, by rw [e]; omega, ?_, fun p hp => ?_⟩
  · show 1 * k.toNat ≤ sizeLine
    have e2 : (4000 : Nat) ≤ sizeLine := by decide
    omega
  · refine q p _ ((same_new hl).trans (same_new hp)) ?_ ?_
    · exact (same_new hl).free hp
    · rw [upd_same, rep_flat]
theorem rd_cat {H : Hp} {Q : VK} {l b : Addr} {xs zs : List Str} (h1 : H l = some (.lst (xs.map V.str))) (h2 : H b = some (.lst (zs.map V.str))) (z : xs.length + zs.length ≤ sizeLine)
    (q : ∀ p G, Same H G → H p = none → G p = some (.lst ((xs ++ zs).map V.str)) → Q (.ref p) G) : rCat (.ref l) (.ref b) H Q := by
  refine ⟨l, b, _, _, rfl, rfl, h1, h2, by rw [List.length_map, List.length_map]; exact z, fun p hp => q p _ (same_new hp) hp ?_⟩
  rw [upd_same, List.map_append]
section
variable {P : Program} {w : World} {K : PySem.W.Frag} {mg : Str → Option Value} {base : Heap} {f fN fW fC : Addr} {fd fdN fdW fdC : FuncData}
/-- a text of at most 4000 signs, or no text -/
def spSigns (K : PySem.W.Frag) : Sp := fun vs H Q _ => ∃ v, vs = [v] ∧ Any K H v ∧ (∀ z, v = .str z → z.length ≤ 3900) ∧ ∀ p G, Same H G → H p = none → G p = some (.lst ((signsV v).map V.str)) → Q (.ref p) G
theorem sc_signs : FnScope ["text", "signs", "depth", "wanted", "piece", "behind", "core", "many_open", "many_shut"] ["text"] (defScope (tp 16)) := ⟨rfl, rfl, rfl, by decide +kernel, rfl, by decide +kernel, by decide +kernel⟩
theorem ok_signs (F : FnT K "signs_of" 16 f fd) (T : NTxt K mg) (FN : FnT K "is_name" 7 fN fdN) (gN : mg "is_name" = some (.ref fN)) (FW : FnT K "is_word" 15 fW fdW) (gW : mg "is_word" = some (.ref fW))
    (FC : FnT K "can_stand" 17 fC fdC) (gC : mg "can_stand" = some (.ref fC)) : FnOk P w K mg base CX0 4 f fd ["text"] (spSigns K) := by
  have GC : FnOk P w K mg base CX0 3 fC fdC ["core", "many_open", "many_shut", "wanted"] spCan := ok_can FC T FN gN FW gW
  have bC : L2.Binds K fdC ["core", "many_open", "many_shut", "wanted"] [] := FC.bindsN fun _ _ _ _ _ _ us hl => match us, hl with | [_, _, _, _], _ => rfl
  obtain ⟨aO, gO, hO⟩ := T.operators
  refine F.ok sc_signs (fun vs H Q E h => ?_) (fun cdv A outer s H vs Q E hr h => ⟨_, PSs.nox (pss_cons (ps_if (pt_not (pt_val (pe_callB call_isi rfl T.isi (by decide +kernel) (pa_cons (pv 0) (pa_cons (pe_bltn (v := .ty "str") rfl T.str (by decide +kernel) rfl) pa_nil))))) (pss_one (ps_ret (pe_lst pa_nil))) pss_nil)
      (pss_cons (ps_set (i := 1) sc_signs.nd rfl (Or.inl rfl) (pe_lst pa_nil))
      (pss_cons (ps_set (i := 2) sc_signs.nd rfl (Or.inl rfl) pe_int)
      (pss_cons (ps_set (i := 3) sc_signs.nd rfl (Or.inl rfl) pe_bl)
      (pss_cons (ps_for PassesOwn.never rfl (pi_list (pe_split (pv 0) pe_str)) (pg_name (i := 4) sc_signs.nd rfl (Or.inl rfl)) (pss_cons (ps_set (i := 5) sc_signs.nd rfl (Or.inl rfl) (pe_bm PySem.F.plainAttrs_str PySem.F.slot_str_lstrip PySem.F.type_str_lstrip mt_lstripChars (pv 4) (pa_cons pe_str pa_nil)))
      (pss_cons (ps_set (i := 6) sc_signs.nd rfl (Or.inl rfl) (pe_bm PySem.F.plainAttrs_str PySem.F.slot_str_rstrip PySem.F.type_str_rstrip mt_rstripChars (pv 5) (pa_cons pe_str pa_nil)))
      (pss_cons (ps_set (i := 7) sc_signs.nd rfl (Or.inl rfl) (pe_op op_sub (pe_callB call_len rfl T.len boot_len (pa_cons (pv 4) pa_nil)) (pe_callB call_len rfl T.len boot_len (pa_cons (pv 5) pa_nil))))
      (pss_cons (ps_set (i := 8) sc_signs.nd rfl (Or.inl rfl) (pe_op op_sub (pe_callB call_len rfl T.len boot_len (pa_cons (pv 5) pa_nil)) (pe_callB call_len rfl T.len boot_len (pa_cons (pv 6) pa_nil))))
      (pss_cons (ps_set (i := 2) sc_signs.nd rfl (Or.inl rfl) (pe_op op_sub (pe_op op_add (pv 2) (pv 7)) (pv 8)))
      (pss_cons (ps_if (PW.pt (pw_or (pt_cmpR op_lt (pv 2) pe_int (nomark _)) (pw_or1 (pt_not (pt_val (pe_call GC hr rfl gC FC.kp bC .nil pass0 (pa_cons (pv 6) (pa_cons (pv 7) (pa_cons (pv 8) (pa_cons (pv 3) pa_nil)))))))))) (pss_one (ps_ret (pe_lst pa_nil))) pss_nil)
      (pss_cons (ps_set (i := 3) sc_signs.nd rfl (Or.inl rfl) (pe_cmpR op_in_seq (pv 6) (pe_glob (v := .ref aO) rfl gO rfl) (by rfl)))
      (pss_one (ps_expr (pe_bm PySem.F.plainAttrs_list PySem.F.slot_list_extend PySem.F.type_list_extend mt_extend (pv 1) (pa_cons (pe_op op_cat (pe_op op_cat (pe_op op_rep (pe_lst (pa_cons pe_str pa_nil)) (pv 7)) (pe_lst (pa_cons (pv 6) pa_nil))) (pe_op op_rep (pe_lst (pa_cons pe_str pa_nil)) (pv 8))) pa_nil))))))))))))
      (pss_one (ps_ret (pe_ifExp (PW.pt (pw_or (pt_val (pv 3)) (pw_or1 (pt_cmpR op_gt (pv 2) pe_int (nomark _))))) (pe_lst pa_nil) (pv 1))))))))), ?_⟩)
  · obtain ⟨v, rfl, _⟩ := h
    rfl
  · obtain ⟨v, rfl, ⟨t, b, ty, kb, hb, _⟩, hz, q⟩ := h
    refine ⟨_, rfl, v, .ty "str", t, .type "str", b, rfl, .ty _, ty, kb, b, rfl, ?_⟩
    cases b with
    | false =>
      have e : signsV v = [] := by
        cases v with
        | str z => exact absurd (hb.mpr ⟨z, rfl⟩) Bool.false_ne_true
        | _ => rfl
      rw [e] at q
      exact iteT ⟨Nat.zero_le _, fun p hp => q p _ (same_new hp) hp upd_same⟩
    | true =>
      obtain ⟨z, rfl⟩ := hb.mp rfl
      have hz1 := hz z rfl
      have line : (16000000 : Nat) ≤ sizeLine := by decide
      refine iteF ⟨Nat.zero_le _, fun l hl => ?_⟩
      refine ⟨_, rfl, ⟨_, rfl⟩, z, _, rfl, rfl, (by decide +kernel), (by omega), fun p hp => ?_⟩
      have hpl : p ≠ l := fun e => by
        rw [e, upd_same] at hp
        cases hp
      have hp0 : H p = none := (same_new hl).free hp
      have pl := piece_len z
      have hn := PyProof.Rows.split_le z " "
      have ed : signsV (.str z) = (match runP (some start0) (Txt.split z " ") with
        | none => []
        | some st => if st.wanted || decide (0 < st.depth) then [] else st.signs) := rfl
      rw [ed] at q
      generalize Txt.split z " " = pcs at pl hn q ⊢
      refine ⟨p, rfl, ⟨_, SqL.of upd_same⟩, for_list (K := K) (a := p) (xs := pcs.map V.str)
        (fun i σ G => ∃ (st : PSt) (o4 o5 o6 o7 o8 : Option V), runP (some start0) (pcs.take i) = some st ∧ σ = [some (.str z), some (.ref l), some (.int st.depth), some (.bl st.wanted), o4, o5, o6, o7, o8] ∧
          Same H G ∧ G l = some (.lst (st.signs.map V.str)) ∧ G p = some (.lst (pcs.map V.str)))
        ⟨start0, none, none, none, none, none, rfl, rfl, (same_new hl).trans (same_new hp), same_new hp _ _ upd_same, upd_same⟩ (fun i σ G _ h => by
          obtain ⟨_, _, _, _, _, _, _, _, _, _, h⟩ := h
          exact SqL.of h) ?_ ?_⟩
      · rintro i x σ G hi ⟨st, o4, o5, o6, o7, o8, hr1, rfl, s1, hl1, hp1⟩
        obtain ⟨pc, hpc, rfl⟩ : ∃ pc, pcs[i]? = some pc ∧ x = V.str pc := by
          rw [List.getElem?_map] at hi
          cases e : pcs[i]? with
          | none =>
            rw [e] at hi
            cases hi
          | some pc =>
            rw [e] at hi
            exact ⟨pc, rfl, (Option.some.inj hi).symm⟩
        have mem : pc ∈ pcs := List.mem_of_getElem? hpc
        have b1 := pl pc mem
        have b2 := len_behind pc
        have b3 := len_core pc
        have bad : stepP st pc = none → runP (some start0) pcs = none := fun hs => by
          have e1 : pcs = pcs.take i ++ pc :: pcs.drop (i + 1) := by
            have hlt := (List.getElem?_eq_some_iff.mp hpc).1
            have e2 := (List.getElem?_eq_some_iff.mp hpc).2
            rw [← e2, List.getElem_cons_drop, List.take_append_drop]
          rw [e1, runP_app, hr1]
          show runP (stepP st pc) _ = none
          rw [hs, runP_none]
        refine ⟨_, rfl, rfl, pc, _, rfl, rfl, by omega, ?_⟩
        refine ⟨_, rfl, rfl, behindOf pc, _, rfl, rfl, by omega, ?_⟩
        refine ⟨_, rfl, _, pc.length, rfl, ⟨by omega, rfl⟩, _, rfl, _, (behindOf pc).length, rfl, ⟨by show (behindOf pc).length ≤ sizeLine; omega, rfl⟩, _, _, rfl, rfl, ?_⟩
        refine ⟨_, rfl, _, (behindOf pc).length, rfl, ⟨by show (behindOf pc).length ≤ sizeLine; omega, rfl⟩, _, rfl, _, (coreOf pc).length, rfl, ⟨by show (coreOf pc).length ≤ sizeLine; omega, rfl⟩, _, _, rfl, rfl, ?_⟩
        refine ⟨_, rfl, _, rfl, _, _, rfl, rfl, _, rfl, _, _, rfl, rfl, ?_⟩
        refine ⟨_, rfl, _, _, rfl, rfl, _, rfl, ?_⟩
        have hO0 : 0 ≤ openOf pc := by unfold openOf; omega
        have hS0 : 0 ≤ shutOf pc := by unfold shutOf; omega
        have hO1 : openOf pc ≤ 4000 := by unfold openOf; omega
        have hS1 : shutOf pc ≤ 4000 := by unfold shutOf; omega
        have qb : runP (some start0) pcs = none → ∀ p G, Same H G → H p = none → G p = some (.lst []) → Q (.ref p) G := by
          intro h
          rw [h] at q
          exact q
        refine ite2 (fun c => ?_) fun c => ?_
        · have c1 : st.depth + openOf pc - shutOf pc < 0 := of_decide_eq_true c
          have none1 := bad (by unfold stepP; rw [decide_eq_true c1] <;> rfl)
          exact iteT ⟨Nat.zero_le _, fun r hr2 => qb none1 r _ (s1.trans (same_new hr2)) (s1.free hr2) upd_same⟩
        · have c1 : ¬ st.depth + openOf pc - shutOf pc < 0 := fun w1 => c (decide_eq_true w1)
          refine ⟨_, rfl, _, rfl, _, rfl, _, rfl, coreOf pc, openOf pc, shutOf pc, st.wanted, rfl, by omega, fun G2 s2 => ⟨_, rfl, ?_⟩⟩
          cases c2 : canStand (coreOf pc) (openOf pc) (shutOf pc) st.wanted with
          | false =>
            have none1 := bad (by unfold stepP; rw [c2, decide_eq_false c1] <;> rfl)
            exact iteT ⟨Nat.zero_le _, fun r hr2 => qb none1 r _ ((s1.trans s2).trans (same_new hr2)) ((s1.trans s2).free hr2) upd_same⟩
          | true =>
            have next : stepP st pc = some ⟨st.signs ++ signsP pc, st.depth + openOf pc - shutOf pc, operators.any fun y => y == coreOf pc⟩ := by
              unfold stepP
              rw [c2, decide_eq_false c1] <;> rfl
            refine iteF ⟨_, rfl, aO, operators.map V.str, rfl, .inr (hO _), rfl, flat_strs _, ?_⟩
            rw [in_val]
            have hl2 := s2 _ _ hl1
            have hp2 := s2 _ _ hp1
            refine ⟨_, rfl, .inl ⟨rfl, _, SqL.of hl2⟩, (by show 1 ≤ sizeLine; decide), fun l1 n1 => ⟨_, rfl, rd_rep hO0 hO1 (fun p1 G3 s3 m3 e3 => ?_) l1 n1⟩⟩
            refine ⟨_, rfl, (by show 1 ≤ sizeLine; decide), fun l2 n2 => ?_⟩
            have z1 : (openOf pc).toNat ≤ 4000 := by omega
            have z2 : (shutOf pc).toNat ≤ 4000 := by omega
            refine rd_cat (zs := [coreOf pc]) (same_new n2 _ _ e3) upd_same (by rw [List.length_replicate]; show (openOf pc).toNat + 1 ≤ sizeLine; omega) (fun p2 G4 s4 m4 e4 => ?_)
            refine ⟨(by show 1 ≤ sizeLine; decide), fun l3 n3 => ⟨_, rfl, rd_rep hS0 hS1 (fun p3 G5 s5 m5 e5 => ?_) l3 n3⟩⟩
            have s35 := s3.trans ((same_new n2 (u := .lst [.str (coreOf pc)])).trans (s4.trans s5))
            have len1 : (List.replicate (openOf pc).toNat ("(" : Str) ++ [coreOf pc]).length + (List.replicate (shutOf pc).toNat (")" : Str)).length ≤ sizeLine := by
              rw [List.length_append, List.length_replicate, List.length_replicate, List.length_singleton]
              omega
            refine rd_cat (s5 _ _ e4) e5 len1 (fun p4 G6 s6 m6 e6 => ?_)
            have s26 := (s2.trans s35).trans s6
            have hl6 := s35.trans s6 _ _ hl2
            have lens : st.signs.length ≤ i * (z.length + 1) := by
              have w1 := runP_len (pcs.take i) z.length start0 st (fun y hy => pl y (List.mem_of_mem_take hy)) hr1
              have w2 : start0.signs.length = 0 := rfl
              have w3 : (pcs.take i).length * (z.length + 1) ≤ i * (z.length + 1) := Nat.mul_le_mul (List.length_take_le _ _) (Nat.le_refl _)
              omega
            have li : i < pcs.length := (List.getElem?_eq_some_iff.mp hpc).1
            have lens2 : i * (z.length + 1) ≤ 3901 * 3901 := Nat.mul_le_mul (by omega) (by omega)
            have lenp := len_signsP pc
            refine ⟨l, p4, _, _, rfl, rfl, hl6, e6, ?_, ?_⟩
            · rw [List.length_map, List.length_map]
              show st.signs.length + (signsP pc).length ≤ sizeLine
              omega
            · refine ⟨⟨st.signs ++ signsP pc, st.depth + openOf pc - shutOf pc, operators.any fun y => y == coreOf pc⟩, _, _, _, _, _, ?_, rfl, ?_, ?_, ?_⟩
              · rw [take_snoc hpc, runP_app, hr1]
                show runP (stepP st pc) [] = _
                rw [next] <;> rfl
              · intro b o hb2
                rw [upd_ne (ne_of_none hb2 hl)]
                exact (s1.trans s26) _ _ hb2
              · rw [upd_same]
                show some (HO.lst (List.map V.str st.signs ++ List.map V.str (signsP pc))) = some (HO.lst (List.map V.str (st.signs ++ signsP pc)))
                rw [List.map_append]
              · rw [upd_ne hpl]
                exact s26 _ _ hp1
      · rintro σ G ⟨st, o4, o5, o6, o7, o8, hr1, rfl, s1, hl1, hp1⟩
        rw [List.length_map, List.take_length] at hr1
        rw [hr1] at q
        dsimp only at q
        refine ⟨_, rfl, st.wanted, rfl, ?_⟩
        cases c1 : st.wanted with
        | true =>
          rw [c1] at q
          exact iteT (iteT ⟨Nat.zero_le _, fun r hr2 => q r _ (s1.trans (same_new hr2)) (s1.free hr2) upd_same⟩)
        | false =>
          rw [c1, Bool.false_or] at q
          refine iteF ⟨_, rfl, _, _, rfl, rfl, _, rfl, ?_⟩
          refine ite2 (fun c => ?_) fun c => ?_
          · have c2 : decide (0 < st.depth) = true := c
            rw [c2] at q
            exact ⟨Nat.zero_le _, fun r hr2 => q r _ (s1.trans (same_new hr2)) (s1.free hr2) upd_same⟩
          · have c2 : ¬ decide (0 < st.depth) = true := c
            rw [if_neg c2] at q
            exact ⟨_, rfl, q l _ s1 hl hl1⟩
end
end Fx
set_option maxHeartbeats 2000000
namespace Fx
open PySem PySem.Spec PyProof.Rows L2 TL

/-! ### the mirror of code_of: the stack has its top first -/
def rank (s : Str) : Int := if s == "(" then 0 else if s == "or" then 1 else if s == "and" then 2 else 3
def popTo : List Str → List Str × List Str
  | [] => ([], [])
  | s :: r => if s == "(" then ([], s :: r) else (s :: (popTo r).1, (popTo r).2)
def popGe (k : Int) : List Str → List Str × List Str
  | [] => ([], [])
  | s :: r => if decide (k ≤ rank s) then (s :: (popGe k r).1, (popGe k r).2) else ([], s :: r)
def stepC (cs : List Str × List Str) (s : Str) : List Str × List Str :=
  if s == "(" || s == "not" then (cs.1, s :: cs.2)
  else if s == ")" then (cs.1 ++ (popTo cs.2).1, (popTo cs.2).2.tail)
  else if operators.any fun y => y == s then (cs.1 ++ (popGe (rank s) cs.2).1, s :: (popGe (rank s) cs.2).2)
  else (cs.1 ++ [s], cs.2)
def runC (l : List Str) : List Str × List Str := l.foldl stepC ([], [])
def codeOf (l : List Str) : List Str := (runC l).1 ++ (runC l).2
/-- what stands on the stack -/
def isOp (s : Str) : Bool := s == "(" || (s == "or" || (s == "and" || s == "not"))
def stackOk (l : List Str) : Prop := ∀ s ∈ l, isOp s = true
/-- each bracket that shuts finds one that is open -/
def Good (l : List Str) : Prop := ∀ (i : Nat), l[i]? = some (")" : Str) → ("(" : Str) ∈ (runC (l.take i)).2
theorem popTo_app : ∀ l, (popTo l).1 ++ (popTo l).2 = l
  | [] => rfl
  | s :: r => by
    unfold popTo
    split
    · rfl
    · show s :: ((popTo r).1 ++ (popTo r).2) = s :: r
      rw [popTo_app r]
theorem popTo_head : ∀ l, ("(" : Str) ∈ l → ∃ r, (popTo l).2 = ("(" : Str) :: r
  | [], h => by cases h
  | s :: r, h => by
    unfold popTo
    by_cases e : (s == ("(" : Str)) = true
    · rw [if_pos e]
      exact ⟨r, by rw [eq_of_beq e]⟩
    · rw [if_neg e]
      have e2 : s ≠ "(" := fun z => e (by rw [z]; simp)
      rcases List.mem_cons.mp h with z | z
      · exact absurd z.symm e2
      · exact popTo_head r z
theorem popTo_no : ∀ l, ∀ s ∈ (popTo l).1, s ≠ "("
  | [], s, h => by cases h
  | a :: r, s, h => by
    unfold popTo at h
    by_cases e : (a == ("(" : Str)) = true
    · rw [if_pos e] at h
      cases h
    · rw [if_neg e] at h
      rcases List.mem_cons.mp h with z | z
      · intro w1
        rw [z] at w1
        exact e (by rw [w1]; simp)
      · exact popTo_no r s z
theorem popGe_app (k : Int) : ∀ l, (popGe k l).1 ++ (popGe k l).2 = l
  | [] => rfl
  | s :: r => by
    unfold popGe
    split
    · show s :: ((popGe k r).1 ++ (popGe k r).2) = s :: r
      rw [popGe_app k r]
    · rfl
theorem ops_isOp {s : Str} (h : (operators.any fun y => y == s) = true) : isOp s = true := by
  obtain ⟨y, hy, e⟩ := List.any_eq_true.mp h
  have e2 := eq_of_beq e
  subst e2
  have all : ∀ y ∈ operators, isOp y = true := by decide +kernel
  exact all _ hy
theorem stack_step {cs : List Str × List Str} {s : Str} (h : stackOk cs.2) : stackOk (stepC cs s).2 := by
  unfold stepC
  split
  · rename_i h1
    intro y hy
    rcases List.mem_cons.mp hy with e | e
    · rw [e]
      unfold isOp
      simp only [Bool.or_eq_true] at h1 ⊢
      rcases h1 with z | z
      · exact .inl z
      · exact .inr (.inr (.inr z))
    · exact h y e
  · split
    · intro y hy
      refine h y ?_
      rw [← popTo_app cs.2]
      exact List.mem_append_right _ (List.mem_of_mem_tail hy)
    · split
      · rename_i h3
        intro y hy
        rcases List.mem_cons.mp hy with e | e
        · rw [e]
          exact ops_isOp h3
        · refine h y ?_
          rw [← popGe_app (rank s) cs.2]
          exact List.mem_append_right _ e
      · exact h
theorem runC_snoc (l : List Str) (s : Str) : runC (l ++ [s]) = stepC (runC l) s := by
  unfold runC
  rw [List.foldl_append] <;> rfl
theorem fold_stack : ∀ (l : List Str) (cs : List Str × List Str), stackOk cs.2 → stackOk (l.foldl stepC cs).2
  | [], _, h => h
  | _ :: l, _, h => fold_stack l _ (stack_step h)
theorem runC_stack (l : List Str) : stackOk (runC l).2 := fold_stack l _ fun s h => by cases h
theorem len_step (cs : List Str × List Str) (s : Str) : (stepC cs s).1.length + (stepC cs s).2.length ≤ cs.1.length + cs.2.length + 1 := by
  have h1 := congrArg List.length (popTo_app cs.2)
  have h2 := congrArg List.length (popGe_app (rank s) cs.2)
  rw [List.length_append] at h1 h2
  unfold stepC
  split
  · simp only [List.length_cons]; omega
  · split
    · simp only [List.length_append, List.length_tail]; omega
    · split
      · simp only [List.length_append, List.length_cons]; omega
      · simp only [List.length_append, List.length_cons, List.length_nil]; omega
theorem fold_len : ∀ (l : List Str) (cs : List Str × List Str), (l.foldl stepC cs).1.length + (l.foldl stepC cs).2.length ≤ cs.1.length + cs.2.length + l.length
  | [], _ => Nat.le_refl _
  | s :: l, cs => by
    have h1 := fold_len l (stepC cs s)
    have h2 := len_step cs s
    rw [List.length_cons]
    show (l.foldl stepC (stepC cs s)).1.length + (l.foldl stepC (stepC cs s)).2.length ≤ _
    omega
theorem runC_len (l : List Str) : (runC l).1.length + (runC l).2.length ≤ l.length := by
  have h := fold_len l ([], [])
  simp only [List.length_nil] at h
  show (l.foldl stepC ([], [])).1.length + (l.foldl stepC ([], [])).2.length ≤ _
  omega

theorem ix_kd {X : Cx} {d : Addr} {es : Array DictEntry} {n : Nat} (D : KDict X.K X.w d es n) :
    IxR X (fun x y H Q => ∃ (z : Str) (u : Value) (v : V), x = .ref d ∧ y = .str z ∧ PySem.W.nsIn X.K d z = some (some u) ∧ RelV v u ∧ Q v H) := by
  intro value slice pins s σ H x y v u Q I rx ry h hs
  have h2 := h
  obtain ⟨z, u0, v0, rfl, rfl, _⟩ := h2
  have key := op_item_kd D pins s σ H (.ref d) (.str z) v u Q I rx ry h
  cases rx
  exact tail_any (kd_type D I) slot_dict_getitem.lookup key hs
theorem rev_map (s : Str) (r : List Str) : ((s :: r).reverse.map V.str) = r.reverse.map V.str ++ [V.str s] := by
  rw [List.reverse_cons, List.map_append] <;> rfl
theorem rd_appS {H0 G : Hp} {l : Addr} {xs : List Str} {y : Str} {Qd : Hp → Prop} (hl : H0 l = none) (s : Same H0 G) (h : G l = some (.lst (xs.map V.str))) (z : xs.length < sizeLine)
    (k : ∀ G', Same H0 G' → G' l = some (.lst ((xs ++ [y]).map V.str)) → (∀ b, b ≠ l → G' b = G b) → Qd G') : rAppend (.ref l) [.str y] G (fun _ H => Qd H) := by
  refine ⟨l, _, _, rfl, rfl, h, by rw [List.length_map]; exact z, k _ ?_ ?_ fun b hb => upd_ne hb⟩
  · intro b u hb
    rw [upd_ne (ne_of_none hb hl)]
    exact s b u hb
  · rw [upd_same, List.map_append] <;> rfl
theorem rd_popS {H0 G : Hp} {l : Addr} {s : Str} {r : List Str} {Q : VK} (hl : H0 l = none) (sm : Same H0 G) (h : G l = some (.lst ((s :: r).reverse.map V.str)))
    (k : ∀ G', Same H0 G' → G' l = some (.lst (r.reverse.map V.str)) → (∀ b, b ≠ l → G' b = G b) → Q (.str s) G') : rPop (.ref l) [] G Q := by
  refine ⟨l, _, .str s, rfl, rfl, h, ?_, k _ ?_ ?_ fun b hb => upd_ne hb⟩
  · rw [rev_map]
    simp
  · intro b u hb
    rw [upd_ne (ne_of_none hb hl)]
    exact sm b u hb
  · rw [upd_same, rev_map, List.dropLast_concat]
theorem top_at (s : Str) (r : List Str) : atI ((s :: r).reverse.map V.str) (-1) = some (.str s) := by
  rw [rev_map]
  exact atI_last _ _
structure CTxt (K : PySem.W.Frag) (w : World) (mg : Str → Option Value) : Prop where
  n : NTxt K mg
  ranks : ∃ d es n, mg "RANKS" = some (.ref d) ∧ KDict K w d es n ∧ ∀ s, isOp s = true → ∃ t, PySem.W.nsIn K d s = some (some (.int (rank s) t))
  tuple : mg "tuple" = none
section
variable {P : Program} {w : World} {K : PySem.W.Frag} {mg : Str → Option Value} {base : Heap} {f : Addr} {fd : FuncData}
def spCode (K : PySem.W.Frag) : Sp := fun vs H Q _ => ∃ (a : Addr) (l : List Str), vs = [.ref a] ∧ SqL K H a (l.map V.str) ∧ l.length ≤ 16000000 ∧ Good l ∧
  ∀ p G, Same H G → H p = none → G p = some (.tup ((codeOf l).map V.str)) → Q (.ref p) G
theorem sc_code : FnScope ["signs", "code", "waiting", "sign"] ["signs"] (defScope (tp 18)) := ⟨rfl, rfl, rfl, by decide +kernel, rfl, by decide +kernel, by decide +kernel⟩
theorem ok_code (F : FnT K "code_of" 18 f fd) (T : CTxt K w mg) : FnOk P w K mg base CX0 1 f fd ["signs"] (spCode K) := by
  obtain ⟨aO, gO, hO⟩ := T.n.operators
  obtain ⟨aR, es, n, gR, DR, hR⟩ := T.ranks
  refine F.ok sc_code (fun vs H Q E h => ?_) (fun cdv A outer s H vs Q E hr h => ⟨_, PSs.nox (pss_cons (ps_set (i := 1) sc_code.nd rfl (Or.inl rfl) (pe_lst pa_nil))
      (pss_cons (ps_set (i := 2) sc_code.nd rfl (Or.inl rfl) (pe_lst pa_nil))
      (pss_cons (ps_for PassesOwn.never rfl (pi_list (pv 0)) (pg_name (i := 3) sc_code.nd rfl (Or.inl rfl)) (pss_one (ps_if (PW.pt (pw_or (pt_cmpR op_eq (pv 3) pe_str (nomark _)) (pw_or1 (pt_cmpR op_eq (pv 3) pe_str (nomark _))))) (pss_one (ps_expr (pe_bm PySem.F.plainAttrs_list PySem.F.slot_list_append PySem.F.type_list_append mt_append (pv 2) (pa_cons (pv 3) pa_nil)))) (pss_one (ps_if (pt_cmpR op_eq (pv 3) pe_str (nomark _)) (pss_cons (ps_while PassesOwn.never (pt_cmpR op_ne (pe_ix ix_list (pv 2) (pe_un un_neg pe_int) (fun _ _ => rfl)) pe_str (nomark _)) (pss_one (ps_expr (pe_bm PySem.F.plainAttrs_list PySem.F.slot_list_append PySem.F.type_list_append mt_append (pv 1) (pa_cons (pe_bm0 PySem.F.plainAttrs_list PySem.F.slot_list_pop PySem.F.type_list_pop mt_pop (pv 2)) pa_nil)))))
      (pss_one (ps_expr (pe_bm0 PySem.F.plainAttrs_list PySem.F.slot_list_pop PySem.F.type_list_pop mt_pop (pv 2))))) (pss_one (ps_if (pt_cmpR op_in_seq (pv 3) (pe_glob (v := .ref aO) rfl gO rfl) (by rfl)) (pss_cons (ps_while PassesOwn.never (PW.pt (pw_and (pt_truth (pv 2) (by intro _; rfl)) (pw_and1 (pt_cmpR op_ge (pe_ix (ix_kd DR) (pe_glob (v := .ref aR) rfl gR rfl) (pe_ix ix_list (pv 2) (pe_un un_neg pe_int) (fun _ _ => rfl)) (fun _ _ => rfl)) (pe_ix (ix_kd DR) (pe_glob (v := .ref aR) rfl gR rfl) (pv 3) (fun _ _ => rfl)) (nomark _))))) (pss_one (ps_expr (pe_bm PySem.F.plainAttrs_list PySem.F.slot_list_append PySem.F.type_list_append mt_append (pv 1) (pa_cons (pe_bm0 PySem.F.plainAttrs_list PySem.F.slot_list_pop PySem.F.type_list_pop mt_pop (pv 2)) pa_nil)))))
      (pss_one (ps_expr (pe_bm PySem.F.plainAttrs_list PySem.F.slot_list_append PySem.F.type_list_append mt_append (pv 2) (pa_cons (pv 3) pa_nil))))) (pss_one (ps_expr (pe_bm PySem.F.plainAttrs_list PySem.F.slot_list_append PySem.F.type_list_append mt_append (pv 1) (pa_cons (pv 3) pa_nil)))))))))))
      (pss_one (ps_ret (pe_callTy call_tuple_of rfl T.tuple (by decide +kernel) (pa_cons (pe_op op_cat (pv 1) (pe_revL (pv 2))) pa_nil))))))), ?_⟩)
  · obtain ⟨a, l, rfl, _⟩ := h
    rfl
  · obtain ⟨a, l, rfl, hs, hlen, good, q⟩ := h
    refine ⟨Nat.zero_le _, fun c hc => ⟨Nat.zero_le _, fun wt hw => ?_⟩⟩
    have cw : wt ≠ c := fun e => by
      rw [e, upd_same] at hw
      cases hw
    have hw0 : H wt = none := (same_new hc).free hw
    have line : (16000000 : Nat) < sizeLine := by decide
    have s0 := (same_new hc (u := .lst [])).trans (same_new hw (u := .lst []))
    refine ⟨_, rfl, a, rfl, ⟨_, s0.seq hs⟩, for_list (K := K) (a := a) (xs := l.map V.str)
      (fun i σ G => ∃ o3, σ = [some (.ref a), some (.ref c), some (.ref wt), o3] ∧ Same H G ∧ G c = some (.lst ((runC (l.take i)).1.map V.str)) ∧ G wt = some (.lst ((runC (l.take i)).2.reverse.map V.str)))
      ⟨none, rfl, s0, same_new hw _ _ upd_same, upd_same⟩ (fun i σ G _ h => by
        obtain ⟨_, _, h, _⟩ := h
        exact h.seq hs) ?_ ?_⟩
    · rintro i x σ G hi ⟨o3, rfl, s1, gc, gw⟩
      obtain ⟨s, hsi, rfl⟩ : ∃ s, l[i]? = some s ∧ x = V.str s := by
        rw [List.getElem?_map] at hi
        cases e : l[i]? with
        | none =>
          rw [e] at hi
          cases hi
        | some s =>
          rw [e] at hi
          exact ⟨s, rfl, (Option.some.inj hi).symm⟩
      have hnext : runC (l.take (i + 1)) = stepC (runC (l.take i)) s := by rw [take_snoc hsi, runC_snoc]
      have hst := runC_stack (l.take i)
      have hln := runC_len (l.take i)
      have hti := List.length_take_le i l
      have hil : i < l.length := (List.getElem?_eq_some_iff.mp hsi).1
      have hgood := good i
      rw [hsi] at hgood
      have done : ∀ (G' : Hp), Same H G' → G' c = some (.lst ((stepC (runC (l.take i)) s).1.map V.str)) → G' wt = some (.lst ((stepC (runC (l.take i)) s).2.reverse.map V.str)) →
          ∃ o3, [some (.ref a), some (.ref c), some (.ref wt), some (.str s)] = [some (V.ref a), some (.ref c), some (.ref wt), o3] ∧ Same H G' ∧ G' c = some (.lst ((runC (l.take (i + 1))).1.map V.str)) ∧ G' wt = some (.lst ((runC (l.take (i + 1))).2.reverse.map V.str)) := by
        intro G' h1 h2 h3
        rw [hnext]
        exact ⟨_, rfl, h1, h2, h3⟩
      generalize hcs : runC (l.take i) = cs at gc gw hst hln hgood done
      clear hnext
      -- ( or not
      refine ⟨_, rfl, rfl, _, rfl, ?_⟩
      rw [dec_str]
      have pushW : ∀ (hx : (s == "(" || s == "not") = true), rAppend (.ref wt) [.str s] G (fun _ H' => ∃ o3, [some (.ref a), some (.ref c), some (.ref wt), some (.str s)] = [some (V.ref a), some (.ref c), some (.ref wt), o3] ∧ Same H H' ∧ H' c = some (.lst ((runC (l.take (i + 1))).1.map V.str)) ∧ H' wt = some (.lst ((runC (l.take (i + 1))).2.reverse.map V.str))) := by
        intro hx
        refine rd_appS (xs := cs.2.reverse) hw0 s1 gw (by rw [List.length_reverse]; omega) fun G' h1 h2 h3 => ?_
        have e : stepC cs s = (cs.1, s :: cs.2) := by
          unfold stepC
          rw [if_pos hx]
        refine done G' h1 ?_ ?_
        · rw [e, h3 c (Ne.symm cw)]
          exact gc
        · rw [e, h2, List.reverse_cons]
      cases c1 : (s == ("(" : Str)) with
      | true =>
        refine iteT (iteT ?_)
        exact ⟨_, rfl, .inl ⟨rfl, _, SqL.of gw⟩, _, rfl, pushW (by rw [c1] <;> rfl)⟩
      | false =>
        refine iteF ⟨_, rfl, rfl, _, rfl, ?_⟩
        rw [dec_str]
        cases c2 : (s == ("not" : Str)) with
        | true =>
          refine iteT ?_
          exact ⟨_, rfl, .inl ⟨rfl, _, SqL.of gw⟩, _, rfl, pushW (by rw [c1, c2] <;> rfl)⟩
        | false =>
          clear pushW
          refine iteF ⟨_, rfl, rfl, _, rfl, ?_⟩
          rw [dec_str]
          have e1 : (s == ("(" : Str) || s == ("not" : Str)) = false := by rw [c1, c2] <;> rfl
          cases c3 : (s == (")" : Str)) with
          | true =>
            have es : s = ")" := eq_of_beq c3
            have hmem := hgood (by rw [es])
            have e : stepC cs s = (cs.1 ++ (popTo cs.2).1, (popTo cs.2).2.tail) := by
              unfold stepC
              rw [e1, if_neg Bool.false_ne_true, if_pos c3]
            rw [e] at done
            refine iteT ?_
            refine while_by (fun σ G' => ∃ rest code', σ = [some (.ref a), some (.ref c), some (.ref wt), some (.str s)] ∧ ("(" : Str) ∈ rest ∧ code' ++ (popTo rest).1 = cs.1 ++ (popTo cs.2).1 ∧ (popTo rest).2 = (popTo cs.2).2 ∧ code'.length + rest.length ≤ l.length ∧
                Same H G' ∧ G' c = some (.lst (code'.map V.str)) ∧ G' wt = some (.lst (rest.reverse.map V.str))) (fun _ G' => match G' wt with | some (.lst xs) => xs.length | _ => 0)
              ⟨cs.2, cs.1, rfl, hmem, rfl, rfl, by omega, s1, gc, gw⟩ ?_ ?_
            · rintro σ G' ⟨rest, code', rfl, hm, h1, h2, hl2, s2, gc2, gw2⟩
              cases rest with
              | nil => cases hm
              | cons x r =>
                refine ⟨_, rfl, 1, rfl, wt, _, -1, .str x, rfl, rfl, SqL.of gw2, top_at x r, rfl, _, rfl, ?_⟩
                rw [dec_str]
                cases hx : (x == ("(" : Str)) with
                | true =>
                  have ep : popTo (x :: r) = ([], x :: r) := by
                    unfold popTo
                    rw [if_pos hx]
                  rw [ep] at h1 h2
                  refine iteF ⟨_, rfl, .inl ⟨rfl, _, SqL.of gw2⟩, rd_popS hw0 s2 gw2 fun G3 h3 h4 h5 => done G3 h3 ?_ ?_⟩
                  · rw [h5 c (Ne.symm cw), gc2, ← h1, List.append_nil]
                  · rw [h4, ← h2] <;> rfl
                | false =>
                  have ep : popTo (x :: r) = (x :: (popTo r).1, (popTo r).2) := by
                    show (if (x == ("(" : Str)) = true then _ else _) = _
                    rw [hx, if_neg Bool.false_ne_true]
                  rw [ep] at h1 h2
                  have hx2 : ("(" : Str) ∈ r := by
                    rcases List.mem_cons.mp hm with z | z
                    · rw [← z] at hx
                      simp at hx
                    · exact z
                  refine iteT ?_
                  exact ⟨_, rfl, .inl ⟨rfl, _, SqL.of gc2⟩, _, rfl, .inl ⟨rfl, _, SqL.of gw2⟩, rd_popS hw0 s2 gw2 fun G3 h3 h4 h5 => rd_appS (xs := code') hc h3 (by rw [h5 c (Ne.symm cw)]; exact gc2) (by rw [List.length_cons] at hl2; omega)
                    fun G4 h6 h7 h8 => ⟨⟨r, code' ++ [x], rfl, hx2, by rw [List.append_assoc]; exact h1, h2, by rw [List.length_append]; rw [List.length_cons] at hl2; show code'.length + 1 + r.length ≤ _; omega, h6, h7, by rw [h8 wt cw]; exact h4⟩, by
                      rw [h8 wt cw, h4, gw2, rev_map]
                      show (r.reverse.map V.str).length < (r.reverse.map V.str ++ [V.str x]).length
                      rw [List.length_append, List.length_singleton]
                      omega⟩⟩
            · rintro σ H Q Q' k ⟨x, hx, i, hi, p, xs, j, v, e1, e2, e3, e4, hs, b, e5, q⟩
              exact ⟨x, hx, i, hi, p, xs, j, v, e1, e2, e3, e4, hs, b, e5, k _ _ q⟩
          | false =>
            refine iteF ?_
            refine ⟨_, rfl, aO, operators.map V.str, rfl, .inr (hO _), rfl, flat_strs _, _, rfl, ?_⟩
            rw [in_val]
            cases c4 : operators.any fun y => y == s with
            | false =>
              have e : stepC cs s = (cs.1 ++ [s], cs.2) := by
                unfold stepC
                rw [e1, c3, c4] <;> rfl
              rw [e] at done
              exact iteF ⟨_, rfl, .inl ⟨rfl, _, SqL.of gc⟩, _, rfl, rd_appS (xs := cs.1) hc s1 gc (by omega) fun G' h1 h2 h3 => done G' h1 h2 (by rw [h3 wt cw]; exact gw)⟩
            | true =>
              have e : stepC cs s = (cs.1 ++ (popGe (rank s) cs.2).1, s :: (popGe (rank s) cs.2).2) := by
                unfold stepC
                rw [e1, c3, c4] <;> rfl
              rw [e] at done
              obtain ⟨tS, nS⟩ := hR s (ops_isOp c4)
              refine iteT ?_
              have fin : ∀ (rest code' : List Str) (G' : Hp), (popGe (rank s) rest) = ([], rest) → code' ++ (popGe (rank s) rest).1 = cs.1 ++ (popGe (rank s) cs.2).1 → (popGe (rank s) rest).2 = (popGe (rank s) cs.2).2 →
                  code'.length + rest.length ≤ l.length → Same H G' → G' c = some (.lst (code'.map V.str)) → G' wt = some (.lst (rest.reverse.map V.str)) →
                  rAppend (.ref wt) [.str s] G' (fun _ H' => ∃ o3, [some (.ref a), some (.ref c), some (.ref wt), some (.str s)] = [some (V.ref a), some (.ref c), some (.ref wt), o3] ∧ Same H H' ∧ H' c = some (.lst ((runC (l.take (i + 1))).1.map V.str)) ∧ H' wt = some (.lst ((runC (l.take (i + 1))).2.reverse.map V.str))) := by
                intro rest code' G' hp h1 h2 hl2 s2 gc2 gw2
                rw [hp] at h1 h2
                refine rd_appS (xs := rest.reverse) hw0 s2 gw2 (by rw [List.length_reverse]; omega) fun G3 h3 h4 h5 => done G3 h3 ?_ ?_
                · rw [h5 c (Ne.symm cw), gc2, ← h1, List.append_nil]
                · rw [h4, ← h2, List.reverse_cons]
              refine while_by (fun σ G' => ∃ rest code', σ = [some (.ref a), some (.ref c), some (.ref wt), some (.str s)] ∧ stackOk rest ∧ code' ++ (popGe (rank s) rest).1 = cs.1 ++ (popGe (rank s) cs.2).1 ∧ (popGe (rank s) rest).2 = (popGe (rank s) cs.2).2 ∧ code'.length + rest.length ≤ l.length ∧
                Same H G' ∧ G' c = some (.lst (code'.map V.str)) ∧ G' wt = some (.lst (rest.reverse.map V.str))) (fun _ G' => match G' wt with | some (.lst xs) => xs.length | _ => 0)
                ⟨cs.2, cs.1, rfl, hst, rfl, rfl, by omega, s1, gc, gw⟩ ?_ ?_
              · rintro σ G' ⟨rest, code', rfl, hm, h1, h2, hl2, s2, gc2, gw2⟩
                cases rest with
                | nil => exact ⟨_, rfl, false, .inl ⟨_, SqL.of gw2, rfl⟩, iteF (iteF ⟨_, rfl, .inl ⟨rfl, _, SqL.of gw2⟩, _, rfl, fin [] code' G' rfl h1 h2 hl2 s2 gc2 gw2⟩)⟩
                | cons x r =>
                  obtain ⟨tX, nX⟩ := hR x (hm x List.mem_cons_self)
                  refine ⟨_, rfl, true, .inl ⟨_, SqL.of gw2, by rw [rev_map]; simp⟩, iteT ?_⟩
                  refine ⟨_, rfl, 1, rfl, wt, _, -1, .str x, rfl, rfl, SqL.of gw2, top_at x r, x, _, .int (rank x), rfl, rfl, nX, ⟨_, rfl⟩, _, rfl, s, _, .int (rank s), rfl, rfl, nS, ⟨_, rfl⟩, _, _, rfl, rfl, _, rfl, ?_⟩
                  cases hx : decide (rank s ≤ rank x) with
                  | false =>
                    have ep : popGe (rank s) (x :: r) = ([], x :: r) := by
                      unfold popGe
                      rw [hx] <;> rfl
                    exact iteF ⟨_, rfl, .inl ⟨rfl, _, SqL.of gw2⟩, _, rfl, fin (x :: r) code' G' ep h1 h2 hl2 s2 gc2 gw2⟩
                  | true =>
                    have ep : popGe (rank s) (x :: r) = (x :: (popGe (rank s) r).1, (popGe (rank s) r).2) := by
                      show (if decide (rank s ≤ rank x) = true then _ else _) = _
                      rw [hx, if_pos rfl]
                    rw [ep] at h1 h2
                    refine iteT ?_
                    exact ⟨_, rfl, .inl ⟨rfl, _, SqL.of gc2⟩, _, rfl, .inl ⟨rfl, _, SqL.of gw2⟩, rd_popS hw0 s2 gw2 fun G3 h3 h4 h5 => rd_appS (xs := code') hc h3 (by rw [h5 c (Ne.symm cw)]; exact gc2) (by rw [List.length_cons] at hl2; omega)
                    fun G4 h6 h7 h8 => ⟨⟨r, code' ++ [x], rfl, fun y hy => hm y (List.mem_cons_of_mem _ hy), by rw [List.append_assoc]; exact h1, h2, by rw [List.length_append]; rw [List.length_cons] at hl2; show code'.length + 1 + r.length ≤ _; omega, h6, h7, by rw [h8 wt cw]; exact h4⟩, by
                      rw [h8 wt cw, h4, gw2, rev_map]
                      show (r.reverse.map V.str).length < (r.reverse.map V.str ++ [V.str x]).length
                      rw [List.length_append, List.length_singleton]
                      omega⟩⟩
              · rintro σ H Q Q' k ⟨x, hx, b, hb, q⟩
                refine ⟨x, hx, b, hb, ?_⟩
                cases b with
                | false =>
                  rw [if_neg Bool.false_ne_true] at q ⊢
                  exact k _ _ q
                | true =>
                  rw [if_pos rfl] at q ⊢
                  obtain ⟨x1, h1, i, hi, p, xs, j, v, e1, e2, e3, e4, z, u, v1, e5, e6, e7, e8, x2, h2, z2, u2, v2, e9, e10, e11, e12, n1, n2, e13, e14, b, e15, q⟩ := q
                  exact ⟨x1, h1, i, hi, p, xs, j, v, e1, e2, e3, e4, z, u, v1, e5, e6, e7, e8, x2, h2, z2, u2, v2, e9, e10, e11, e12, n1, n2, e13, e14, b, e15, k _ _ q⟩
    · rintro σ G ⟨o3, rfl, s1, gc, gw⟩
      rw [List.length_map, List.take_length] at gc gw
      have hln := runC_len l
      refine ⟨_, rfl, _, rfl, wt, _, rfl, SqL.of gw, fun p hp => ?_⟩
      have e : (upd G p (.lst ((runC l).2.reverse.map V.str).reverse)) p = some (.lst ((runC l).2.map V.str)) := by
        rw [upd_same, List.map_reverse, List.reverse_reverse]
      refine rd_cat (xs := (runC l).1) (same_new hp _ _ gc) e (by omega) fun p2 G2 s2 n2 e2 => ⟨p2, _, rfl, .inl ⟨SqL.of e2, fun t ht => q t _ ?_ ?_ upd_same⟩⟩
      · exact (s1.trans (same_new hp)).trans (s2.trans (same_new ht))
      · exact (s1.trans ((same_new hp).trans s2)).free ht
end
end Fx
set_option maxHeartbeats 2000000
namespace Fx
open PySem PySem.Spec PyProof.Rows L2 TL

/-! ### trees and their texts -/
inductive Fm where
  | leaf (s : Str)
  | neg (t : Fm)
  | bin (s : Str) (a b : Fm)
def post : Fm → List Str
  | .leaf s => [s]
  | .neg t => post t ++ [("not" : Str)]
  | .bin s a b => post a ++ post b ++ [s]
def isOper (s : Str) : Bool := operators.any fun y => y == s
def WF : Fm → Prop
  | .leaf s => isOper s = false
  | .neg t => WF t
  | .bin s a b => (s = "and" ∨ s = "or") ∧ WF a ∧ WF b
def brk (x : Str × Int) (k : Int) : Str := if decide (x.2 < k) then Str.empty ++ ("(" : Str) ++ x.1 ++ (")" : Str) else x.1
def negT (x : Str × Int) : Str × Int := (Str.empty ++ ("not" : Str) ++ (" " : Str) ++ brk x 3, 3)
def binT (s : Str) (x y : Str × Int) : Str × Int := (Str.empty ++ brk x (rank s) ++ (" " : Str) ++ (Str.empty ++ s ++ (" " : Str) ++ brk y (rank s)), rank s)
def trT : Fm → Str × Int
  | .leaf s => (s, 4)
  | .neg t => negT (trT t)
  | .bin s a b => binT s (trT a) (trT b)
/-- one sign of a code, the stack with its top first -/
def stepT (st : List (Str × Int)) (s : Str) : List (Str × Int) :=
  if isOper s then (if s == "not" then (match st with | x :: r => negT x :: r | [] => []) else (match st with | y :: x :: r => binT s x y :: r | _ => [])) else (s, 4) :: st
/-- the code asks of the stack what is there -/
def need (s : Str) : Nat := if isOper s then (if s == "not" then 1 else 2) else 0
def Fits : List Str → Nat → Prop
  | [], n => n = 1
  | s :: r, n => need s ≤ n ∧ Fits r (n + 1 - need s)
theorem not_bin {s : Str} (h : s = "and" ∨ s = "or") : isOper s = true ∧ (s == ("not" : Str)) = false := by
  rcases h with rfl | rfl <;> exact ⟨by decide +kernel, by decide +kernel⟩
theorem fold_post : ∀ (t : Fm) (st : List (Str × Int)), WF t → (post t).foldl stepT st = trT t :: st
  | .leaf s, st, h => by
    show stepT st s = _
    unfold stepT
    rw [show isOper s = false from h] <;> rfl
  | .neg t, st, h => by
    show (post t ++ [("not" : Str)]).foldl stepT st = _
    rw [List.foldl_append, fold_post t st h] <;> rfl
  | .bin s a b, st, h => by
    obtain ⟨hs, ha, hb⟩ := h
    obtain ⟨h1, h2⟩ := not_bin hs
    show (post a ++ post b ++ [s]).foldl stepT st = _
    rw [List.foldl_append, List.foldl_append, fold_post a st ha, fold_post b _ hb]
    show stepT (trT b :: trT a :: st) s = _
    unfold stepT
    rw [h1, h2] <;> rfl
theorem fits_app : ∀ (t : Fm) (l : List Str) (n : Nat), WF t → Fits l (n + 1) → Fits (post t ++ l) n
  | .leaf s, l, n, h, q => by
    have e : need s = 0 := by
      unfold need
      rw [show isOper s = false from h] <;> rfl
    show need s ≤ n ∧ Fits l (n + 1 - need s)
    rw [e]
    exact ⟨Nat.zero_le _, q⟩
  | .neg t, l, n, h, q => by
    show Fits ((post t ++ [("not" : Str)]) ++ l) n
    rw [List.append_assoc]
    refine fits_app t _ n h ?_
    have e : need ("not" : Str) = 1 := by decide +kernel
    show need ("not" : Str) ≤ n + 1 ∧ Fits l (n + 1 + 1 - need ("not" : Str))
    rw [e]
    exact ⟨by omega, by rw [show n + 1 + 1 - 1 = n + 1 by omega]; exact q⟩
  | .bin s a b, l, n, h, q => by
    obtain ⟨hs, ha, hb⟩ := h
    obtain ⟨h1, h2⟩ := not_bin hs
    have e : need s = 2 := by
      unfold need
      rw [h1, h2] <;> rfl
    show Fits ((post a ++ post b ++ [s]) ++ l) n
    rw [List.append_assoc, List.append_assoc]
    refine fits_app a _ n ha (fits_app b _ (n + 1) hb ?_)
    show need s ≤ n + 1 + 1 ∧ Fits l (n + 1 + 1 + 1 - need s)
    rw [e]
    exact ⟨by omega, by rw [show n + 1 + 1 + 1 - 2 = n + 1 by omega]; exact q⟩
theorem fits_post (t : Fm) (h : WF t) : Fits (post t) 0 := by
  have z := fits_app t [] 0 h rfl
  rw [List.append_nil] at z
  exact z
/-! ### sizes -/
def wt (l : List Str) : Nat := (l.map fun s => s.length + 6).sum
def size (st : List (Str × Int)) : Nat := (st.map fun x => x.1.length).sum
theorem len_app (a b : Str) : (a ++ b).length = a.length + b.length := by
  rw [len_tl, len_tl, len_tl, tl_append, List.length_append]
theorem len_brk (x : Str × Int) (k : Int) : (brk x k).length ≤ x.1.length + 2 := by
  unfold brk
  split
  · rw [len_app, len_app, len_app]
    show 0 + 1 + x.1.length + 1 ≤ _
    omega
  · omega
theorem size_step (st : List (Str × Int)) (s : Str) : size (stepT st s) ≤ size st + s.length + 6 := by
  unfold stepT
  cases h1 : isOper s with
  | false =>
    show s.length + size st ≤ _
    omega
  | true =>
    cases h2 : s == ("not" : Str) with
    | true =>
      cases st with
      | nil => exact Nat.zero_le _
      | cons x r =>
        have h := len_brk x 3
        show (negT x).1.length + size r ≤ x.1.length + size r + s.length + 6
        unfold negT
        rw [len_app, len_app, len_app]
        have e : s.length = 3 := by rw [eq_of_beq h2] <;> rfl
        show 0 + 3 + 1 + (brk x 3).length + size r ≤ _
        omega
    | false =>
      cases st with
      | nil => exact Nat.zero_le _
      | cons y r =>
        cases r with
        | nil => exact Nat.zero_le _
        | cons x r =>
          have hx := len_brk x (rank s)
          have hy := len_brk y (rank s)
          show (binT s x y).1.length + size r ≤ y.1.length + (x.1.length + size r) + s.length + 6
          unfold binT
          rw [len_app, len_app, len_app, len_app, len_app, len_app]
          show 0 + (brk x (rank s)).length + 1 + (0 + s.length + 1 + (brk y (rank s)).length) + size r ≤ _
          omega
theorem size_fold : ∀ (l : List Str) (st : List (Str × Int)), size (l.foldl stepT st) ≤ size st + wt l
  | [], _ => Nat.le_refl _
  | s :: l, st => by
    have h1 := size_fold l (stepT st s)
    have h2 := size_step st s
    show size (l.foldl stepT (stepT st s)) ≤ size st + (s.length + 6 + wt l)
    omega
theorem wt_take (l : List Str) (i : Nat) : wt (l.take i) ≤ wt l := by
  have e : wt l = wt (l.take i) + wt (l.drop i) := by
    unfold wt
    rw [← List.sum_append, ← List.map_append, List.take_append_drop]
  omega
/-! ### the rows: top first -/
def RowsAt (G : Hp) : List V → List (Str × Int) → Prop
  | [], [] => True
  | x :: xs, y :: ys => (∃ a, x = .ref a ∧ G a = some (.tup [.str y.1, .int y.2])) ∧ RowsAt G xs ys
  | _, _ => False
theorem RowsAt.len {G : Hp} : ∀ {xs : List V} {ys : List (Str × Int)}, RowsAt G xs ys → xs.length = ys.length
  | [], [], _ => rfl
  | _ :: _, _ :: _, h => by rw [List.length_cons, List.length_cons, RowsAt.len h.2]
  | [], _ :: _, h => h.elim
  | _ :: _, [], h => h.elim
theorem RowsAt.same {G G' : Hp} (s : Same G G') : ∀ {xs : List V} {ys : List (Str × Int)}, RowsAt G xs ys → RowsAt G' xs ys
  | [], [], _ => trivial
  | _ :: _, _ :: _, ⟨⟨a, e, h⟩, r⟩ => ⟨⟨a, e, s _ _ h⟩, RowsAt.same s r⟩
  | [], _ :: _, h => h.elim
  | _ :: _, [], h => h.elim
theorem RowsAt.move {G G' : Hp} {l : Addr} {zs : List V} (hl : G l = some (.lst zs)) (k : ∀ b, b ≠ l → G' b = G b) : ∀ {xs : List V} {ys : List (Str × Int)}, RowsAt G xs ys → RowsAt G' xs ys
  | [], [], _ => trivial
  | _ :: _, _ :: _, ⟨⟨a, e, h⟩, r⟩ => ⟨⟨a, e, by
      have ne : a ≠ l := ne_of h hl (by intro z; cases z)
      rw [k a ne]
      exact h⟩, RowsAt.move hl k r⟩
  | [], _ :: _, h => h.elim
  | _ :: _, [], h => h.elim
theorem rd_popV {H0 G : Hp} {l : Addr} {x : V} {xs : List V} {Q : VK} (hl : H0 l = none) (sm : Same H0 G) (h : G l = some (.lst (x :: xs).reverse))
    (k : ∀ G', Same H0 G' → G' l = some (.lst xs.reverse) → (∀ b, b ≠ l → G' b = G b) → Q x G') : rPop (.ref l) [] G Q := by
  rw [List.reverse_cons] at h
  refine ⟨l, _, x, rfl, rfl, h, ?_, k _ ?_ ?_ fun b hb => upd_ne hb⟩
  · simp
  · intro b u hb
    rw [upd_ne (ne_of_none hb hl)]
    exact sm b u hb
  · rw [upd_same, List.dropLast_concat]
theorem rd_appV {H0 G : Hp} {l : Addr} {xs : List V} {y : V} {Qd : Hp → Prop} (hl : H0 l = none) (s : Same H0 G) (h : G l = some (.lst xs.reverse)) (z : xs.length < sizeLine)
    (k : ∀ G', Same H0 G' → G' l = some (.lst (y :: xs).reverse) → (∀ b, b ≠ l → G' b = G b) → Qd G') : rAppend (.ref l) [y] G (fun _ H => Qd H) := by
  refine ⟨l, _, _, rfl, rfl, h, by rw [List.length_reverse]; exact z, k _ ?_ ?_ fun b hb => upd_ne hb⟩
  · intro b u hb
    rw [upd_ne (ne_of_none hb hl)]
    exact s b u hb
  · rw [upd_same, List.reverse_cons]
theorem notin_val (z : Str) (l : List Str) : (if (true : Bool) = true then !inV (.str z) (l.map V.str) else inV (.str z) (l.map V.str)) = !(l.any fun y => y == z) := by
  rw [if_pos rfl, inV_strs]
theorem len_stepT {st : List (Str × Int)} {s : Str} (h : need s ≤ st.length) : (stepT st s).length = st.length + 1 - need s := by
  unfold need at h ⊢
  unfold stepT
  cases h1 : isOper s with
  | false => rfl
  | true =>
    rw [h1] at h
    cases h2 : s == ("not" : Str) with
    | true =>
      rw [h2] at h
      cases st with
      | nil => exact absurd h (by decide)
      | cons x r => show (negT x :: r).length = (x :: r).length + 1 - 1; simp
    | false =>
      rw [h2] at h
      cases st with
      | nil => exact absurd h (by decide)
      | cons y r =>
        cases r with
        | nil => exact absurd h (by show ¬ (2 ≤ 1); decide)
        | cons x r => show (binT s x y :: r).length = (y :: x :: r).length + 1 - 2; simp
section
variable {P : Program} {w : World} {K : PySem.W.Frag} {mg : Str → Option Value} {base : Heap} {f fB : Addr} {fd fdB : FuncData}
/-! ### bracketed -/
def spBrk (K : PySem.W.Frag) : Sp := fun vs H Q _ => ∃ (a : Addr) (x : Str × Int) (k : Int), vs = [.ref a, .int k] ∧ SqT K H a [.str x.1, .int x.2] ∧ x.1.length ≤ 16000000 ∧ ∀ G, Same H G → Q (.str (brk x k)) G
theorem sc_brk : FnScope ["row", "rank", "text", "own"] ["row", "rank"] (defScope (tp 20)) := ⟨rfl, rfl, rfl, by decide +kernel, rfl, by decide +kernel, by decide +kernel⟩
theorem ok_brk (F : FnT K "bracketed" 20 f fd) : FnOk P w K mg base CX0 1 f fd ["row", "rank"] (spBrk K) := by
  refine F.ok sc_brk (fun vs H Q E h => ?_) (fun cdv A outer s H vs Q E hr h => ⟨_, PSs.nox (pss_cons (ps_asg (pv 0) (pg_tup rfl (pgs_cons (pg_name (i := 2) sc_brk.nd rfl (Or.inl rfl)) (pgs_cons (pg_name (i := 3) sc_brk.nd rfl (Or.inl rfl)) pgs_nil))))
      (pss_one (ps_ret (pe_ifExp (pt_cmpR op_lt (pv 3) (pv 1) (nomark _)) (pe_joined (PJ.cons pe_str (PJ.cons (pe_fmt (pv 2)) (PJ.cons pe_str PJ.nil)))) (pv 2))))), ?_⟩)
  · obtain ⟨a, x, k, rfl, _⟩ := h
    rfl
  · obtain ⟨a, x, k, rfl, hs, hl, q⟩ := h
    have line : (16000010 : Nat) ≤ sizeLine := by decide
    refine ⟨_, rfl, a, _, rfl, hs, rfl, _, _, rfl, _, _, rfl, rfl, ?_⟩
    have w1 := q H (Same.refl H)
    unfold brk at w1
    refine ⟨_, rfl, _, rfl, _, _, rfl, rfl, _, rfl, ?_⟩
    cases c : decide (x.2 < k) with
    | false =>
      rw [c, if_neg Bool.false_ne_true] at w1
      exact iteF ⟨_, rfl, w1⟩
    | true =>
      rw [c, if_pos rfl] at w1
      refine iteT ⟨_, rfl, ?_, _, rfl, .inl ⟨x.1, rfl, by omega, x.1, rfl, ?_, _, rfl, ?_, w1⟩⟩
      · decide
      · rw [len_app, len_app]
        show 0 + 1 + x.1.length ≤ _
        omega
      · rw [len_app, len_app, len_app]
        show 0 + 1 + x.1.length + 1 ≤ _
        omega
/-! ### text_of -/
structure TTxt (K : PySem.W.Frag) (w : World) (mg : Str → Option Value) : Prop where
  c : CTxt K w mg
  rw : ∃ t, mg "RANK_OF_WORDS" = some (.int 4 t)
def spText (K : PySem.W.Frag) : Sp := fun vs H Q _ => ∃ (a : Addr) (t : Fm), vs = [.ref a] ∧ SqT K H a ((post t).map V.str) ∧ WF t ∧ wt (post t) ≤ 4000000 ∧ ∀ G, Same H G → Q (.str (trT t).1) G
theorem sc_text : FnScope ["code", "rows", "sign", "rank", "text"] ["code"] (defScope (tp 19)) := ⟨rfl, rfl, rfl, by decide +kernel, rfl, by decide +kernel, by decide +kernel⟩
theorem ok_text (F : FnT K "text_of" 19 f fd) (T : TTxt K w mg) (FB : FnT K "bracketed" 20 fB fdB) (gB : mg "bracketed" = some (.ref fB)) : FnOk P w K mg base CX0 2 f fd ["code"] (spText K) := by
  have GB : FnOk P w K mg base CX0 1 fB fdB ["row", "rank"] (spBrk K) := ok_brk FB
  have bB : L2.Binds K fdB ["row", "rank"] [] := FB.bindsN fun _ _ _ _ _ _ us hl => match us, hl with | [_, _], _ => rfl
  obtain ⟨aO, gO, hO⟩ := T.c.n.operators
  obtain ⟨aR, es, n, gR, DR, hR⟩ := T.c.ranks
  obtain ⟨tK, gK⟩ := T.rw
  refine F.ok sc_text (fun vs H Q E h => ?_) (fun cdv A outer s H vs Q E hr h => ⟨_, PSs.nox (pss_cons (ps_set (i := 1) sc_text.nd rfl (Or.inl rfl) (pe_lst pa_nil))
      (pss_cons (ps_for PassesOwn.never rfl (pi_tup (pv 0)) (pg_name (i := 2) sc_text.nd rfl (Or.inl rfl)) (pss_cons (ps_if (pt_cmpR op_notIn_seq (pv 2) (pe_glob (v := .ref aO) rfl gO rfl) (by rfl)) (pss_cons (ps_expr (pe_bm PySem.F.plainAttrs_list PySem.F.slot_list_append PySem.F.type_list_append mt_append (pv 1) (pa_cons (pe_tup (pa_cons (pv 2) (pa_cons (pe_glob (v := .int 4) rfl gK ⟨_, rfl⟩) pa_nil))) pa_nil)))
      (pss_one (ps_continue))) pss_nil)
      (pss_cons (ps_set (i := 3) sc_text.nd rfl (Or.inl rfl) (pe_ix (ix_kd DR) (pe_glob (v := .ref aR) rfl gR rfl) (pv 2) (fun _ _ => rfl)))
      (pss_cons (ps_set (i := 4) sc_text.nd rfl (Or.inl rfl) (pe_joined (PJ.cons (pe_fmt (pv 2)) (PJ.cons pe_str (PJ.cons (pe_fmt (pe_call GB hr rfl gB FB.kp bB .nil pass0 (pa_cons (pe_bm0 PySem.F.plainAttrs_list PySem.F.slot_list_pop PySem.F.type_list_pop mt_pop (pv 1)) (pa_cons (pv 3) pa_nil)))) PJ.nil)))))
      (pss_cons (ps_if (pt_cmpR op_ne (pv 2) pe_str (nomark _)) (pss_one (ps_set (i := 4) sc_text.nd rfl (Or.inl rfl) (pe_joined (PJ.cons (pe_fmt (pe_call GB hr rfl gB FB.kp bB .nil pass0 (pa_cons (pe_bm0 PySem.F.plainAttrs_list PySem.F.slot_list_pop PySem.F.type_list_pop mt_pop (pv 1)) (pa_cons (pv 3) pa_nil)))) (PJ.cons pe_str (PJ.cons (pe_fmt (pv 4)) PJ.nil)))))) pss_nil)
      (pss_one (ps_expr (pe_bm PySem.F.plainAttrs_list PySem.F.slot_list_append PySem.F.type_list_append mt_append (pv 1) (pa_cons (pe_tup (pa_cons (pv 4) (pa_cons (pv 3) pa_nil))) pa_nil)))))))))
      (pss_one (ps_ret (pe_ix ix_tup (pe_ix ix_list (pv 1) pe_int (fun _ _ => rfl)) pe_int (fun _ _ => rfl)))))), ?_⟩)
  · obtain ⟨a, t, rfl, _⟩ := h
    rfl
  · obtain ⟨a, t, rfl, hs, wf, hw, q⟩ := h
    have line : (16000010 : Nat) ≤ sizeLine := by decide
    have hf := fits_post t wf
    have hfold := fold_post t [] wf
    generalize post t = code at hs hw hf hfold
    refine ⟨Nat.zero_le _, fun rw_ hrw => ?_⟩
    have s0 := same_new hrw (u := .lst [])
    have seqT : ∀ G, Same H G → SqT K G a (code.map V.str) := fun G sm => by
      rcases hs with (h | ⟨o, h⟩) | h
      · exact .inl (.inl (sm _ _ h))
      · exact .inl (.inr ⟨o, sm _ _ h⟩)
      · exact .inr h
    refine ⟨_, rfl, a, rfl, ⟨_, seqT _ s0⟩, for_tup (K := K) (a := a) (xs := code.map V.str)
      (fun i σ G => ∃ st xs o2 o3 o4, st = (code.take i).foldl stepT [] ∧ σ = [some (.ref a), some (.ref rw_), o2, o3, o4] ∧ Same H G ∧ G rw_ = some (.lst (List.reverse xs)) ∧ RowsAt G xs st ∧ Fits (code.drop i) st.length)
      ⟨[], [], none, none, none, rfl, rfl, s0, upd_same, trivial, hf⟩ (fun i σ G _ h => by
        obtain ⟨_, _, _, _, _, _, _, h, _⟩ := h
        exact seqT G h) ?_ ?_⟩
    · rintro i x σ G hi ⟨st, xs, o2, o3, o4, hst, rfl, s1, gr, rows, fits⟩
      obtain ⟨s, hsi, rfl⟩ : ∃ s, code[i]? = some s ∧ x = V.str s := by
        rw [List.getElem?_map] at hi
        cases e : code[i]? with
        | none =>
          rw [e] at hi
          cases hi
        | some s =>
          rw [e] at hi
          exact ⟨s, rfl, (Option.some.inj hi).symm⟩
      have hlt := (List.getElem?_eq_some_iff.mp hsi).1
      have edrop : code.drop i = s :: code.drop (i + 1) := by
        rw [List.drop_eq_getElem_cons hlt, (List.getElem?_eq_some_iff.mp hsi).2]
      rw [edrop] at fits
      obtain ⟨f1, f2⟩ := fits
      have hnext : (code.take (i + 1)).foldl stepT [] = stepT st s := by
        rw [take_snoc hsi, List.foldl_append, ← hst] <;> rfl
      have hsize : size st ≤ 4000000 := by
        have w1 := size_fold (code.take i) []
        rw [← hst] at w1
        have w2 := wt_take code i
        have w3 : size [] = 0 := rfl
        omega
      have hslen : s.length ≤ 4000000 := by
        have w2 := wt_take code (i + 1)
        rw [take_snoc hsi] at w2
        have w3 : wt (code.take i ++ [s]) = wt (code.take i) + (s.length + 6) := by
          unfold wt
          rw [List.map_append, List.sum_append] <;> rfl
        omega
      have hxl := rows.len
      have hstl : st.length ≤ code.length := by
        have key : ∀ (l : List Str) (q : List (Str × Int)), (l.foldl stepT q).length ≤ q.length + l.length := by
          intro l
          induction l with
          | nil => intro q; exact Nat.le_refl _
          | cons y l ih =>
            intro q
            have w1 := ih (stepT q y)
            have w2 : (stepT q y).length ≤ q.length + 1 := by
              unfold stepT
              split
              · split
                · split <;> simp
                · split <;> simp
              · simp
            show (l.foldl stepT (stepT q y)).length ≤ q.length + (l.length + 1)
            omega
        have w1 := key (code.take i) []
        rw [← hst] at w1
        have w2 := List.length_take_le i code
        simp only [List.length_nil] at w1
        have w3 := List.length_take_le' i code
        omega
      have hcl : code.length ≤ 4000000 := by
        have key : ∀ l : List Str, l.length ≤ wt l := by
          intro l
          induction l with
          | nil => exact Nat.le_refl _
          | cons y l ih =>
            show l.length + 1 ≤ y.length + 6 + wt l
            omega
        have w1 := key code
        omega
      have f3 : Fits (code.drop (i + 1)) (stepT st s).length := by
        rw [len_stepT f1]
        exact f2
      have done : ∀ (G' : Hp) (p : V) (zs : List V) (o3 o4 : Option V), Same H G' → G' rw_ = some (.lst (List.reverse zs)) → RowsAt G' zs (stepT st s) →
          ∃ st xs o2 o3' o4', st = (code.take (i + 1)).foldl stepT [] ∧ [some (.ref a), some (.ref rw_), some (.str s), o3, o4] = [some (V.ref a), some (.ref rw_), o2, o3', o4'] ∧ Same H G' ∧ G' rw_ = some (.lst (List.reverse xs)) ∧ RowsAt G' xs st ∧ Fits (code.drop (i + 1)) st.length := by
        intro G' p zs o3 o4 h1 h2 h3
        exact ⟨stepT st s, zs, _, _, _, hnext.symm, rfl, h1, h2, h3, f3⟩
      refine ⟨_, rfl, aO, operators.map V.str, rfl, .inr (hO _), rfl, flat_strs _, _, rfl, ?_⟩
      rw [notin_val]
      cases c1 : operators.any fun y => y == s with
      | false =>
        have est : stepT st s = (s, 4) :: st := by
          unfold stepT
          rw [show isOper s = false from c1] <;> rfl
        refine iteT ⟨_, rfl, .inl ⟨rfl, _, SqL.of gr⟩, _, rfl, (by show 2 ≤ sizeLine; decide), fun p hp => ?_⟩
        refine rd_appV hrw (s1.trans (same_new hp)) (same_new hp _ _ gr) (by omega) fun G' h1 h2 h3 => ?_
        refine done G' (.ref p) _ _ _ h1 h2 ?_
        rw [est]
        refine ⟨⟨p, rfl, ?_⟩, (rows.same (same_new hp)).move (same_new hp _ _ gr) h3⟩
        have ne : p ≠ rw_ := fun e => by rw [e, gr] at hp; cases hp
        rw [h3 p ne, upd_same]
      | true =>
        obtain ⟨tS, nS⟩ := hR s (ops_isOp c1)
        refine iteF ⟨_, rfl, s, _, .int (rank s), rfl, rfl, nS, ⟨_, rfl⟩, ?_⟩
        have need1 : 1 ≤ st.length := by
          unfold need at f1
          rw [show isOper s = true from c1] at f1
          cases h2 : s == ("not" : Str) with
          | true => rw [h2] at f1; exact f1
          | false => rw [h2] at f1; exact Nat.le_trans (by decide) f1
        obtain ⟨y, ys, rfl⟩ : ∃ y ys, st = y :: ys := by
          cases st with
          | nil => exact absurd need1 (by decide)
          | cons y ys => exact ⟨y, ys, rfl⟩
        cases xs with
        | nil => exact rows.elim
        | cons x1 xs1 =>
          obtain ⟨⟨a1, rfl, ha1⟩, rows1⟩ := rows
          have lb := len_brk y (rank s)
          have sy : y.1.length + size ys ≤ 4000000 := hsize
          refine ⟨_, rfl, .inl ⟨s, rfl, by omega, s, rfl, by rw [len_app]; show 0 + s.length ≤ _; omega, _, rfl, by rw [len_app, len_app]; show 0 + s.length + 1 ≤ _; omega, ?_⟩⟩
          refine ⟨_, rfl, .inl ⟨rfl, _, SqL.of gr⟩, rd_popV hrw s1 gr fun G1 h1 h2 h3 => ?_⟩
          have ga1 : G1 a1 = some (.tup [.str y.1, .int y.2]) := by
            rw [h3 a1 (ne_of ha1 gr (by intro z; cases z))]
            exact ha1
          refine ⟨_, rfl, a1, y, rank s, rfl, SqT.of ga1, by omega, fun G2 s2 => .inl ⟨_, rfl, by omega, _, rfl, by rw [len_app, len_app, len_app]; show 0 + s.length + 1 + (brk y (rank s)).length ≤ _; omega, ?_⟩⟩
          have rows2 := (rows1.move gr h3).same s2
          have gr2 := s2 _ _ h2
          have s12 := h1.trans s2
          refine ⟨_, rfl, rfl, _, rfl, ?_⟩
          rw [dec_str]
          have finish : ∀ (T : Str) (zs : List V) (ys2 : List (Str × Int)) (G3 : Hp), Same H G3 → G3 rw_ = some (.lst (List.reverse zs)) → RowsAt G3 zs ys2 → zs.length ≤ 4000000 → stepT (y :: ys) s = (T, rank s) :: ys2 →
              ∀ p, G3 p = none → rAppend (.ref rw_) [.ref p] (upd G3 p (.tup [.str T, .int (rank s)])) (fun _ G' => ∃ st xs o2 o3' o4', st = (code.take (i + 1)).foldl stepT [] ∧ [some (.ref a), some (.ref rw_), some (.str s), some (.int (rank s)), some (.str T)] = [some (V.ref a), some (.ref rw_), o2, o3', o4'] ∧ Same H G' ∧ G' rw_ = some (.lst (List.reverse xs)) ∧ RowsAt G' xs st ∧ Fits (code.drop (i + 1)) st.length) := by
            intro T zs ys2 G3 k1 k2 k3 k4 k5 p hp
            refine rd_appV hrw (k1.trans (same_new hp)) (same_new hp _ _ k2) (by omega) fun G' h1 h2 h3 => ?_
            refine done G' (.ref p) _ _ _ h1 h2 ?_
            rw [k5]
            refine ⟨⟨p, rfl, ?_⟩, (k3.same (same_new hp)).move (same_new hp _ _ k2) h3⟩
            have ne : p ≠ rw_ := fun e => by rw [e, k2] at hp; cases hp
            rw [h3 p ne, upd_same]
          cases c2 : (s == ("not" : Str)) with
          | true =>
            have es : s = "not" := eq_of_beq c2
            have est : stepT (y :: ys) s = (Str.empty ++ s ++ (" " : Str) ++ brk y (rank s), rank s) :: ys := by
              rw [es] <;> rfl
            refine iteF ⟨_, rfl, .inl ⟨rfl, _, SqL.of gr2⟩, _, rfl, _, rfl, (by show 2 ≤ sizeLine; decide), fun p hp => ?_⟩
            have l1 := rows2.len
            exact finish _ _ _ _ s12 gr2 rows2 (by rw [List.length_cons] at hstl; omega) est p hp
          | false =>
            have need2 : 1 ≤ ys.length := by
              unfold need at f1
              rw [show isOper s = true from c1, c2] at f1
              have : 2 ≤ ys.length + 1 := f1
              omega
            obtain ⟨x, r, rfl⟩ : ∃ x r, ys = x :: r := by
              cases ys with
              | nil => exact absurd need2 (by decide)
              | cons y ys => exact ⟨y, ys, rfl⟩
            have est : stepT (y :: x :: r) s = (Str.empty ++ brk x (rank s) ++ (" " : Str) ++ (Str.empty ++ s ++ (" " : Str) ++ brk y (rank s)), rank s) :: r := by
              unfold stepT
              rw [show isOper s = true from c1, c2] <;> rfl
            cases xs1 with
            | nil => exact rows2.elim
            | cons x2 xs2 =>
              obtain ⟨⟨a2, rfl, ha2⟩, rows3⟩ := rows2
              have lb2 := len_brk x (rank s)
              have sy2 : y.1.length + (x.1.length + size r) ≤ 4000000 := hsize
              refine iteT ?_
              refine ⟨_, rfl, .inl ⟨rfl, _, SqL.of gr2⟩, rd_popV hrw s12 gr2 fun G3 h4 h5 h6 => ?_⟩
              have ga2 : G3 a2 = some (.tup [.str x.1, .int x.2]) := by
                rw [h6 a2 (ne_of ha2 gr2 (by intro z; cases z))]
                exact ha2
              have lt : (Str.empty ++ s ++ (" " : Str) ++ brk y (rank s)).length = s.length + 1 + (brk y (rank s)).length := by
                rw [len_app, len_app, len_app]
                show 0 + s.length + 1 + _ = _
                omega
              have lx : (Str.empty ++ brk x (rank s)).length = (brk x (rank s)).length := by
                rw [len_app]
                show 0 + _ = _
                omega
              refine ⟨_, rfl, a2, x, rank s, rfl, SqT.of ga2, by omega, fun G4 s4 => .inl ⟨_, rfl, by omega, _, rfl, by rw [lx]; omega, _, rfl, by rw [len_app, lx]; show (brk x (rank s)).length + 1 ≤ _; omega, ?_⟩⟩
              refine ⟨_, rfl, .inl ⟨_, rfl, by rw [lt]; omega, _, rfl, by rw [len_app, len_app, lx, lt]; show (brk x (rank s)).length + 1 + _ ≤ _; omega, ?_⟩⟩
              have rows4 := (rows3.move gr2 h6).same s4
              have gr4 := s4 _ _ h5
              refine ⟨_, rfl, .inl ⟨rfl, _, SqL.of gr4⟩, _, rfl, _, rfl, (by show 2 ≤ sizeLine; decide), fun p hp => ?_⟩
              have l1 := rows4.len
              exact finish _ _ _ _ (h4.trans s4) gr4 rows4 (by rw [List.length_cons, List.length_cons] at hstl; omega) est p hp
    · rintro σ G ⟨st, xs, o2, o3, o4, hst, rfl, s1, gr, rows, fits⟩
      rw [List.length_map, List.take_length, hfold] at hst
      subst hst
      cases xs with
      | nil => exact rows.elim
      | cons x xs =>
        cases xs with
        | cons y ys => exact rows.2.elim
        | nil =>
          obtain ⟨⟨p, rfl, hp⟩, _⟩ := rows
          refine ⟨_, rfl, rw_, _, 0, .ref p, rfl, rfl, SqL.of gr, rfl, p, _, 0, .str (trT t).1, rfl, rfl, SqT.of hp, rfl, q G s1⟩
end
end Fx
set_option maxHeartbeats 2000000
namespace Fx
open PySem PySem.Spec PyProof.Rows L2 TL

/-! ### Formula objects -/
/-- at a: a Formula whose code is l -/
def FmAt (H : Hp) (C a : Addr) (l : List Str) : Prop := ∃ dx p, H a = some (.ins C dx [("code", .ref p)]) ∧ H p = some (.tup (l.map V.str))
theorem FmAt.same {H G : Hp} {C a : Addr} {l : List Str} (s : Same H G) (h : FmAt H C a l) : FmAt G C a l := by
  obtain ⟨dx, p, h1, h2⟩ := h
  exact ⟨dx, p, s _ _ h1, s _ _ h2⟩
structure FCls (K : PySem.W.Frag) (C : Addr) : Prop where
  cl : Cls K C
  nc : NoAttr K C "code"
/-! ### words_of -/
def isConst (s : Str) : Bool := constants.any fun y => y == s
def addWord (acc : List Str) (s : Str) : List Str := if !isOper s && (!isConst s && !(acc.any fun y => y == s)) then acc ++ [s] else acc
def wordsOf (l : List Str) : List Str := l.foldl addWord []
theorem words_len : ∀ (l acc : List Str), (l.foldl addWord acc).length ≤ acc.length + l.length
  | [], _ => Nat.le_refl _
  | s :: l, acc => by
    have h1 := words_len l (addWord acc s)
    have h2 : (addWord acc s).length ≤ acc.length + 1 := by
      unfold addWord
      split
      · rw [List.length_append, List.length_singleton]
        exact Nat.le_refl _
      · omega
    show (l.foldl addWord (addWord acc s)).length ≤ acc.length + (l.length + 1)
    omega
def FmsAt (H : Hp) (C : Addr) : List V → List (List Str) → Prop
  | [], [] => True
  | x :: xs, l :: ls => (∃ a, x = .ref a ∧ FmAt H C a l) ∧ FmsAt H C xs ls
  | _, _ => False
theorem FmsAt.same {H G : Hp} {C : Addr} (s : Same H G) : ∀ {xs : List V} {ls : List (List Str)}, FmsAt H C xs ls → FmsAt G C xs ls
  | [], [], _ => trivial
  | _ :: _, _ :: _, ⟨⟨a, e, h⟩, r⟩ => ⟨⟨a, e, h.same s⟩, FmsAt.same s r⟩
  | [], _ :: _, h => h.elim
  | _ :: _, [], h => h.elim
theorem FmsAt.at {H : Hp} {C : Addr} : ∀ {xs : List V} {ls : List (List Str)} {i : Nat} {x : V}, FmsAt H C xs ls → xs[i]? = some x → ∃ a l, x = .ref a ∧ ls[i]? = some l ∧ FmAt H C a l
  | [], _, _, _, _, e => by simp at e
  | x :: xs, l :: ls, 0, y, ⟨⟨a, e1, h⟩, _⟩, e => by
    have e2 : x = y := by simpa using e
    subst e2
    exact ⟨a, l, e1, rfl, h⟩
  | x :: xs, l :: ls, i + 1, y, ⟨_, r⟩, e => by
    have e2 : xs[i]? = some y := by simpa using e
    obtain ⟨a, m, h1, h2, h3⟩ := FmsAt.at r e2
    exact ⟨a, m, h1, by simpa using h2, h3⟩
  | _ :: _, [], _, _, h, _ => h.elim
theorem FmsAt.len {H : Hp} {C : Addr} : ∀ {xs : List V} {ls : List (List Str)}, FmsAt H C xs ls → xs.length = ls.length
  | [], [], _ => rfl
  | _ :: _, _ :: _, h => by rw [List.length_cons, List.length_cons, FmsAt.len h.2]
  | [], _ :: _, h => h.elim
  | _ :: _, [], h => h.elim
section
variable {P : Program} {w : World} {K : PySem.W.Frag} {mg : Str → Option Value} {base : Heap} {f C : Addr} {fd : FuncData}
def spWords (K : PySem.W.Frag) (C : Addr) : Sp := fun vs H Q _ => ∃ (a : Addr) (xs : List V) (ls : List (List Str)), vs = [.ref a] ∧ SqL K H a xs ∧ FmsAt H C xs ls ∧ ls.flatten.length ≤ 4000000 ∧
  ∀ p G, Same H G → H p = none → G p = some (.lst ((wordsOf ls.flatten).map V.str)) → Q (.ref p) G
theorem sc_words : FnScope ["formulas", "words", "formula", "sign"] ["formulas"] (defScope (tp 21)) := ⟨rfl, rfl, rfl, by decide +kernel, rfl, by decide +kernel, by decide +kernel⟩
theorem ok_words (F : FnT K "words_of" 21 f fd) (T : NTxt K mg) (X : FCls K C) : FnOk P w K mg base CX0 1 f fd ["formulas"] (spWords K C) := by
  obtain ⟨aO, gO, hO⟩ := T.operators
  obtain ⟨aC, gC, hC⟩ := T.constants
  refine F.ok sc_words (fun vs H Q E h => ?_) (fun cdv A outer s H vs Q E hr h => ⟨_, PSs.nox (pss_cons (ps_set (i := 1) sc_words.nd rfl (Or.inl rfl) (pe_lst pa_nil))
      (pss_cons (ps_for PassesOwn.never rfl (pi_list (pv 0)) (pg_name (i := 2) sc_words.nd rfl (Or.inl rfl)) (pss_one (ps_for PassesOwn.never rfl (pi_tup (pe_fld (pv 2) rfl)) (pg_name (i := 3) sc_words.nd rfl (Or.inl rfl)) (pss_one (ps_if (PW.pt (pw_and (pt_cmpR op_notIn_seq (pv 3) (pe_glob (v := .ref aO) rfl gO rfl) (by rfl)) (pw_and (pt_cmpR op_notIn_seq (pv 3) (pe_glob (v := .ref aC) rfl gC rfl) (by rfl)) (pw_and1 (pt_cmpR op_notIn_seq (pv 3) (pv 1) (by rfl)))))) (pss_one (ps_expr (pe_bm PySem.F.plainAttrs_list PySem.F.slot_list_append PySem.F.type_list_append mt_append (pv 1) (pa_cons (pv 3) pa_nil)))) pss_nil)))))
      (pss_one (ps_ret (pv 1))))), ?_⟩)
  · obtain ⟨a, xs, ls, rfl, _⟩ := h
    rfl
  · obtain ⟨a, xs, ls, rfl, hs, fms, hln, q⟩ := h
    have line : (4000010 : Nat) ≤ sizeLine := by decide
    refine ⟨Nat.zero_le _, fun wd hwd => ?_⟩
    have s0 := same_new hwd (u := .lst [])
    refine ⟨_, rfl, a, rfl, ⟨_, s0.seq hs⟩, for_list (K := K) (a := a) (xs := xs)
      (fun i σ G => ∃ o2 o3, σ = [some (.ref a), some (.ref wd), o2, o3] ∧ Same H G ∧ G wd = some (.lst (((ls.take i).flatten.foldl addWord []).map V.str)))
      ⟨none, none, rfl, s0, upd_same⟩ (fun i σ G _ h => by
        obtain ⟨_, _, _, h, _⟩ := h
        exact h.seq hs) ?_ (fun σ G h => by
        obtain ⟨o2, o3, rfl, s1, g⟩ := h
        rw [fms.len, List.take_length] at g
        exact ⟨_, rfl, q _ _ s1 hwd g⟩)⟩
    rintro i x σ G hi ⟨o2, o3, rfl, s1, g⟩
    obtain ⟨b, l, rfl, hl, fm⟩ := fms.at hi
    obtain ⟨dx, p, i1, i2⟩ := fm.same s1
    have et : (ls.take (i + 1)).flatten = (ls.take i).flatten ++ l := by
      rw [take_snoc hl, List.flatten_append, List.flatten_cons, List.flatten_nil, List.append_nil]
    have hbase : (ls.take i).flatten.length + l.length ≤ 4000000 := by
      have w1 : (ls.take (i + 1)).flatten.length ≤ ls.flatten.length := by
        have e2 : ls.flatten = (ls.take (i + 1)).flatten ++ (ls.drop (i + 1)).flatten := by
          rw [← List.flatten_append, List.take_append_drop]
        rw [e2, List.length_append]
        omega
      rw [et, List.length_append] at w1
      omega
    refine ⟨_, rfl, b, C, dx, _, _, rfl, i1, X.cl, X.nc, rfl, p, rfl, ⟨_, SqT.of i2⟩, for_tup (K := K) (a := p) (xs := l.map V.str)
      (fun j σ G' => ∃ o3, σ = [some (.ref a), some (.ref wd), some (.ref b), o3] ∧ Same H G' ∧ G' p = some (.tup (l.map V.str)) ∧ G' wd = some (.lst (((l.take j).foldl addWord ((ls.take i).flatten.foldl addWord [])).map V.str)))
      ⟨o3, rfl, s1, i2, g⟩ (fun j σ G' _ h => by
        obtain ⟨_, _, _, h, _⟩ := h
        exact SqT.of h) ?_ (fun σ G' h => by
        obtain ⟨o3, rfl, s2, _, g2⟩ := h
        rw [List.length_map, List.take_length] at g2
        exact ⟨_, _, rfl, s2, by rw [et, List.foldl_append]; exact g2⟩)⟩
    rintro j x σ G' hj ⟨o3, rfl, s2, hp, g2⟩
    obtain ⟨s, hsj, rfl⟩ : ∃ s, l[j]? = some s ∧ x = V.str s := by
      rw [List.getElem?_map] at hj
      cases e : l[j]? with
      | none =>
        rw [e] at hj
        cases hj
      | some s =>
        rw [e] at hj
        exact ⟨s, rfl, (Option.some.inj hj).symm⟩
    have en : (l.take (j + 1)).foldl addWord ((ls.take i).flatten.foldl addWord []) = addWord ((l.take j).foldl addWord ((ls.take i).flatten.foldl addWord [])) s := by
      rw [take_snoc hsj, List.foldl_append] <;> rfl
    have hacc : ((l.take j).foldl addWord ((ls.take i).flatten.foldl addWord [])).length ≤ 4000000 := by
      have w1 := words_len (l.take j) ((ls.take i).flatten.foldl addWord [])
      have w2 := words_len (ls.take i).flatten []
      have w3 := List.length_take_le' j l
      simp only [List.length_nil] at w2
      omega
    rw [en]
    generalize (l.take j).foldl addWord ((ls.take i).flatten.foldl addWord []) = acc at g2 hacc ⊢
    have keep : addWord acc s = acc → ∃ o3, [some (.ref a), some (.ref wd), some (.ref b), some (.str s)] = [some (V.ref a), some (.ref wd), some (.ref b), o3] ∧ Same H G' ∧ G' p = some (.tup (l.map V.str)) ∧ G' wd = some (.lst ((addWord acc s).map V.str)) := fun e => ⟨_, rfl, s2, hp, by rw [e]; exact g2⟩
    refine ⟨_, rfl, aO, operators.map V.str, rfl, .inr (hO _), rfl, flat_strs _, _, rfl, ?_⟩
    rw [notin_val]
    cases c1 : operators.any fun y => y == s with
    | true => exact iteF (iteF (keep (by unfold addWord; rw [show isOper s = true from c1] <;> rfl)))
    | false =>
      refine iteT ⟨_, rfl, aC, constants.map V.str, rfl, .inr (hC _), rfl, flat_strs _, _, rfl, ?_⟩
      rw [notin_val]
      cases c2 : constants.any fun y => y == s with
      | true => exact iteF (iteF (keep (by unfold addWord; rw [show isOper s = false from c1, show isConst s = true from c2] <;> rfl)))
      | false =>
        refine iteT ⟨_, rfl, _, rfl, wd, acc.map V.str, rfl, .inl (SqL.of g2), rfl, flat_strs _, _, rfl, ?_⟩
        rw [notin_val]
        cases c3 : acc.any fun y => y == s with
        | true => exact iteF (keep (by unfold addWord; rw [show isOper s = false from c1, show isConst s = false from c2, c3] <;> rfl))
        | false =>
          have e : addWord acc s = acc ++ [s] := by
            unfold addWord
            rw [show isOper s = false from c1, show isConst s = false from c2, c3] <;> rfl
          refine iteT ⟨_, rfl, .inl ⟨rfl, _, SqL.of g2⟩, _, rfl, rd_appS (xs := acc) hwd s2 g2 (by omega) fun G3 h1 h2 h3 => ⟨_, rfl, h1, ?_, ?_⟩⟩
          · rw [h3 p (ne_of hp g2 (by intro z; cases z))]
            exact hp
          · rw [e]
            exact h2
/-! ### worth -/
def evalT (col : Str → Int) (full : Int) : Fm → Int
  | .leaf s => if isConst s then (if s == "all" then full else 0) else col s
  | .neg t => Builtin.bitXor full (evalT col full t)
  | .bin s a b => if s == "and" then Builtin.bitAnd (evalT col full b) (evalT col full a) else Builtin.bitOr (evalT col full b) (evalT col full a)
def stepW (col : Str → Int) (full : Int) (st : List Int) (s : Str) : List Int :=
  if s == "not" then (match st with | x :: r => Builtin.bitXor full x :: r | [] => [])
  else if s == "and" then (match st with | y :: x :: r => Builtin.bitAnd y x :: r | _ => [])
  else if s == "or" then (match st with | y :: x :: r => Builtin.bitOr y x :: r | _ => [])
  else (if isConst s then (if s == "all" then full else 0) else col s) :: st
theorem oper_cases (s : Str) : isOper s = (s == "and" || (s == "or" || s == "not")) := by
  have sw : ∀ a b : Str, (a == b) = (b == a) := fun a b => by
    by_cases e : a = b
    · rw [e]
    · rw [beq_eq_false_iff_ne.mpr e, beq_eq_false_iff_ne.mpr (Ne.symm e)]
  show (("and" : Str) == s || (("or" : Str) == s || (("not" : Str) == s || false))) = _
  rw [sw s, sw s, sw s, Bool.or_false]
theorem fold_worth (col : Str → Int) (full : Int) : ∀ (t : Fm) (st : List Int), WF t → (post t).foldl (stepW col full) st = evalT col full t :: st
  | .leaf s, st, h => by
    have h2 := oper_cases s
    rw [show isOper s = false from h] at h2
    have h3 := h2.symm
    simp only [Bool.or_eq_false_iff] at h3
    obtain ⟨a, b, c⟩ := h3
    show stepW col full st s = _
    unfold stepW
    rw [a, b, c] <;> rfl
  | .neg t, st, h => by
    show (post t ++ [("not" : Str)]).foldl (stepW col full) st = _
    rw [List.foldl_append, fold_worth col full t st h] <;> rfl
  | .bin s a b, st, h => by
    obtain ⟨hs, ha, hb⟩ := h
    show (post a ++ post b ++ [s]).foldl (stepW col full) st = _
    rw [List.foldl_append, List.foldl_append, fold_worth col full a st ha, fold_worth col full b _ hb]
    rcases hs with rfl | rfl <;> rfl
theorem len_stepW {col : Str → Int} {full : Int} {st : List Int} {s : Str} (h : need s ≤ st.length) : (stepW col full st s).length = st.length + 1 - need s := by
  unfold need at h ⊢
  rw [oper_cases] at h ⊢
  unfold stepW
  cases h1 : s == ("not" : Str) with
  | true =>
    rw [h1] at h
    simp only [Bool.or_true, if_true] at h ⊢
    cases st with
    | nil => exact absurd h (by show ¬ (1 ≤ 0); decide)
    | cons x r => show (r.length + 1) = r.length + 1 + 1 - 1; omega
  | false =>
    rw [h1] at h
    cases h2 : s == ("and" : Str) with
    | true =>
      rw [h2] at h
      cases st with
      | nil => exact absurd h (by show ¬ (2 ≤ 0); decide)
      | cons y r =>
        cases r with
        | nil => exact absurd h (by show ¬ (2 ≤ 1); decide)
        | cons x r => show (r.length + 1) = r.length + 1 + 1 + 1 - 2; omega
    | false =>
      rw [h2] at h
      cases h3 : s == ("or" : Str) with
      | true =>
        rw [h3] at h
        cases st with
        | nil => exact absurd h (by show ¬ (2 ≤ 0); decide)
        | cons y r =>
          cases r with
          | nil => exact absurd h (by show ¬ (2 ≤ 1); decide)
          | cons x r => show (r.length + 1) = r.length + 1 + 1 + 1 - 2; omega
      | false => rfl
theorem need_le {s : Str} : need s ≤ 2 := by
  unfold need
  split
  · split <;> decide
  · decide
theorem sc_worth : FnScope ["code", "columns", "full", "rows", "sign"] ["code", "columns", "full"] (defScope (tp 22)) := ⟨rfl, rfl, rfl, by decide +kernel, rfl, by decide +kernel, by decide +kernel⟩
def spWorth (K : PySem.W.Frag) : Sp := fun vs H Q _ => ∃ (a d : Addr) (full : Int) (t : Fm) (kvs : List (Key × V)) (col : Str → Int), vs = [.ref a, .ref d, .int full] ∧ SqT K H a ((post t).map V.str) ∧ WF t ∧ (post t).length ≤ 4000000 ∧
  H d = some (.dK kvs) ∧ (∀ s ∈ post t, isOper s = false → isConst s = false → valV kvs (Sum.inr s) = some (.int (col s))) ∧ ∀ G, Same H G → Q (.int (evalT col full t)) G
theorem ok_worth (F : FnT K "worth" 22 f fd) (T : NTxt K mg) : FnOk P w K mg base CX0 1 f fd ["code", "columns", "full"] (spWorth K) := by
  obtain ⟨aC, gC, hC⟩ := T.constants
  refine F.ok sc_worth (fun vs H Q E h => ?_) (fun cdv A outer s H vs Q E hr h => ⟨_, PSs.nox (pss_cons (ps_set (i := 3) sc_worth.nd rfl (Or.inl rfl) (pe_lst pa_nil))
      (pss_cons (ps_for PassesOwn.never rfl (pi_tup (pv 0)) (pg_name (i := 4) sc_worth.nd rfl (Or.inl rfl)) (pss_one (ps_if (pt_cmpR op_eq (pv 4) pe_str (nomark _)) (pss_one (ps_expr (pe_bm PySem.F.plainAttrs_list PySem.F.slot_list_append PySem.F.type_list_append mt_append (pv 3) (pa_cons (pe_op op_xor (pv 2) (pe_bm0 PySem.F.plainAttrs_list PySem.F.slot_list_pop PySem.F.type_list_pop mt_pop (pv 3))) pa_nil)))) (pss_one (ps_if (pt_cmpR op_eq (pv 4) pe_str (nomark _)) (pss_one (ps_expr (pe_bm PySem.F.plainAttrs_list PySem.F.slot_list_append PySem.F.type_list_append mt_append (pv 3) (pa_cons (pe_op op_and (pe_bm0 PySem.F.plainAttrs_list PySem.F.slot_list_pop PySem.F.type_list_pop mt_pop (pv 3)) (pe_bm0 PySem.F.plainAttrs_list PySem.F.slot_list_pop PySem.F.type_list_pop mt_pop (pv 3))) pa_nil)))) (pss_one (ps_if (pt_cmpR op_eq (pv 4) pe_str (nomark _)) (pss_one (ps_expr (pe_bm PySem.F.plainAttrs_list PySem.F.slot_list_append PySem.F.type_list_append mt_append (pv 3) (pa_cons (pe_op op_or (pe_bm0 PySem.F.plainAttrs_list PySem.F.slot_list_pop PySem.F.type_list_pop mt_pop (pv 3)) (pe_bm0 PySem.F.plainAttrs_list PySem.F.slot_list_pop PySem.F.type_list_pop mt_pop (pv 3))) pa_nil)))) (pss_one (ps_if (pt_cmpR op_in_seq (pv 4) (pe_glob (v := .ref aC) rfl gC rfl) (by rfl)) (pss_one (ps_expr (pe_bm PySem.F.plainAttrs_list PySem.F.slot_list_append PySem.F.type_list_append mt_append (pv 3) (pa_cons (pe_ifExp (pt_cmpR op_eq (pv 4) pe_str (nomark _)) (pv 2) pe_int) pa_nil)))) (pss_one (ps_expr (pe_bm PySem.F.plainAttrs_list PySem.F.slot_list_append PySem.F.type_list_append mt_append (pv 3) (pa_cons (pe_dget (hu_of hr) (pv 1) (pv 4) (fun _ _ => rfl)) pa_nil)))))))))))))
      (pss_one (ps_ret (pe_ix ix_list (pv 3) pe_int (fun _ _ => rfl)))))), ?_⟩)
  · obtain ⟨a, d, full, t, kvs, col, rfl, _⟩ := h
    rfl
  · obtain ⟨a, d, full, t, kvs, col, rfl, hs, wf, hw, hd, hcol, q⟩ := h
    have line : (4000010 : Nat) ≤ sizeLine := by decide
    have hf := fits_post t wf
    have hfold := fold_worth col full t [] wf
    generalize post t = code at hs hw hf hfold hcol
    refine ⟨Nat.zero_le _, fun rw_ hrw => ?_⟩
    have s0 := same_new hrw (u := .lst [])
    have seqT : ∀ G, Same H G → SqT K G a (code.map V.str) := fun G sm => by
      rcases hs with (h | ⟨o, h⟩) | h
      · exact .inl (.inl (sm _ _ h))
      · exact .inl (.inr ⟨o, sm _ _ h⟩)
      · exact .inr h
    refine ⟨_, rfl, a, rfl, ⟨_, seqT _ s0⟩, for_tup (K := K) (a := a) (xs := code.map V.str)
      (fun i σ G => ∃ st o4, st = (code.take i).foldl (stepW col full) [] ∧ σ = [some (.ref a), some (.ref d), some (.int full), some (.ref rw_), o4] ∧ Same H G ∧ G rw_ = some (.lst ((st.map V.int).reverse)) ∧ Fits (code.drop i) st.length ∧ st.length ≤ i)
      ⟨[], none, rfl, rfl, s0, upd_same, hf, Nat.le_refl _⟩ (fun i σ G _ h => by
        obtain ⟨_, _, _, _, h, _⟩ := h
        exact seqT G h) ?_ ?_⟩
    · rintro i x σ G hi ⟨st, o4, hst, rfl, s1, gr, fits, hsl⟩
      obtain ⟨s, hsi, rfl⟩ : ∃ s, code[i]? = some s ∧ x = V.str s := by
        rw [List.getElem?_map] at hi
        cases e : code[i]? with
        | none =>
          rw [e] at hi
          cases hi
        | some s =>
          rw [e] at hi
          exact ⟨s, rfl, (Option.some.inj hi).symm⟩
      have hlt := (List.getElem?_eq_some_iff.mp hsi).1
      have edrop : code.drop i = s :: code.drop (i + 1) := by
        rw [List.drop_eq_getElem_cons hlt, (List.getElem?_eq_some_iff.mp hsi).2]
      rw [edrop] at fits
      obtain ⟨f1, f2⟩ := fits
      have hnext : (code.take (i + 1)).foldl (stepW col full) [] = stepW col full st s := by
        rw [take_snoc hsi, List.foldl_append, ← hst] <;> rfl
      have f3 : Fits (code.drop (i + 1)) (stepW col full st s).length := by
        rw [len_stepW f1]
        exact f2
      have f4 : (stepW col full st s).length ≤ i + 1 := by
        rw [len_stepW f1]
        omega
      have done : ∀ (z : Int) (r : List Int) (G' : Hp), Same H G' → G' rw_ = some (.lst ((r.map V.int).reverse)) → r.length ≤ st.length → stepW col full st s = z :: r →
          rAppend (.ref rw_) [.int z] G' (fun _ G3 => ∃ st o4, st = (code.take (i + 1)).foldl (stepW col full) [] ∧ [some (.ref a), some (.ref d), some (.int full), some (.ref rw_), some (.str s)] = [some (V.ref a), some (.ref d), some (.int full), some (.ref rw_), o4] ∧ Same H G3 ∧ G3 rw_ = some (.lst ((st.map V.int).reverse)) ∧ Fits (code.drop (i + 1)) st.length ∧ st.length ≤ i + 1) := by
        intro z r G' h1 h2 h3 h4
        refine rd_appV hrw h1 h2 (by rw [List.length_map]; omega) fun G3 k1 k2 k3 => ⟨stepW col full st s, _, hnext.symm, rfl, k1, ?_, f3, f4⟩
        rw [h4, k2] <;> rfl
      refine ⟨_, rfl, rfl, _, rfl, ?_⟩
      rw [dec_str]
      have two : ∀ (k : 2 ≤ st.length), ∃ y x r, st = y :: x :: r := by
        intro k
        cases st with
        | nil => exact absurd k (by decide)
        | cons y r =>
          cases r with
          | nil => exact absurd k (by show ¬ (2 ≤ 1); decide)
          | cons x r => exact ⟨y, x, r, rfl⟩
      cases c1 : (s == ("not" : Str)) with
      | true =>
        have n1 : need s = 1 := by rw [eq_of_beq c1]; decide +kernel
        rw [n1] at f1
        cases st with
        | nil => exact absurd f1 (by decide)
        | cons x r =>
          refine iteT ⟨_, rfl, .inl ⟨rfl, _, SqL.of gr⟩, _, rfl, _, rfl, .inl ⟨rfl, _, SqL.of gr⟩, rd_popV hrw s1 gr fun G1 h1 h2 h3 => ⟨_, _, rfl, rfl, ?_⟩⟩
          exact done _ r G1 h1 h2 (Nat.le_succ _) (by unfold stepW; rw [c1] <;> rfl)
      | false =>
        refine iteF ⟨_, rfl, rfl, _, rfl, ?_⟩
        rw [dec_str]
        cases c2 : (s == ("and" : Str)) with
        | true =>
          have n1 : need s = 2 := by rw [eq_of_beq c2]; decide +kernel
          rw [n1] at f1
          obtain ⟨y, x, r, rfl⟩ := two f1
          refine iteT ⟨_, rfl, .inl ⟨rfl, _, SqL.of gr⟩, _, rfl, .inl ⟨rfl, _, SqL.of gr⟩, rd_popV hrw s1 gr fun G1 h1 h2 h3 => ?_⟩
          refine ⟨_, rfl, .inl ⟨rfl, _, SqL.of h2⟩, rd_popV hrw h1 h2 fun G2 k1 k2 k3 => ⟨_, _, rfl, rfl, ?_⟩⟩
          exact done _ r G2 k1 k2 (by simp only [List.length_cons]; omega) (by unfold stepW; rw [c1, c2] <;> rfl)
        | false =>
          refine iteF ⟨_, rfl, rfl, _, rfl, ?_⟩
          rw [dec_str]
          cases c3 : (s == ("or" : Str)) with
          | true =>
            have n1 : need s = 2 := by rw [eq_of_beq c3]; decide +kernel
            rw [n1] at f1
            obtain ⟨y, x, r, rfl⟩ := two f1
            refine iteT ⟨_, rfl, .inl ⟨rfl, _, SqL.of gr⟩, _, rfl, .inl ⟨rfl, _, SqL.of gr⟩, rd_popV hrw s1 gr fun G1 h1 h2 h3 => ?_⟩
            refine ⟨_, rfl, .inl ⟨rfl, _, SqL.of h2⟩, rd_popV hrw h1 h2 fun G2 k1 k2 k3 => ⟨_, _, rfl, rfl, ?_⟩⟩
            exact done _ r G2 k1 k2 (by simp only [List.length_cons]; omega) (by unfold stepW; rw [c1, c2, c3] <;> rfl)
          | false =>
            have no : isOper s = false := by rw [oper_cases, c1, c2, c3] <;> rfl
            refine iteF ⟨_, rfl, aC, constants.map V.str, rfl, .inr (hC _), rfl, flat_strs _, _, rfl, ?_⟩
            rw [in_val]
            cases c4 : constants.any fun y => y == s with
            | true =>
              refine iteT ⟨_, rfl, .inl ⟨rfl, _, SqL.of gr⟩, _, rfl, rfl, _, rfl, ?_⟩
              rw [dec_str]
              cases c5 : (s == ("all" : Str)) with
              | true => exact iteT ⟨_, rfl, done full st G s1 gr (Nat.le_refl _) (by unfold stepW; rw [c1, c2, c3, show isConst s = true from c4, c5] <;> rfl)⟩
              | false => exact iteF (done 0 st G s1 gr (Nat.le_refl _) (by unfold stepW; rw [c1, c2, c3, show isConst s = true from c4, c5] <;> rfl))
            | false =>
              have hv := hcol s (List.mem_of_getElem? hsi) no c4
              refine iteF ⟨_, rfl, .inl ⟨rfl, _, SqL.of gr⟩, _, rfl, _, rfl, d, .int (col s), rfl, ?_, done (col s) st G s1 gr (Nat.le_refl _) (by unfold stepW; rw [c1, c2, c3, show isConst s = false from c4] <;> rfl)⟩
              have w1 := DGet.k (k := Sum.inr s) (s1 _ _ hd)
              rw [hv] at w1
              exact w1
    · rintro σ G ⟨st, o4, hst, rfl, s1, gr, fits, hsl⟩
      rw [List.length_map, List.take_length, hfold] at hst
      subst hst
      exact ⟨_, rfl, rw_, _, 0, _, rfl, rfl, SqL.of gr, rfl, q G s1⟩
end
end Fx
set_option maxHeartbeats 2000000
namespace Fx
open PySem PySem.Spec PyProof.Rows L2 TL

/-! ### what is accepted is the code of a tree -/
def isBin (s : Str) : Bool := s == "and" || s == "or"
def bins (l : List Str) : Nat := (l.filter isBin).length
def opens (l : List Str) : Nat := (l.filter fun s => s == ("(" : Str)).length
def flat (ts : List Fm) : List Str := (ts.map post).flatten
/-- the operands so far, the stack -/
structure Ok (wanted : Bool) (cs : List Str × List Str) (ts : List Fm) : Prop where
  wf : ∀ t ∈ ts, WF t
  code : cs.1 = flat ts
  st : stackOk cs.2
  len : ts.length = bins cs.2 + (if wanted then 0 else 1)
theorem flat_app (a b : List Fm) : flat (a ++ b) = flat a ++ flat b := by
  unfold flat
  rw [List.map_append, List.flatten_append]
theorem flat_one (t : Fm) : flat [t] = post t := by
  unfold flat
  simp
theorem op_kinds {s : Str} (h : isOp s = true) (n : (s == ("(" : Str)) = false) : (s = "not" ∧ isBin s = false) ∨ ((s = "and" ∨ s = "or") ∧ isBin s = true) := by
  unfold isOp at h
  rw [n] at h
  simp only [Bool.false_or, Bool.or_eq_true, beq_iff_eq] at h
  rcases h with rfl | rfl | rfl
  · exact .inr ⟨.inr rfl, by decide +kernel⟩
  · exact .inr ⟨.inl rfl, by decide +kernel⟩
  · exact .inl ⟨rfl, by decide +kernel⟩
theorem last_split {α : Type} : ∀ (l : List α), 1 ≤ l.length → ∃ a x, l = a ++ [x] := by
  intro l h
  cases l with
  | nil => exact absurd h (by simp)
  | cons y r => exact ⟨(y :: r).dropLast, (y :: r).getLast (by simp), (List.dropLast_concat_getLast (by simp)).symm⟩
/-- one operator goes from the stack to the code -/
theorem pop_one {c r : List Str} {s : Str} {ts : List Fm} (h : Ok false (c, s :: r) ts) (n : (s == ("(" : Str)) = false) : ∃ ts', Ok false (c ++ [s], r) ts' := by
  have hop := h.st s List.mem_cons_self
  have hst : stackOk r := fun y hy => h.st y (List.mem_cons_of_mem _ hy)
  have hlen : ts.length = bins (s :: r) + 1 := h.len
  rcases op_kinds hop n with ⟨rfl, hb⟩ | ⟨hs, hb⟩
  · have e : bins (("not" : Str) :: r) = bins r := by
      unfold bins
      rw [List.filter_cons_of_neg (by rw [hb]; exact Bool.false_ne_true)]
    obtain ⟨a, x, rfl⟩ := last_split ts (by omega)
    refine ⟨a ++ [.neg x], ⟨?_, ?_, hst, ?_⟩⟩
    · intro t ht
      rcases List.mem_append.mp ht with w1 | w1
      · exact h.wf t (List.mem_append_left _ w1)
      · rw [List.mem_singleton.mp w1]
        exact h.wf x (List.mem_append_right _ (List.mem_singleton.mpr rfl))
    · show c ++ [("not" : Str)] = _
      have hc : c = flat (a ++ [x]) := h.code
      rw [hc, flat_app, flat_app, flat_one, flat_one, List.append_assoc] <;> rfl
    · rw [List.length_append, List.length_singleton] at hlen ⊢
      show _ = bins r + 1
      omega
  · have e : bins (s :: r) = bins r + 1 := by
      unfold bins
      rw [List.filter_cons_of_pos hb, List.length_cons]
    obtain ⟨a1, y, rfl⟩ := last_split ts (by omega)
    rw [List.length_append, List.length_singleton] at hlen
    obtain ⟨a, x, rfl⟩ := last_split a1 (by omega)
    refine ⟨a ++ [.bin s x y], ⟨?_, ?_, hst, ?_⟩⟩
    · intro t ht
      rcases List.mem_append.mp ht with w1 | w1
      · exact h.wf t (List.mem_append_left _ (List.mem_append_left _ w1))
      · rw [List.mem_singleton.mp w1]
        exact ⟨hs, h.wf x (List.mem_append_left _ (List.mem_append_right _ (List.mem_singleton.mpr rfl))), h.wf y (List.mem_append_right _ (List.mem_singleton.mpr rfl))⟩
    · show c ++ [s] = _
      have hc : c = flat (a ++ [x] ++ [y]) := h.code
      rw [hc, flat_app, flat_app, flat_app, flat_one, flat_one, flat_one]
      show flat a ++ post x ++ post y ++ [s] = flat a ++ (post x ++ post y ++ [s])
      simp only [List.append_assoc]
    · rw [List.length_append, List.length_singleton] at hlen ⊢
      show _ = bins r + 1
      omega
theorem pop_to : ∀ (l c : List Str) (ts : List Fm), Ok false (c, l) ts → ∃ ts', Ok false (c ++ (popTo l).1, (popTo l).2) ts'
  | [], c, ts, h => ⟨ts, by
      show Ok false (c ++ [], []) ts
      rw [List.append_nil]
      exact h⟩
  | s :: r, c, ts, h => by
    unfold popTo
    cases n : (s == ("(" : Str)) with
    | true =>
      rw [if_pos rfl]
      exact ⟨ts, by rw [List.append_nil]; exact h⟩
    | false =>
      rw [if_neg Bool.false_ne_true]
      obtain ⟨t1, h1⟩ := pop_one h n
      obtain ⟨t2, h2⟩ := pop_to r _ t1 h1
      exact ⟨t2, by rw [List.append_assoc] at h2; exact h2⟩
theorem pop_ge (k : Int) (k0 : 0 < k) : ∀ (l c : List Str) (ts : List Fm), Ok false (c, l) ts → ∃ ts', Ok false (c ++ (popGe k l).1, (popGe k l).2) ts'
  | [], c, ts, h => ⟨ts, by
      show Ok false (c ++ [], []) ts
      rw [List.append_nil]
      exact h⟩
  | s :: r, c, ts, h => by
    unfold popGe
    cases n : decide (k ≤ rank s) with
    | false =>
      rw [if_neg Bool.false_ne_true]
      exact ⟨ts, by rw [List.append_nil]; exact h⟩
    | true =>
      rw [if_pos rfl]
      have ns : (s == ("(" : Str)) = false := by
        cases e : (s == ("(" : Str)) with
        | false => rfl
        | true =>
          have w1 : k ≤ rank s := of_decide_eq_true n
          unfold rank at w1
          rw [if_pos e] at w1
          omega
      obtain ⟨t1, h1⟩ := pop_one h ns
      obtain ⟨t2, h2⟩ := pop_ge k k0 r _ t1 h1
      exact ⟨t2, by rw [List.append_assoc] at h2; exact h2⟩
theorem pop_all : ∀ (l c : List Str) (ts : List Fm), Ok false (c, l) ts → opens l = 0 → ∃ ts', Ok false (c ++ l, []) ts'
  | [], c, ts, h, _ => ⟨ts, by rw [List.append_nil]; exact h⟩
  | s :: r, c, ts, h, o => by
    have n : (s == ("(" : Str)) = false := by
      cases e : (s == ("(" : Str)) with
      | false => rfl
      | true =>
        unfold opens at o
        rw [List.filter_cons_of_pos (p := fun s => s == ("(" : Str)) e, List.length_cons] at o
        omega
    have o2 : opens r = 0 := by
      unfold opens at o ⊢
      rw [List.filter_cons_of_neg (by rw [n]; exact Bool.false_ne_true)] at o
      exact o
    obtain ⟨t1, h1⟩ := pop_one h n
    obtain ⟨t2, h2⟩ := pop_all r _ t1 h1 o2
    exact ⟨t2, by rw [List.append_assoc] at h2; exact h2⟩
/-! ### the signs of a piece -/
def GoodFrom (cs : List Str × List Str) (l : List Str) : Prop := ∀ (i : Nat), l[i]? = some (")" : Str) → ("(" : Str) ∈ ((l.take i).foldl stepC cs).2
theorem good_app {cs : List Str × List Str} {a b : List Str} (h1 : GoodFrom cs a) (h2 : GoodFrom (a.foldl stepC cs) b) : GoodFrom cs (a ++ b) := by
  intro i hi
  by_cases hl : i < a.length
  · rw [List.getElem?_append_left hl] at hi
    rw [List.take_append_of_le_length (by omega)]
    exact h1 i hi
  · rw [List.getElem?_append_right (by omega)] at hi
    have e : (a ++ b).take i = a ++ b.take (i - a.length) := by
      rw [List.take_append, List.take_of_length_le (by omega)]
    rw [e, List.foldl_append]
    exact h2 _ hi
theorem good_one {cs : List Str × List Str} {s : Str} (h : s ≠ ")") : GoodFrom cs [s] := by
  intro i hi
  cases i with
  | zero => exact absurd (Option.some.inj hi) h
  | succ i => simp at hi
theorem opens_popTo : ∀ (l : List Str), opens (popTo l).2 = opens l
  | [] => rfl
  | s :: r => by
    unfold popTo
    cases n : (s == ("(" : Str)) with
    | true => rw [if_pos rfl]
    | false =>
      rw [if_neg Bool.false_ne_true]
      show opens (popTo r).2 = _
      rw [opens_popTo r]
      unfold opens
      rw [List.filter_cons_of_neg (by rw [n]; exact Bool.false_ne_true)]
theorem opens_popGe {k : Int} (k0 : 0 < k) : ∀ (l : List Str), opens (popGe k l).2 = opens l
  | [] => rfl
  | s :: r => by
    unfold popGe
    cases n : decide (k ≤ rank s) with
    | false => rw [if_neg Bool.false_ne_true]
    | true =>
      rw [if_pos rfl]
      show opens (popGe k r).2 = _
      rw [opens_popGe k0 r]
      unfold opens
      rw [List.filter_cons_of_neg]
      intro e
      have w1 : k ≤ rank s := of_decide_eq_true n
      unfold rank at w1
      rw [if_pos e] at w1
      omega
theorem opens_mem {l : List Str} (h : 0 < opens l) : ("(" : Str) ∈ l := by
  unfold opens at h
  obtain ⟨x, hx⟩ := List.exists_mem_of_length_pos h
  obtain ⟨h1, h2⟩ := List.mem_filter.mp hx
  rw [← eq_of_beq h2]
  exact h1
/-- brackets that open -/
theorem step_open {cs : List Str × List Str} {ts : List Fm} (h : Ok true cs ts) : ∀ n : Nat, Ok true ((List.replicate n ("(" : Str)).foldl stepC cs) ts ∧ GoodFrom cs (List.replicate n ("(" : Str)) ∧ opens ((List.replicate n ("(" : Str)).foldl stepC cs).2 = opens cs.2 + n
  | 0 => ⟨h, fun i hi => by simp at hi, rfl⟩
  | n + 1 => by
    obtain ⟨h1, h2, h3⟩ := step_open h n
    rw [List.replicate_succ']
    refine ⟨?_, good_app h2 (good_one (by decide +kernel)), ?_⟩
    all_goals rw [List.foldl_append]
    all_goals generalize (List.replicate n ("(" : Str)).foldl stepC cs = c2 at h1 h3
    · show Ok true (stepC c2 ("(" : Str)) ts
      have e : stepC c2 ("(" : Str) = (c2.1, ("(" : Str) :: c2.2) := by rfl
      rw [e]
      refine ⟨h1.wf, h1.code, ?_, ?_⟩
      · intro y hy
        rcases List.mem_cons.mp hy with w1 | w1
        · rw [w1]
          rfl
        · exact h1.st y w1
      · have w1 : bins (("(" : Str) :: c2.2) = bins c2.2 := by
          unfold bins
          rw [List.filter_cons_of_neg (by decide +kernel)]
        show ts.length = bins (("(" : Str) :: c2.2) + _
        rw [w1]
        exact h1.len
    · show opens (stepC c2 ("(" : Str)).2 = _
      have e : (stepC c2 ("(" : Str)).2 = ("(" : Str) :: c2.2 := by rfl
      rw [e]
      unfold opens at h3 ⊢
      rw [List.filter_cons_of_pos (by decide +kernel), List.length_cons, h3]
      omega
/-- brackets that shut -/
theorem step_shut : ∀ (n : Nat) (cs : List Str × List Str) (ts : List Fm), Ok false cs ts → n ≤ opens cs.2 →
    (∃ ts', Ok false ((List.replicate n (")" : Str)).foldl stepC cs) ts') ∧ GoodFrom cs (List.replicate n (")" : Str)) ∧ opens ((List.replicate n (")" : Str)).foldl stepC cs).2 + n = opens cs.2
  | 0, cs, ts, h, _ => ⟨⟨ts, h⟩, fun i hi => by simp at hi, rfl⟩
  | n + 1, cs, ts, h, hn => by
    have hm := opens_mem (show 0 < opens cs.2 by omega)
    obtain ⟨c, l⟩ := cs
    obtain ⟨t1, h1⟩ := pop_to l c ts h
    obtain ⟨r, hr⟩ := popTo_head l hm
    have e : stepC (c, l) (")" : Str) = (c ++ (popTo l).1, r) := by
      have e1 : stepC (c, l) (")" : Str) = (c ++ (popTo l).1, (popTo l).2.tail) := by rfl
      rw [e1, hr] <;> rfl
    rw [hr] at h1
    have ho := opens_popTo l
    rw [hr] at ho
    have ho2 : opens r + 1 = opens l := by
      unfold opens at ho ⊢
      rw [List.filter_cons_of_pos (by decide +kernel), List.length_cons] at ho
      exact ho
    have h2 : Ok false (c ++ (popTo l).1, r) t1 := by
      refine ⟨h1.wf, h1.code, fun y hy => h1.st y (List.mem_cons_of_mem _ hy), ?_⟩
      have w1 := h1.len
      have w2 : bins (("(" : Str) :: r) = bins r := by
        unfold bins
        rw [List.filter_cons_of_neg (by decide +kernel)]
      show t1.length = bins r + 1
      have w3 : t1.length = bins (("(" : Str) :: r) + 1 := w1
      omega
    have hn2 : n + 1 ≤ opens l := hn
    obtain ⟨i1, i2, i3⟩ := step_shut n (c ++ (popTo l).1, r) t1 h2 (by show n ≤ opens r; omega)
    rw [List.replicate_succ]
    refine ⟨?_, ?_, ?_⟩
    · show ∃ ts', Ok false ((List.replicate n (")" : Str)).foldl stepC (stepC (c, l) (")" : Str))) ts'
      rw [e]
      exact i1
    · refine good_app (a := [(")" : Str)]) ?_ ?_
      · intro i hi
        cases i with
        | zero => exact hm
        | succ i => simp at hi
      · show GoodFrom (stepC (c, l) (")" : Str)) _
        rw [e]
        exact i2
    · show opens ((List.replicate n (")" : Str)).foldl stepC (stepC (c, l) (")" : Str))).2 + (n + 1) = opens l
      rw [e]
      have i3' : opens ((List.replicate n (")" : Str)).foldl stepC (c ++ (popTo l).1, r)).2 + n = opens r := i3
      omega
end Fx
set_option maxHeartbeats 2000000
namespace Fx
open PySem PySem.Spec PyProof.Rows L2 TL

theorem word_no (z : Str) (h : isConst z = true ∨ isWord z = true) : (z == ("(" : Str)) = false ∧ (z == (")" : Str)) = false := by
  refine ⟨?_, ?_⟩
  all_goals
    refine beq_eq_false_iff_ne.mpr fun e => ?_
    rw [e] at h
    rcases h with w1 | w1 <;> revert w1 <;> decide +kernel
/-- a word or a constant -/
theorem step_leaf {cs : List Str × List Str} {ts : List Fm} {s : Str} (h : Ok true cs ts) (h1 : (s == ("(" : Str)) = false) (h2 : (s == (")" : Str)) = false) (h3 : isOper s = false) :
    Ok false (stepC cs s) (ts ++ [.leaf s]) ∧ opens (stepC cs s).2 = opens cs.2 := by
  have hn : (s == ("not" : Str)) = false := by
    have w1 := oper_cases s
    rw [h3] at w1
    have w2 := w1.symm
    simp only [Bool.or_eq_false_iff] at w2
    exact w2.2.2
  have e : stepC cs s = (cs.1 ++ [s], cs.2) := by
    unfold stepC
    rw [h1, hn, h2, show (operators.any fun y => y == s) = false from h3] <;> rfl
  rw [e]
  refine ⟨⟨?_, ?_, h.st, ?_⟩, rfl⟩
  · intro t ht
    rcases List.mem_append.mp ht with w1 | w1
    · exact h.wf t w1
    · rw [List.mem_singleton.mp w1]
      exact h3
  · show cs.1 ++ [s] = _
    rw [h.code, flat_app, flat_one] <;> rfl
  · have w1 := h.len
    rw [List.length_append, List.length_singleton]
    show ts.length + 1 = bins cs.2 + 1
    have w2 : ts.length = bins cs.2 + 0 := w1
    omega
theorem step_not {cs : List Str × List Str} {ts : List Fm} (h : Ok true cs ts) : Ok true (stepC cs ("not" : Str)) ts ∧ opens (stepC cs ("not" : Str)).2 = opens cs.2 := by
  have e : stepC cs ("not" : Str) = (cs.1, ("not" : Str) :: cs.2) := by rfl
  rw [e]
  refine ⟨⟨h.wf, h.code, ?_, ?_⟩, ?_⟩
  · intro y hy
    rcases List.mem_cons.mp hy with w1 | w1
    · rw [w1]
      rfl
    · exact h.st y w1
  · have w1 : bins (("not" : Str) :: cs.2) = bins cs.2 := by
      unfold bins
      rw [List.filter_cons_of_neg (by decide +kernel)]
    show ts.length = bins (("not" : Str) :: cs.2) + _
    rw [w1]
    exact h.len
  · show opens (("not" : Str) :: cs.2) = opens cs.2
    unfold opens
    rw [List.filter_cons_of_neg (by decide +kernel)]
theorem step_bin {cs : List Str × List Str} {ts : List Fm} {s : Str} (h : Ok false cs ts) (hs : s = "and" ∨ s = "or") : (∃ ts', Ok true (stepC cs s) ts') ∧ opens (stepC cs s).2 = opens cs.2 := by
  have k0 : 0 < rank s := by rcases hs with rfl | rfl <;> decide +kernel
  have hb : isBin s = true := by rcases hs with rfl | rfl <;> decide +kernel
  have ho : (s == ("(" : Str)) = false := by rcases hs with rfl | rfl <;> decide +kernel
  have hop : isOp s = true := by rcases hs with rfl | rfl <;> decide +kernel
  have e : stepC cs s = (cs.1 ++ (popGe (rank s) cs.2).1, s :: (popGe (rank s) cs.2).2) := by rcases hs with rfl | rfl <;> rfl
  rw [e]
  obtain ⟨c, l⟩ := cs
  obtain ⟨t1, h1⟩ := pop_ge (rank s) k0 l c ts h
  refine ⟨⟨t1, h1.wf, h1.code, ?_, ?_⟩, ?_⟩
  · intro y hy
    rcases List.mem_cons.mp hy with w1 | w1
    · rw [w1]
      exact hop
    · exact h1.st y w1
  · have w1 : bins (s :: (popGe (rank s) l).2) = bins (popGe (rank s) l).2 + 1 := by
      unfold bins
      rw [List.filter_cons_of_pos hb, List.length_cons]
    have w2 : t1.length = bins (popGe (rank s) l).2 + 1 := h1.len
    show t1.length = bins (s :: (popGe (rank s) l).2) + 0
    omega
  · show opens (s :: (popGe (rank s) l).2) = opens l
    have w1 := opens_popGe k0 l
    unfold opens at w1 ⊢
    rw [List.filter_cons_of_neg (by rw [ho]; exact Bool.false_ne_true)]
    exact w1
/-- one piece -/
theorem piece_ok {st st' : PSt} {p : Str} {cs : List Str × List Str} {ts : List Fm} (h : Ok st.wanted cs ts) (hd : st.depth = opens cs.2) (e : stepP st p = some st') :
    st'.signs = st.signs ++ signsP p ∧ (∃ ts', Ok st'.wanted ((signsP p).foldl stepC cs) ts') ∧ GoodFrom cs (signsP p) ∧ st'.depth = opens ((signsP p).foldl stepC cs).2 := by
  have hO0 : 0 ≤ openOf p := by have := len_behind p; unfold openOf; omega
  have hS0 : 0 ≤ shutOf p := by have := len_core p; unfold shutOf; omega
  unfold stepP at e
  split at e
  · cases e
  · rename_i hc
    cases e
    simp only [Bool.or_eq_true, not_or, Bool.not_eq_true, Bool.not_eq_false', decide_eq_true_eq, Bool.not_eq_true'] at hc
    obtain ⟨hd0, can⟩ := hc
    refine ⟨rfl, ?_⟩
    have can2 : canStand (coreOf p) (openOf p) (shutOf p) st.wanted = true := by
      cases w1 : canStand (coreOf p) (openOf p) (shutOf p) st.wanted with
      | true => rfl
      | false => rw [w1] at can; exact absurd can (by decide)
    clear can
    have hd1 : 0 ≤ st.depth + openOf p - shutOf p := by
      have : ¬ st.depth + openOf p - shutOf p < 0 := by
        first
          | exact hd0
          | (intro w1; rw [decide_eq_true w1] at hd0; cases hd0)
      omega
    unfold signsP
    generalize coreOf p = core at can2 ⊢
    generalize openOf p = mo at can2 hO0 hd1 ⊢
    generalize shutOf p = ms at can2 hS0 hd1 ⊢
    unfold canStand at can2
    dsimp only
    cases c1 : (core == ("not" : Str)) with
    | true =>
      rw [c1, if_pos rfl] at can2
      obtain ⟨hw, hm⟩ := Bool.and_eq_true_iff.mp can2
      have em : ms = 0 := eq_of_beq hm
      subst em
      have ec : core = "not" := eq_of_beq c1
      subst ec
      rw [hw] at h
      obtain ⟨a1, a2, a3⟩ := step_open h mo.toNat
      obtain ⟨b1, b2⟩ := step_not a1
      have el : List.replicate mo.toNat ("(" : Str) ++ [("not" : Str)] ++ List.replicate (0 : Int).toNat (")" : Str) = List.replicate mo.toNat ("(" : Str) ++ [("not" : Str)] := by
        show _ ++ [] = _
        rw [List.append_nil]
      rw [el, List.foldl_append]
      have wt : (operators.any fun y => y == ("not" : Str)) = true := by decide +kernel
      refine ⟨⟨ts, ?_⟩, good_app a2 (good_one (by decide +kernel)), ?_⟩
      · rw [wt]
        exact b1
      · show _ = ((opens (stepC _ ("not" : Str)).2 : Nat) : Int)
        rw [b2, a3]
        omega
    | false =>
      rw [c1, if_neg Bool.false_ne_true] at can2
      cases c2 : operators.any fun y => y == core with
      | true =>
        rw [c2, if_pos rfl] at can2
        simp only [Bool.and_eq_true, Bool.not_eq_true', beq_iff_eq] at can2
        obtain ⟨hw, hm, hs⟩ := can2
        subst hm hs
        have hs2 : core = "and" ∨ core = "or" := by
          have w1 := oper_cases core
          rw [show isOper core = true from c2, c1, Bool.or_false] at w1
          have w2 := w1.symm
          simp only [Bool.or_eq_true, beq_iff_eq] at w2
          exact w2
        rw [hw] at h
        obtain ⟨⟨t1, b1⟩, b2⟩ := step_bin h hs2
        have el : List.replicate (0 : Int).toNat ("(" : Str) ++ [core] ++ List.replicate (0 : Int).toNat (")" : Str) = [core] := by rfl
        rw [el]
        refine ⟨⟨t1, b1⟩, good_one (by rcases hs2 with rfl | rfl <;> decide +kernel), ?_⟩
        show _ = ((opens (stepC cs core).2 : Nat) : Int)
        rw [b2]
        omega
      | false =>
        rw [c2, if_neg Bool.false_ne_true] at can2
        obtain ⟨hw, hc⟩ := Bool.and_eq_true_iff.mp can2
        have hc2 : isConst core = true ∨ isWord core = true := by
          rcases Bool.or_eq_true_iff.mp hc with w1 | w1
          · exact .inl w1
          · exact .inr w1
        obtain ⟨n1, n2⟩ := word_no core hc2
        rw [hw] at h
        obtain ⟨a1, a2, a3⟩ := step_open h mo.toNat
        obtain ⟨b1, b2⟩ := step_leaf a1 n1 n2 c2
        have hle : ms.toNat ≤ opens (stepC ((List.replicate mo.toNat ("(" : Str)).foldl stepC cs) core).2 := by
          rw [b2, a3]
          omega
        obtain ⟨⟨t2, d1⟩, d2, d3⟩ := step_shut ms.toNat _ _ b1 hle
        rw [List.foldl_append, List.foldl_append]
        refine ⟨⟨t2, d1⟩, good_app (good_app a2 (good_one ?_)) ?_, ?_⟩
        · exact beq_eq_false_iff_ne.mp n2
        · rw [List.foldl_append]
          exact d2
        · show _ = ((opens ((List.replicate ms.toNat (")" : Str)).foldl stepC (stepC ((List.replicate mo.toNat ("(" : Str)).foldl stepC cs) core)).2 : Nat) : Int)
          rw [b2, a3] at d3
          omega
theorem run_ok : ∀ (l : List Str) (st st' : PSt) (cs : List Str × List Str) (ts : List Fm), Ok st.wanted cs ts → st.depth = opens cs.2 → runP (some st) l = some st' →
    ∃ more, st'.signs = st.signs ++ more ∧ (∃ ts', Ok st'.wanted (more.foldl stepC cs) ts') ∧ GoodFrom cs more ∧ st'.depth = opens (more.foldl stepC cs).2
  | [], st, st', cs, ts, h, hd, e => by
    cases e
    exact ⟨[], (List.append_nil _).symm, ⟨ts, h⟩, fun i hi => by simp at hi, hd⟩
  | p :: l, st, st', cs, ts, h, hd, e => by
    have e2 : runP (stepP st p) l = some st' := e
    cases q : stepP st p with
    | none =>
      rw [q, runP_none] at e2
      cases e2
    | some s2 =>
      rw [q] at e2
      obtain ⟨h1, ⟨t1, h2⟩, h3, h4⟩ := piece_ok h hd q
      obtain ⟨more, k1, ⟨t2, k2⟩, k3, k4⟩ := run_ok l s2 st' _ t1 h2 h4 e2
      refine ⟨signsP p ++ more, ?_, ⟨t2, ?_⟩, good_app h3 k3, ?_⟩
      · rw [k1, h1, List.append_assoc]
      · rw [List.foldl_append]
        exact k2
      · rw [List.foldl_append]
        exact k4
/-- WHAT IS ACCEPTED IS THE CODE OF A TREE -/
theorem parse_ok (z : Str) (h : signsOf z ≠ []) : ∃ t, WF t ∧ codeOf (signsOf z) = post t ∧ Good (signsOf z) := by
  unfold signsOf at h ⊢
  cases e : runP (some start0) (Txt.split z " ") with
  | none =>
    rw [e] at h
    exact absurd rfl h
  | some st =>
    rw [e] at h
    dsimp only at h ⊢
    cases c : (st.wanted || decide (0 < st.depth)) with
    | true =>
      rw [c, if_pos rfl] at h
      exact absurd rfl h
    | false =>
      rw [if_neg Bool.false_ne_true]
      obtain ⟨hw, hd⟩ := Bool.or_eq_false_iff.mp c
      have hd0 : ¬ 0 < st.depth := of_decide_eq_false hd
      obtain ⟨more, k1, ⟨ts, k2⟩, k3, k4⟩ := run_ok _ start0 st ([], []) [] ⟨fun t ht => (by cases ht), rfl, fun s hs => (by cases hs), rfl⟩ rfl e
      have es : st.signs = more := by
        rw [k1]
        rfl
      rw [es]
      rw [hw] at k2
      have ho : opens (more.foldl stepC ([], [])).2 = 0 := by omega
      obtain ⟨c1, c2, hc2⟩ : ∃ c1 l1, more.foldl stepC ([], []) = (c1, l1) := ⟨_, _, rfl⟩
      rw [hc2] at k2 ho
      obtain ⟨t2, q⟩ := pop_all _ _ ts k2 ho
      have hl : t2.length = 0 + 1 := q.len
      cases t2 with
      | nil => simp at hl
      | cons t r =>
        cases r with
        | cons _ _ => simp at hl
        | nil =>
          refine ⟨t, q.wf t List.mem_cons_self, ?_, k3⟩
          have hq : c1 ++ c2 = flat [t] := q.code
          rw [flat_one] at hq
          show (more.foldl stepC ([], [])).1 ++ (more.foldl stepC ([], [])).2 = _
          rw [hc2]
          exact hq
end Fx
set_option maxHeartbeats 2000000
namespace Fx
open PySem PySem.Spec PyProof.Rows L2 TL

abbrev FnI (K : PySem.W.Frag) (q m : Str) (i j : Nat) (f : Addr) (fd : FuncData) : Prop :=
  FunD K m q (defArgs (inClass (tp i) j)) (defBody (inClass (tp i) j)) (defScope (inClass (tp i) j)) [] [] f fd
section
variable {P : Program} {w : World} {K : PySem.W.Frag} {mg : Str → Option Value} {base : Heap} {f C CB fB fS fC : Addr} {fd fdB fdS fdC : FuncData}
/-! ### BadFormula.__init__ -/
def spBF (CB : Addr) : Sp := fun vs H Q _ => ∃ (a : Addr) (v : V), vs = [.ref a, v] ∧ H a = some (exo a CB none) ∧
  ∀ d, H d = none → d ≠ a → Q .non (upd (upd H d (exd d [("text", v)])) a (exo a CB (some d)))
theorem sc_BF : FnScope ["self", "text"] ["self", "text"] (defScope (inClass (tp 2) 0)) := ⟨rfl, rfl, rfl, by decide +kernel, rfl, by decide +kernel, by decide +kernel⟩
theorem ok_BF (F : FnI K "BadFormula.__init__" "__init__" 2 0 f fd) (T : OexC K CB) (no : PySem.W.findIn K (.ref CB) "text" = some none) : FnOk P w K mg base CX0 1 f fd ["self", "text"] (spBF CB) := by
  refine F.ok sc_BF (fun vs H Q E h => ?_) (fun cdv A outer s H vs Q E hr h => ⟨_, PSs.nox (pss_one (ps_ost (pv 0) (pv 1))), ?_⟩)
  · obtain ⟨a, v, rfl, _⟩ := h
    rfl
  · obtain ⟨a, v, rfl, e, q⟩ := h
    exact ⟨_, rfl, _, rfl, a, CB, rfl, T, no, .inl ⟨e, fun d hd hne => q d hd hne⟩⟩
/-! ### Formula.__init__ -/
def spInitF (K : PySem.W.Frag) (C CB : Addr) : Sp := fun vs H Q E => ∃ (a dx : Addr) (v : V), vs = [.ref a, v] ∧ H a = some (.ins C dx []) ∧ Any K H v ∧ (∀ z, v = .str z → z.length ≤ 3900) ∧
  (signsV v = [] → ∀ d G, Same H G → H d = none → G d = some (.xd [("text", v)]) → E (.ref CB) (some d) G) ∧
  (signsV v ≠ [] → ∀ p G, (∀ b o, b ≠ a → H b = some o → G b = some o) → G a = some (.ins C dx [("code", .ref p)]) → H p = none → G p = some (.tup ((codeOf (signsV v)).map V.str)) → Q .non G)
theorem sc_initF : FnScope ["self", "text", "signs"] ["self", "text"] (defScope (inClass (tp 13) 0)) := ⟨rfl, rfl, rfl, by decide +kernel, rfl, by decide +kernel, by decide +kernel⟩
/-- what is known of the errors' class -/
structure BTxt (K : PySem.W.Frag) (mg : Str → Option Value) (CB fB : Addr) : Prop where
  o : OexC K CB
  no : PySem.W.findIn K (.ref CB) "text" = some none
  i : PySem.W.findIn K (.ref CB) "__init__" = some (some (.ref fB))
  t : PySem.W.typeIn K (.ref fB) = some (.type "function")
  g : mg "BadFormula" = some (.ref CB)
theorem signs_len (v : V) (h : ∀ z, v = .str z → z.length ≤ 3900) : (signsV v).length ≤ 16000000 := by
  cases v with
  | str z =>
    show (signsOf z).length ≤ _
    unfold signsOf
    cases e : runP (some start0) (Txt.split z " ") with
    | none => exact Nat.zero_le _
    | some st =>
      dsimp only
      have h1 := h z rfl
      have h2 := runP_len _ z.length start0 st (piece_len z) e
      have h3 := PyProof.Rows.split_le z " "
      have h4 : start0.signs.length = 0 := rfl
      have h5 : (Txt.split z " ").length * (z.length + 1) ≤ 3902 * 3901 := Nat.mul_le_mul (by omega) (by omega)
      split
      · exact Nat.zero_le _
      · omega
  | _ => exact Nat.zero_le _
theorem signs_good (v : V) : Good (signsV v) := by
  cases v with
  | str z =>
    show Good (signsOf z)
    by_cases h : signsOf z = []
    · rw [h]
      intro i hi
      simp at hi
    · obtain ⟨_, _, _, g⟩ := parse_ok z h
      exact g
  | _ => intro i hi; simp [signsV] at hi
theorem ok_initF (F : FnI K "Formula.__init__" "__init__" 13 0 f fd) (T : CTxt K w mg) (X : FCls K C) (B : BTxt K mg CB fB) (FB : FnI K "BadFormula.__init__" "__init__" 2 0 fB fdB)
    (GS : FnOk P w K mg base CX0 4 fS fdS ["text"] (spSigns K)) (FS : FnT K "signs_of" 16 fS fdS) (gS : mg "signs_of" = some (.ref fS))
    (GC : FnOk P w K mg base CX0 1 fC fdC ["signs"] (spCode K)) (FC : FnT K "code_of" 18 fC fdC) (gC : mg "code_of" = some (.ref fC)) :
    FnOk P w K mg base (L2.CX P w) 5 f fd ["self", "text"] (spInitF K C CB) := by
  have GB : FnOk P w K mg base CX0 1 fB fdB ["self", "text"] (spBF CB) := ok_BF FB B.o B.no
  have bB : L2.Binds K fdB ["self", "text"] [] := FB.bindsN fun _ _ _ _ _ _ us hl => match us, hl with | [_, _], _ => rfl
  have bS : L2.Binds K fdS ["text"] [] := FS.bindsN fun _ _ _ _ _ _ us hl => match us, hl with | [_], _ => rfl
  have bC : L2.Binds K fdC ["signs"] [] := FC.bindsN fun _ _ _ _ _ _ us hl => match us, hl with | [_], _ => rfl
  have TB := B.o
  have iB := B.i
  have tB := B.t
  have gB := B.g
  refine F.ok sc_initF (fun vs H Q E h => ?_) (fun cdv A outer s H vs Q E hr h => ⟨_, (pss_cons (ps_set (i := 2) sc_initF.nd rfl (Or.inl rfl) (pe_call GS hr rfl gS FS.kp bS .nil pass0 (pa_cons (pv 1) pa_nil)))
      (pss_cons (ps_if (pt_not (pt_truth (pv 2) (by intro _; rfl))) (pss_one (ps_raise rfl (takes_of rfl rfl rfl rfl) (pmk_oex TB iB tB GB (hr.mono (by decide)) bB .nil pass0 rfl gB (pa_cons (pv 1) pa_nil)))) pss_nil)
      (pss_one (ps_fld (pv 0) (pe_call GC (hr.mono (by decide)) rfl gC FC.kp bC .nil pass0 (pa_cons (pv 2) pa_nil)) rfl)))), ?_⟩)
  · obtain ⟨a, dx, v, rfl, _⟩ := h
    rfl
  · obtain ⟨a, dx, v, rfl, ha, any, hz, qe, qn⟩ := h
    refine ⟨_, rfl, v, rfl, any, hz, fun p G s1 hp gp => ?_⟩
    refine ⟨_, rfl, _, .inl ⟨_, SqL.of gp, rfl⟩, ?_⟩
    cases e : (signsV v).isEmpty with
    | true =>
      have e2 : signsV v = [] := List.isEmpty_iff.mp e
      have e3 : ((signsV v).map V.str).isEmpty = true := by rw [e2] <;> rfl
      rw [e3]
      refine iteT ⟨_, rfl, (by show 1 ≤ 1000; decide), fun x hx => ⟨x, v, rfl, upd_same, fun d hd hne => ⟨rfl, d, [("text", v)], upd_same, ?_, ?_, ?_⟩⟩⟩
      · rw [upd_ne hne, upd_same]
      · rw [upd_ne hne] at hd
        exact hd
      · have hd' : G d = none := by
          rw [upd_ne hne] at hd
          exact hd
        refine qe e2 d _ ?_ (s1.free hd') upd_same
        intro b o hb
        have hb2 := s1 b o hb
        rw [upd_ne (ne_of_none hb2 hd'), del_ne (ne_of_none hb2 hx), upd_ne (ne_of_none hb2 hx), upd_ne (ne_of_none hb2 hd'), upd_ne (ne_of_none hb2 hx)]
        exact hb2
    | false =>
      have e2 : signsV v ≠ [] := fun z => by rw [z] at e; cases e
      have e3 : ((signsV v).map V.str).isEmpty = false := by
        cases hl : signsV v with
        | nil => exact absurd hl e2
        | cons _ _ => rfl
      rw [e3]
      refine iteF ⟨_, rfl, p, signsV v, rfl, SqL.of gp, signs_len v hz, signs_good v, fun q G2 s2 hq gq => ?_⟩
      have ga := (s1.trans s2) _ _ ha
      refine ⟨_, rfl, a, C, dx, [], rfl, ga, X.cl, X.nc, (by show 0 < 1000; decide), ?_⟩
      refine qn e2 q _ ?_ upd_same (s1.free hq) ?_
      · intro b o hb hb2
        rw [upd_ne hb]
        exact (s1.trans s2) _ _ hb2
      · have ne : q ≠ a := fun z => by
          rw [z] at hq
          rw [s1 _ _ ha] at hq
          cases hq
        rw [upd_ne ne]
        exact gq
end
end Fx
set_option maxHeartbeats 2000000
namespace Fx
open PySem PySem.Spec PyProof.Rows L2 TL

/-! ### str(x) and {x} of an own instance -/
structure SCls (K : PySem.W.Frag) (C f : Addr) : Prop where
  m : Meth K C "__str__" f
  fm : PySem.W.findIn K (.ref C) "__format__" = some (some (.builtin "object.__format__"))
  ob : PySem.W.mroIn K C (.type "object") = some true
theorem PE.conv {X : Cx} {e : Expr} {t t' : TE} (h : PE X e t) (c : ∀ σ H Q, t' σ H Q → t σ H Q) : PE X e t' := ⟨fun pins s σ H Q I q => h.run pins s σ H Q I (c σ H Q q)⟩
section
variable {X : Cx} {C f : Addr} {k : Nat} {fd : FuncData} {sp : Sp} {pins : List (Addr × Obj)} {σ : L2.St} {H : Hp} {s : Shared}
/-- a method of one argument, self, run around A; it tells a text -/
theorem run_self {A : Around} {a : Addr} {Q : VK} {R : Value → Shared → Prop} {E2 : Value → Shared → Prop} (F : FnOk X.prog X.w X.K X.mg X.base CX0 k f fd ["self"] sp) (hr : Room k A)
    (hE : Env0 X.prog X.w X.K X.mg X.base A X.stack s H) (hb : L2.Binds X.K fd ["self"] []) (I : Inv X pins σ H s)
    (h : sp [.ref a] H Q E0) (hR : ∀ v u H2 s2, Inv X pins σ H2 s2 → RelV v u → Q v H2 → R u s2) : wpAny (model X.prog X.w) A (call (.ref f) [.ref a]) R E2 s := by
  have hbt := hb s [Value.ref a] I.kIn rfl
  refine wpAny_call (codeAny_mono (F.run A X.stack s H ⟨[.ref a], []⟩ _ [.ref a] Q E0 hr hE hbt (.cons rfl .nil) h) fun r s' hq => ?_)
  cases r with
  | error e => exact hq.elim
  | ok fl =>
    cases fl with
    | ret u =>
      obtain ⟨v, H2, J, rv, q⟩ := I.after hq
      exact hR v u H2 s' J rv q
    | next => exact False.elim hq
    | brk => exact False.elim hq
    | cont => exact False.elim hq
def tFmtI (sp : Sp) (C : Addr) (te : TE) : TE := fun σ H Q => te σ H fun x G => ∃ (a dx : Addr) (fs : List (Str × V)), x = .ref a ∧ G a = some (.ins C dx fs) ∧ sp [.ref a] G (fun v G2 => ∃ y : Str, v = .str y ∧ Q (.str y) G2) E0
theorem pe_fmtI {e : Expr} {te : TE} {pos : Pos} (S : SCls X.K C f) (F : FnOk X.prog X.w X.K X.mg X.base CX0 k f fd ["self"] sp) (hr : Room (k + 2) X.A) (hb : L2.Binds X.K fd ["self"] [])
    (he : PE X e te) : PE X (.FormattedValue e (-1) none pos) (tFmtI sp C te) := by
  refine ⟨fun pins s σ H Q I h => ?_⟩
  refine wpAny_FormattedValue_plain (thn (he.run pins s σ H _ I h) fun v s1 hv => ?_)
  obtain ⟨x, G, J, r1, a, dx, fs, rfl, ha, q⟩ := hv
  obtain rfl : v = Value.ref a := r1
  obtain ⟨mA, O, _⟩ := ins_get J.hok ha
  obtain ⟨od, JI, _⟩ := O.look
  have J2 : Inv X pins σ G { s1 with toks := s1.toks + 1 } := J.tok _
  refine PySem.W.kfo_fieldS (f := f) ?_ J.kIn JI S.fm S.ob S.m.at_ S.m.fn (run_self F ((hr.mono (Nat.le_succ (k + 1))).in1) J2.env0.in1 hb J2 q fun v u H2 s2 J3 rv q2 => ?_)
  · exact (hr.mono (Nat.le_succ (k + 1))).in1.units0
  · obtain ⟨y, rfl, q3⟩ := q2
    obtain ⟨t, rfl⟩ := rv
    exact ⟨.str y, H2, J3, ⟨t, rfl⟩, q3⟩
/-- str(x) -/
theorem call_strI (S : SCls X.K C f) (F : FnOk X.prog X.w X.K X.mg X.base CX0 k f fd ["self"] sp) (hr : Room (k + 2) X.A) (hb : L2.Binds X.K fd ["self"] []) :
    CallR X (.type "str") (fun xs H Q => ∃ (a dx : Addr) (fs : List (Str × V)), xs = [.ref a] ∧ H a = some (.ins C dx fs) ∧ sp [.ref a] H (fun v G2 => ∃ y : Str, v = .str y ∧ Q (.str y) G2) E0) := by
  intro pins s σ H xs us Q I r h
  obtain ⟨a, dx, fs, rfl, ha, q⟩ := h
  rw [Vals.ref1 r]
  obtain ⟨mA, O, _⟩ := ins_get I.hok ha
  obtain ⟨od, JI, _⟩ := O.look
  refine PySem.W.kso_call (f := f) hr.in1.in1.units0 I.kIn JI S.m.at_ S.m.fn (run_self F hr.in1.in1 I.env0.in1.in1 hb I q fun v u H2 s2 J3 rv q2 => ?_)
  obtain ⟨y, rfl, q3⟩ := q2
  obtain ⟨t, rfl⟩ := rv
  exact ⟨.str y, H2, J3, ⟨t, rfl⟩, q3⟩
end
end Fx
set_option maxHeartbeats 2000000
namespace Fx
open PySem PySem.Spec PyProof.Rows L2 TL

/-! ### one & other, one | other, ~one -/
structure OCls (K : PySem.W.Frag) (C fA fO fI : Addr) : Prop where
  sf : PySem.W.selfFirst K C = true
  a : Meth K C "__and__" fA
  o : Meth K C "__or__" fO
  i : Meth K C "__invert__" fI
section
variable {X : Cx} {C f : Addr} {k : Nat} {fd : FuncData} {sp : Sp} {ps : List Str}
/-- a def called with these values, all else as a rule's end wants it -/
theorem run_vals {pins : List (Addr × Obj)} {σ : L2.St} {H : Hp} {s : Shared} {vs : List V} {us : List Value} {Q : VK} {R : Value → Shared → Prop} {E2 : Value → Shared → Prop} (F : FnOk X.prog X.w X.K X.mg X.base CX0 k f fd ps sp) (hr : Room k X.A)
    (hb : L2.Binds X.K fd ps []) (I : Inv X pins σ H s) (hv : Vals vs us)
    (h : sp vs H Q E0) (hR : ∀ v u H2 s2, Inv X pins σ H2 s2 → RelV v u → Q v H2 → R u s2) : wpAny (model X.prog X.w) X.A (call (.ref f) us) R E2 s := by
  have hl : (us ++ []).length = ps.length := by
    rw [List.append_nil, ← hv.length]
    exact F.len _ _ _ _ h
  have hbt := hb s us I.kIn hl
  rw [List.append_nil] at hbt
  refine wpAny_call (codeAny_mono (F.run X.A X.stack s H ⟨us, []⟩ _ vs Q E0 hr I.env0 hbt hv h) fun r s' hq => ?_)
  cases r with
  | error e => exact hq.elim
  | ok fl =>
    cases fl with
    | ret u =>
      obtain ⟨v, H2, J, rv, q⟩ := I.after hq
      exact hR v u H2 s' J rv q
    | next => exact False.elim hq
    | brk => exact False.elim hq
    | cont => exact False.elim hq
/-- an operator of two instances of one class; it tells an instance -/
theorem op_own {op : Operator} (sf : PySem.W.selfFirst X.K C = true) (hm : PySem.W.findIn X.K (.ref C) (PySem.dunder op.info.2) = some (some (.ref f))) (hf : PySem.W.isFn X.K (.ref f) = true)
    (F : FnOk X.prog X.w X.K X.mg X.base CX0 k f fd ps sp) (hr : Room k X.A) (hb : L2.Binds X.K fd ps []) :
    OpR X (binaryOp op) (fun x y H Q => ∃ (a b dx dy : Addr) (fs gs : List (Str × V)), x = .ref a ∧ y = .ref b ∧ H a = some (.ins C dx fs) ∧ H b = some (.ins C dy gs) ∧ sp [.ref a, .ref b] H (fun v G => ∃ c : Addr, v = .ref c ∧ Q v G) E0) := by
  intro pins s σ H x y v u Q I rx ry h
  obtain ⟨a, b, dx, dy, fs, gs, rfl, rfl, ha, hb2, q⟩ := h
  obtain rfl : v = Value.ref a := rx
  obtain rfl : u = Value.ref b := ry
  obtain ⟨m, fr⟩ := I.fr
  obtain ⟨_, O, _⟩ := ins_get I.hok ha
  obtain ⟨od, JI, _⟩ := O.look
  obtain ⟨_, O2, _⟩ := ins_get I.hok hb2
  obtain ⟨od2, JI2, _⟩ := O2.look
  refine PySem.W.binop_K fr I.ok.mod.kin JI JI2.type sf hm hf (run_vals F hr hb I (show Vals [V.ref a, V.ref b] [Value.ref a, Value.ref b] from .cons rfl (.cons rfl .nil)) q fun v u H2 s2 J rv q2 => ?_)
  obtain ⟨c, rfl, q3⟩ := q2
  obtain rfl : u = Value.ref c := rv
  exact ⟨.ref c, H2, J, rfl, q3⟩
theorem un_own (hm : PySem.W.findIn X.K (.ref C) "__invert__" = some (some (.ref f))) (hf : PySem.W.isFn X.K (.ref f) = true)
    (F : FnOk X.prog X.w X.K X.mg X.base CX0 k f fd ps sp) (hr : Room k X.A) (hb : L2.Binds X.K fd ps []) :
    UnR X (unaryOp .Invert) (fun x H Q => ∃ (a dx : Addr) (fs : List (Str × V)), x = .ref a ∧ H a = some (.ins C dx fs) ∧ sp [.ref a] H Q E0) := by
  intro pins s σ H x v Q I rx h
  obtain ⟨a, dx, fs, rfl, ha, q⟩ := h
  obtain rfl : v = Value.ref a := rx
  obtain ⟨m, fr⟩ := I.fr
  obtain ⟨_, O, _⟩ := ins_get I.hok ha
  obtain ⟨od, JI, _⟩ := O.look
  exact PySem.W.ksp_inv fr I.ok.mod.kin JI hm hf (run_vals F hr hb I (show Vals [V.ref a] [Value.ref a] from .cons rfl .nil) q fun v u H2 s2 J rv q2 => ⟨v, H2, J, rv, q2⟩)
end
end Fx
set_option maxHeartbeats 2000000
namespace Fx
open PySem PySem.Spec PyProof.Rows L2 TL

section
variable {P : Program} {w : World} {K : PySem.W.Frag} {mg : Str → Option Value} {base : Heap} {f C CB fB fS fC fW fT fI fA : Addr} {fd fdB fdS fdC fdW fdT fdI fdA : FuncData}
/-! ### formula.words(), str(formula) -/
def spMWords (C : Addr) : Sp := fun vs H Q _ => ∃ (a : Addr) (l : List Str), vs = [.ref a] ∧ FmAt H C a l ∧ l.length ≤ 4000000 ∧ ∀ p G, Same H G → H p = none → G p = some (.lst ((wordsOf l).map V.str)) → Q (.ref p) G
theorem sc_mwords : FnScope ["self"] ["self"] (defScope (inClass (tp 13) 1)) := ⟨rfl, rfl, rfl, by decide +kernel, rfl, by decide +kernel, by decide +kernel⟩
theorem ok_mwords (F : FnI K "Formula.words" "words" 13 1 f fd) (GW : FnOk P w K mg base CX0 1 fW fdW ["formulas"] (spWords K C)) (FW : FnT K "words_of" 21 fW fdW) (gW : mg "words_of" = some (.ref fW)) :
    FnOk P w K mg base CX0 2 f fd ["self"] (spMWords C) := by
  have bW : L2.Binds K fdW ["formulas"] [] := FW.bindsN fun _ _ _ _ _ _ us hl => match us, hl with | [_], _ => rfl
  refine F.ok sc_mwords (fun vs H Q E h => ?_) (fun cdv A outer s H vs Q E hr h => ⟨_, PSs.nox (pss_one (ps_ret (pe_call GW hr rfl gW FW.kp bW .nil pass0 (pa_cons (pe_lst (pa_cons (pv 0) pa_nil)) pa_nil)))), ?_⟩)
  · obtain ⟨a, l, rfl, _⟩ := h
    rfl
  · obtain ⟨a, l, rfl, fm, hl, q⟩ := h
    refine ⟨_, rfl, (by show 1 ≤ sizeLine; decide), fun p hp => ?_⟩
    have s1 := same_new hp (u := .lst [.ref a])
    refine ⟨p, [.ref a], [l], rfl, SqL.of upd_same, ⟨⟨a, rfl, fm.same s1⟩, trivial⟩, by rw [List.flatten_cons, List.flatten_nil, List.append_nil]; exact hl, fun p2 G s2 h2 g2 => ?_⟩
    rw [List.flatten_cons, List.flatten_nil, List.append_nil] at g2
    exact q p2 G (s1.trans s2) (s1.free h2) g2
def spMStr (C : Addr) : Sp := fun vs H Q _ => ∃ (a : Addr) (t : Fm), vs = [.ref a] ∧ FmAt H C a (post t) ∧ WF t ∧ wt (post t) ≤ 4000000 ∧ ∀ G, Same H G → Q (.str (trT t).1) G
theorem sc_mstr : FnScope ["self"] ["self"] (defScope (inClass (tp 13) 7)) := ⟨rfl, rfl, rfl, by decide +kernel, rfl, by decide +kernel, by decide +kernel⟩
theorem ok_mstr (F : FnI K "Formula.__str__" "__str__" 13 7 f fd) (T : TTxt K w mg) (X : FCls K C) (GT : FnOk P w K mg base CX0 2 fT fdT ["code"] (spText K)) (FT : FnT K "text_of" 19 fT fdT) (gT : mg "text_of" = some (.ref fT)) :
    FnOk P w K mg base CX0 3 f fd ["self"] (spMStr C) := by
  have bT : L2.Binds K fdT ["code"] [] := FT.bindsN fun _ _ _ _ _ _ us hl => match us, hl with | [_], _ => rfl
  refine F.ok sc_mstr (fun vs H Q E h => ?_) (fun cdv A outer s H vs Q E hr h => ⟨_, PSs.nox (pss_one (ps_ret (pe_callTy SkE.call_str_str rfl T.c.n.str (by decide +kernel) (pa_cons (pe_call GT hr rfl gT FT.kp bT .nil pass0 (pa_cons (pe_fld (pv 0) rfl) pa_nil)) pa_nil)))), ?_⟩)
  · obtain ⟨a, t, rfl, _⟩ := h
    rfl
  · obtain ⟨a, t, rfl, ⟨dx, p, h1, h2⟩, wf, hw, q⟩ := h
    exact ⟨_, rfl, a, C, dx, _, _, rfl, h1, X.cl, X.nc, rfl, p, t, rfl, SqT.of h2, wf, hw, fun G s1 => ⟨_, rfl, q G s1⟩⟩
/-! ### as_formula -/
/-- a Formula is at hand, or something of which Formula(..) makes one -/
structure MTxt (K : PySem.W.Frag) (mg : Str → Option Value) (C fI : Addr) : Prop where
  g : mg "Formula" = some (.ref C)
  mkr : Mk K C fI
  str : PySem.W.kitOne K (.type "str") (.ref C) = some false
  ca : PySem.W.findIn K (.ref C) "__class__" = some (some (.builtin "object.__class__"))
  sg : PySem.W.specialIn K (.builtin "object.__class__") "__get__" = some (some (.builtin "getset_descriptor.__get__"))
  tk : PySem.W.takesIn K (.builtin "object.__class__") = some true
  mr : PySem.W.mroIn K C (.type "object") = some true
def spAs (C : Addr) : Sp := fun vs H Q _ => ∃ v, vs = [v] ∧ ((∃ (a : Addr) (l : List Str), v = .ref a ∧ FmAt H C a l ∧ Q (.ref a) H) ∨
  ∃ z : Str, v = .str z ∧ z.length ≤ 3900 ∧ signsOf z ≠ [] ∧ ∀ a G, Same H G → H a = none → FmAt G C a (codeOf (signsOf z)) → Q (.ref a) G)
theorem sc_as : FnScope ["thing"] ["thing"] (defScope (tp 14)) := ⟨rfl, rfl, rfl, by decide +kernel, rfl, by decide +kernel, by decide +kernel⟩
/-- Formula(z), z an accepted text: a new Formula -/
theorem rd_mkF {G : Hp} {Q : VK} {z : Str} (hz : z.length ≤ 3900) (hs : signsOf z ≠ []) (q : ∀ a G2, Same G G2 → G a = none → FmAt G2 C a (codeOf (signsOf z)) → Q (.ref a) G2) :
    ∀ x dx, G x = none → G dx = none → dx ≠ x → spInitF K C CB (.ref x :: ([.str z] ++ [])) (upd (upd G dx (.own x)) x (.ins C dx [])) (fun v H2 => v = .non ∧ Q (.ref x) H2) E0 := by
  intro x dx hx hd ne
  refine ⟨x, dx, .str z, rfl, upd_same, any_str (Nat.le_trans hz (by decide)), fun y e => ?_, fun e => absurd e hs, fun _ p G3 k1 k2 k3 k4 => ⟨rfl, q x G3 ?_ hx ⟨dx, p, k2, k4⟩⟩⟩
  · cases e
    exact hz
  · intro b o hb
    have nx : b ≠ x := ne_of_none hb hx
    refine k1 b o nx ?_
    rw [upd_ne nx, upd_ne (ne_of_none hb hd)]
    exact hb
theorem ok_as (F : FnT K "as_formula" 14 f fd) (T : CTxt K w mg) (X : FCls K C) (M : MTxt K mg C fI) (GI : FnOk P w K mg base (L2.CX P w) 5 fI fdI ["self", "text"] (spInitF K C CB)) (FI : FnI K "Formula.__init__" "__init__" 13 0 fI fdI) :
    FnOk P w K mg base CX0 7 f fd ["thing"] (spAs C) := by
  have bI : L2.Binds K fdI ["self", "text"] [] := FI.bindsN fun _ _ _ _ _ _ us hl => match us, hl with | [_, _], _ => rfl
  have gF := M.g
  have MF := M.mkr
  refine F.ok sc_as (fun vs H Q E h => ?_) (fun cdv A outer s H vs Q E hr h => ⟨_, PSs.nox (pss_one (ps_ret (pe_ifExp (pt_val (pe_callB call_isi rfl T.n.isi (by decide +kernel) (pa_cons (pv 0) (pa_cons (pe_glob (v := .ref C) rfl gF rfl) pa_nil)))) (pv 0) (pe_make MF GI (hr.mono (by decide)) rfl gF bI .nil passL (pa_cons (pv 0) pa_nil))))), ?_⟩)
  · obtain ⟨v, rfl, _⟩ := h
    rfl
  · obtain ⟨v, rfl, ⟨a, l, rfl, ⟨dx, p, h1, h2⟩, q⟩ | ⟨z, rfl, hz, hs, q⟩⟩ := h
    · have kb : PySem.W.kitOne K (.ref C) (.ref C) = some true := by
        unfold PySem.W.kitOne
        rw [if_pos (by simp)]
      refine ⟨_, rfl, .ref a, .ref C, .ref C, .ref C, true, rfl, .own C, .base (.ins h1 X.cl M.ca M.sg M.tk M.mr), kb, true, rfl, ?_⟩
      exact iteT ⟨_, rfl, q⟩
    · refine ⟨_, rfl, .str z, .ref C, .type "str", .ref C, false, rfl, .own C, .base (.str z), M.str, false, rfl, ?_⟩
      exact iteF ⟨_, rfl, rd_mkF hz hs q⟩
end
end Fx
set_option maxHeartbeats 2000000
namespace Fx
open PySem PySem.Spec PyProof.Rows L2 TL

/-- what holds: a list or a tuple; of each text it is known whether it is in it -/
def InOk (K : PySem.W.Frag) (H : Hp) (v : V) (inW : Str → Bool) : Prop :=
  (∃ p xs, v = .ref p ∧ (SqL K H p xs ∨ SqT K H p xs) ∧ xs.all flatV = true ∧ ∀ s, inW s = inV (.str s) xs) ∨
  (∃ ds, Dp K H v (.list ds) ∧ SeqAt.shaped (.list ds) = true ∧ ∀ s, PyData.strOk s = true → inW s = ds.any fun z => PyData.eqv z (.str s))
def rInW (K : PySem.W.Frag) : R2 := fun x y H Q => rIn K false x y H Q ∨ rInD K x y H Q
mutual
theorem dp_same {K : PySem.W.Frag} {G G' : Hp} (s : Same G G') : ∀ {v : V} {d : PyData}, Dp K G v d → Dp K G' v d
  | _, _, .non => .non
  | _, _, .bl b => .bl b
  | _, _, .int i => .int i
  | _, _, .str x => .str x
  | _, _, .lst h r => .lst (s.seq h) (dpAll_same s r)
  | _, _, .tup h r => .tup (by
      rcases h with (h | ⟨o, h⟩) | h
      · exact .inl (.inl (s _ _ h))
      · exact .inl (.inr ⟨o, s _ _ h⟩)
      · exact .inr h) (dpAll_same s r)
theorem dpAll_same {K : PySem.W.Frag} {G G' : Hp} (s : Same G G') : ∀ {vs : List V} {ds : List PyData}, DpAll K G vs ds → DpAll K G' vs ds
  | _, _, .nil => .nil
  | _, _, .cons h r => .cons (dp_same s h) (dpAll_same s r)
end
theorem sqT_same {K : PySem.W.Frag} {G G' : Hp} {a : Addr} {xs : List V} (s : Same G G') (h : SqT K G a xs) : SqT K G' a xs := by
  rcases h with (h | ⟨o, h⟩) | h
  · exact .inl (.inl (s _ _ h))
  · exact .inl (.inr ⟨o, s _ _ h⟩)
  · exact .inr h
theorem InOk.same {K : PySem.W.Frag} {H G : Hp} {v : V} {inW : Str → Bool} (s : Same H G) (h : InOk K H v inW) : InOk K G v inW := by
  rcases h with ⟨p, xs, e, h, r⟩ | ⟨ds, h, r⟩
  · refine .inl ⟨p, xs, e, ?_, r⟩
    rcases h with h | h
    · exact .inl (s.seq h)
    · exact .inr (sqT_same s h)
  · exact .inr ⟨ds, dp_same s h, r⟩
/-- a comprehension of a dict over a list that stays -/
theorem dcw {K : PySem.W.Frag} {a : Addr} {xs : List V} {g : TG} {tt : TT} {tk tv : TE} {vs : List Nat} {σ : L2.St} {H1 : Hp} {D : Addr} {Qd : Hp → Prop} (Pv : Nat → Hp → Prop) (h0 : Pv 0 (upd H1 D (.dK []))) (hl : ∀ i H, Pv i H → SqL K H a xs)
    (hs : ∀ i x H, xs[i]? = some x → Pv i H → g x (wipe σ vs) H fun σ2 H2 => wipe σ2 vs = wipe σ vs ∧ tt σ2 H2 fun b H3 =>
      if b = true then tk σ2 H3 fun y H4 => tv σ2 H4 fun z H5 => ∃ kvs k, y = kV k ∧ H5 D = some (.dK kvs) ∧ kvs.length < sizeLine ∧ Pv (i + 1) (upd H5 D (.dK (putK kvs k z))) else Pv (i + 1) H3) (hd : ∀ H, Pv xs.length H → Qd H) :
    ∃ W : Nat → Nat → Hp → Prop, (∃ m, W 0 m (upd H1 D (.dK []))) ∧ ∀ i m H, W i m H →
      ((Itl K a).stop i H ∧ Qd H) ∨ ((Itl K a).go i H ∧ ∃ Nx : Hp → Prop, (∀ H', Nx H' → ∃ m', m' < m ∧ W (i + 1) m' H') ∧ ∀ x H', (Itl K a).yld i H x H' → g x (wipe σ vs) H' fun σ2 H2 => wipe σ2 vs = wipe σ vs ∧ tt σ2 H2 fun b H3 =>
        if b = true then tk σ2 H3 fun y H4 => tv σ2 H4 fun z H5 => ∃ kvs k, y = kV k ∧ H5 D = some (.dK kvs) ∧ kvs.length < sizeLine ∧ Nx (upd H5 D (.dK (putK kvs k z))) else Nx H3) := by
  refine ⟨fun i m H => m = xs.length - i ∧ i ≤ xs.length ∧ Pv i H, ⟨xs.length, by simp, Nat.zero_le _, h0⟩, ?_⟩
  rintro i m H ⟨rfl, hi, p⟩
  have q := hl i H p
  have W := walk_list (K := K) (a := a) (xs := xs)
  by_cases hlt : i < xs.length
  · refine .inr ⟨W.goes i H hlt q, Pv (i + 1), fun H' p' => ⟨xs.length - (i + 1), by omega, rfl, hlt, p'⟩, fun x H' y => ?_⟩
    obtain ⟨e, hx⟩ := W.yields i H x H' hlt q y
    subst e
    exact hs i x _ hx p
  · have e : i = xs.length := by omega
    subst e
    exact .inl ⟨W.stops H q, hd H p⟩
theorem mem_words : ∀ (l acc : List Str) (s : Str), isOper s = false → isConst s = false → (s ∈ l ∨ s ∈ acc) → s ∈ l.foldl addWord acc
  | [], acc, s, _, _, h => by
    rcases h with h | h
    · cases h
    · exact h
  | x :: l, acc, s, h1, h2, h => by
    refine mem_words l (addWord acc x) s h1 h2 ?_
    by_cases hl : s ∈ l
    · exact .inl hl
    · refine .inr ?_
      unfold addWord
      rcases h with h | h
      · rcases List.mem_cons.mp h with e | e
        · subst e
          split
          · exact List.mem_append_right _ (List.mem_singleton.mpr rfl)
          · rename_i hc
            rw [h1, h2] at hc
            simp only [Bool.not_false, Bool.true_and, Bool.not_eq_true', Bool.not_eq_false] at hc
            obtain ⟨y, hy, e⟩ := List.any_eq_true.mp hc
            rw [← eq_of_beq e]
            exact hy
        · exact absurd e hl
      · split
        · exact List.mem_append_left _ h
        · exact h
theorem words_sub : ∀ (l acc : List Str) (s : Str), s ∈ l.foldl addWord acc → s ∈ acc ∨ s ∈ l
  | [], _, _, h => .inl h
  | x :: l, acc, s, h => by
    rcases words_sub l (addWord acc x) s h with w1 | w1
    · unfold addWord at w1
      split at w1
      · rcases List.mem_append.mp w1 with w2 | w2
        · exact .inl w2
        · rw [List.mem_singleton.mp w2]
          exact .inr List.mem_cons_self
      · exact .inl w1
    · exact .inr (List.mem_cons_of_mem _ w1)
section
variable {P : Program} {w : World} {K : PySem.W.Frag} {mg : Str → Option Value} {base : Heap} {f C CB fB fS fC fW fT fI fA fM : Addr} {fd fdB fdS fdC fdW fdT fdI fdA fdM : FuncData}
def b2 (b : Bool) : Int := if b then 1 else 0
def spHolds (K : PySem.W.Frag) (C : Addr) : Sp := fun vs H Q _ => ∃ (a : Addr) (v : V) (t : Fm) (inW : Str → Bool), vs = [.ref a, v] ∧ FmAt H C a (post t) ∧ WF t ∧ (post t).length ≤ 4000000 ∧ (∀ s ∈ post t, PyData.strOk s = true) ∧ InOk K H v inW ∧
  ∀ G, Same H G → Q (.bl (evalT (fun s => b2 (inW s)) 1 t == 1)) G
theorem sc_holds : FnScope ["self", "words", "word"] ["self", "words"] (defScope (inClass (tp 13) 2)) := ⟨rfl, rfl, rfl, by decide +kernel, rfl, by decide +kernel, by decide +kernel⟩
theorem ok_holds (F : FnI K "Formula.holds" "holds" 13 2 f fd) (X : FCls K C) (gI : mg "int" = none) (GW : FnOk P w K mg base CX0 1 fW fdW ["code", "columns", "full"] (spWorth K)) (FW : FnT K "worth" 22 fW fdW) (gW : mg "worth" = some (.ref fW))
    (MW : Meth K C "words" fM) (GM : FnOk P w K mg base CX0 2 fM fdM ["self"] (spMWords C)) (FM : FnI K "Formula.words" "words" 13 1 fM fdM) : FnOk P w K mg base CX0 3 f fd ["self", "words"] (spHolds K C) := by
  have bW : L2.Binds K fdW ["code", "columns", "full"] [] := FW.bindsN fun _ _ _ _ _ _ us hl => match us, hl with | [_, _, _], _ => rfl
  have bM : L2.Binds K fdM ["self"] [] := FM.bindsN fun _ _ _ _ _ _ us hl => match us, hl with | [_], _ => rfl
  refine F.ok sc_holds (fun vs H Q E h => ?_) (fun cdv A outer s H vs Q E hr h => ?_)
  · obtain ⟨a, v, t, inW, rfl, _⟩ := h
    rfl
  · have hu65 : (A.deeper (envOfC "Formula.holds" (defScope (inClass (tp 13) 2)) s.heap.objs.size f cdv)).units + 65 < cLine := by have := hr.un; omega
    refine ⟨_, PSs.nox (pss_one (ps_ret (pe_cmpR op_eq (pe_call GW (hr.mono (by decide)) rfl gW FW.kp bW .nil pass0 (pa_cons (pe_fld (pv 0) rfl) (pa_cons (pe_dc (own := [("word", 2)]) (g := gName 2) (tt := tYes) rfl sc_holds.nd (pi_list (pe_meth0 (pv 0) X.cl MW GM (hr.mono (by decide)) bM .nil pass0))
        (blkOk_by (N := ["self", "words", "word"]) (sc := defScope (inClass (tp 13) 2)) (by decide +kernel)) (fun _ _ _ _ _ => pg_name (i := 2) sc_holds.nd rfl (Or.inl rfl)) (fun _ _ _ _ _ => pts_nil)
        (fun _ _ _ _ _ => pv 2) (fun _ _ _ _ _ => pe_callTy call_int1 rfl gI (by decide +kernel) (pa_cons (pe_cmpR (r := rInW K) (op_in_seq.or (op_inD hu65)) (pv 2) (pv 1) (by rfl)) pa_nil))) (pa_cons pe_int pa_nil)))) pe_int (nomark _)))), ?_⟩
    obtain ⟨a, v, t, inW, rfl, ⟨dx, p, h1, h2⟩, wf, hl, hstr, hin, q⟩ := h
    have line : (4000010 : Nat) ≤ sizeLine := by decide
    refine ⟨_, rfl, a, C, dx, _, _, rfl, h1, X.cl, X.nc, rfl, ?_⟩
    refine ⟨_, rfl, a, dx, _, rfl, h1, rfl, a, post t, rfl, ⟨dx, p, h1, h2⟩, hl, fun r G s1 hr0 g1 => ?_⟩
    have sub : ∀ x ∈ wordsOf (post t), x ∈ post t := fun x hx => by
      rcases words_sub _ _ _ hx with w1 | w1
      · cases w1
      · exact w1
    have hwl : (wordsOf (post t)).length ≤ 4000000 := by
      have w1 := words_len (post t) []
      simp only [List.length_nil] at w1
      have w2 : (wordsOf (post t)).length ≤ 0 + (post t).length := w1
      omega
    have hmem := fun (x : Str) (h3 : isOper x = false) (h4 : isConst x = false) (h5 : x ∈ post t) => mem_words (post t) [] x h3 h4 (.inl h5)
    have hmem2 : ∀ x : Str, isOper x = false → isConst x = false → x ∈ post t → x ∈ wordsOf (post t) := hmem
    generalize wordsOf (post t) = ws at g1 sub hwl hmem2
    refine ⟨r, rfl, ⟨_, SqL.of g1⟩, fun D hD => ?_⟩
    refine dcw (K := K) (a := r) (xs := ws.map V.str) (fun i G2 => Same G G2 ∧ ∃ kvs, G2 D = some (.dK kvs) ∧ kvs.length ≤ i ∧ ∀ x ∈ ws.take i, valV kvs (Sum.inr x) = some (.int (b2 (inW x))))
      ⟨same_new hD, [], upd_same, Nat.le_refl _, fun x hx => by cases hx⟩ (fun i G2 h => SqL.of (h.1 _ _ g1)) ?_ ?_
    · rintro i x G2 hi ⟨s2, kvs, hk, hkl, hkv⟩
      obtain ⟨y, hy, rfl⟩ : ∃ y, ws[i]? = some y ∧ x = V.str y := by
        rw [List.getElem?_map] at hi
        cases e : ws[i]? with
        | none =>
          rw [e] at hi
          cases hi
        | some y =>
          rw [e] at hi
          exact ⟨y, rfl, (Option.some.inj hi).symm⟩
      have hyw := List.mem_of_getElem? hy
      have hlt := (List.getElem?_eq_some_iff.mp hy).1
      refine ⟨rfl, ?_⟩
      dsimp only [tYes]
      rw [if_pos rfl]
      refine ⟨_, rfl, _, rfl, _, rfl, ?_⟩
      have key : ∀ c : Bool, c = inW y → ∃ kvs2 k, V.str y = kV k ∧ G2 D = some (.dK kvs2) ∧ kvs2.length < sizeLine ∧ (Same G (upd G2 D (.dK (putK kvs2 k (.int (if c = true then 1 else 0))))) ∧
          ∃ kvs, (upd G2 D (.dK (putK kvs2 k (.int (if c = true then 1 else 0))))) D = some (.dK kvs) ∧ kvs.length ≤ i + 1 ∧ ∀ x ∈ ws.take (i + 1), valV kvs (Sum.inr x) = some (.int (b2 (inW x)))) := by
        intro c hc
        refine ⟨kvs, Sum.inr y, rfl, hk, by omega, ?_, _, upd_same, ?_, ?_⟩
        · intro b o hb
          rw [upd_ne (ne_of_none hb hD)]
          exact s2 _ _ hb
        · unfold putK
          split
          · rw [List.length_map]
            omega
          · rw [List.length_append, List.length_singleton]
            omega
        · intro x hx
          rw [take_snoc hy] at hx
          rw [valV_put, hc]
          by_cases e : x = y
          · subst e
            rw [if_pos rfl] <;> rfl
          · rw [if_neg (fun z => e (Sum.inr.inj z))]
            rcases List.mem_append.mp hx with w1 | w1
            · exact hkv x w1
            · exact absurd (List.mem_singleton.mp w1) e
      have s12 := s1.trans s2
      rcases hin.same s12 with ⟨p2, xs, rfl, hsq, hfl, hiw⟩ | ⟨ds, hdp, hsh, hiw⟩
      · refine .inl ⟨p2, xs, rfl, hsq, rfl, hfl, .inr ⟨_, rfl, ?_⟩⟩
        rw [if_neg Bool.false_ne_true]
        exact key _ (hiw y).symm
      · have hok := hstr y (sub y hyw)
        exact .inr ⟨.str y, ds, .str y, hdp, by unfold SeqAt.shaped; show (PyData.strOk y && _) = true; rw [hok] <;> rfl, hsh, .inr ⟨_, rfl, key _ (hiw y hok).symm⟩⟩
    · rintro G2 ⟨s2, kvs, hk, hkl, hkv⟩
      have s12 := s1.trans s2
      rw [List.length_map, List.take_length] at hkv
      refine ⟨p, D, 1, t, kvs, fun x => b2 (inW x), rfl, SqT.of (s12 _ _ h2), wf, hl, hk, fun x h5 h3 h4 => hkv x (hmem2 x h3 h4 h5), fun G3 s3 => ⟨rfl, ?_⟩⟩
      have w1 := q G3 (s12.trans s3)
      show Q (.bl (decide (V.int _ = V.int _))) G3
      rw [dec_int]
      exact w1
end
end Fx
set_option maxHeartbeats 2000000
namespace Fx
open PySem PySem.Spec PyProof.Rows L2 TL

def binText (mid x y : Str) : Str := Str.empty ++ ("(" : Str) ++ x ++ mid ++ y ++ (")" : Str)
def negText (x : Str) : Str := Str.empty ++ ("not (" : Str) ++ x ++ (")" : Str)
def spBin (C : Addr) (mid : Str) : Sp := fun vs H Q _ => ∃ (a b : Addr) (t u : Fm), vs = [.ref a, .ref b] ∧ FmAt H C a (post t) ∧ FmAt H C b (post u) ∧ WF t ∧ WF u ∧ wt (post t) ≤ 4000000 ∧ wt (post u) ≤ 4000000 ∧
  (binText mid (trT t).1 (trT u).1).length ≤ 3900 ∧ signsOf (binText mid (trT t).1 (trT u).1) ≠ [] ∧
  ∀ c G, Same H G → H c = none → FmAt G C c (codeOf (signsOf (binText mid (trT t).1 (trT u).1))) → Q (.ref c) G
def spInv (C : Addr) : Sp := fun vs H Q _ => ∃ (a : Addr) (t : Fm), vs = [.ref a] ∧ FmAt H C a (post t) ∧ WF t ∧ wt (post t) ≤ 4000000 ∧
  (negText (trT t).1).length ≤ 3900 ∧ signsOf (negText (trT t).1) ≠ [] ∧ ∀ c G, Same H G → H c = none → FmAt G C c (codeOf (signsOf (negText (trT t).1))) → Q (.ref c) G
section
variable {P : Program} {w : World} {K : PySem.W.Frag} {mg : Str → Option Value} {base : Heap} {f C CB fB fS fC fW fT fI fA fM : Addr} {fd fdB fdS fdC fdW fdT fdI fdA fdM : FuncData}
theorem sc_and : FnScope ["self", "other"] ["self", "other"] (defScope (inClass (tp 13) 3)) := ⟨rfl, rfl, rfl, by decide +kernel, rfl, by decide +kernel, by decide +kernel⟩
theorem ok_and (F : FnI K "Formula.__and__" "__and__" 13 3 f fd) (S : SCls K C fS) (GS : FnOk P w K mg base CX0 3 fS fdS ["self"] (spMStr C)) (FS : FnI K "Formula.__str__" "__str__" 13 7 fS fdS) (M : MTxt K mg C fI)
    (GI : FnOk P w K mg base (L2.CX P w) 5 fI fdI ["self", "text"] (spInitF K C CB)) (FI : FnI K "Formula.__init__" "__init__" 13 0 fI fdI) (GA : FnOk P w K mg base CX0 7 fA fdA ["thing"] (spAs C)) (FA : FnT K "as_formula" 14 fA fdA) (gA : mg "as_formula" = some (.ref fA)) :
    FnOk P w K mg base CX0 8 f fd ["self", "other"] (spBin C ") and (") := by
  have bS : L2.Binds K fdS ["self"] [] := FS.bindsN fun _ _ _ _ _ _ us hl => match us, hl with | [_], _ => rfl
  have bI : L2.Binds K fdI ["self", "text"] [] := FI.bindsN fun _ _ _ _ _ _ us hl => match us, hl with | [_, _], _ => rfl
  have bA : L2.Binds K fdA ["thing"] [] := FA.bindsN fun _ _ _ _ _ _ us hl => match us, hl with | [_], _ => rfl
  have gF := M.g
  have MF := M.mkr
  refine F.ok sc_and (fun vs H Q E h => ?_) (fun cdv A outer s H vs Q E hr h => ⟨_, PSs.nox (pss_one (ps_ret (pe_make MF GI (hr.mono (by decide)) rfl gF bI .nil passL (pa_cons (pe_joined (PJ.cons pe_str (PJ.cons (pe_fmtI S GS (hr.mono (by decide)) bS (pv 0)) (PJ.cons pe_str (PJ.cons (pe_fmtI S GS (hr.mono (by decide)) bS (pe_call GA (hr.mono (by decide)) rfl gA FA.kp bA .nil pass0 (pa_cons (pv 1) pa_nil))) (PJ.cons pe_str PJ.nil)))))) pa_nil)))), ?_⟩)
  · obtain ⟨a, b, t, u, rfl, _⟩ := h
    rfl
  · obtain ⟨a, b, t, u, rfl, fa, fb, wa, wb, la, lb, hz, hs, q⟩ := h
    have line : (4000 : Nat) ≤ sizeLine := by decide
    unfold binText at hz hs q
    have l1 := hz
    rw [len_app, len_app, len_app, len_app, len_app] at l1
    obtain ⟨dx, p, a1, a2⟩ := fa
    refine ⟨_, rfl, by decide, _, rfl, a, dx, _, rfl, a1, a, t, rfl, ⟨dx, p, a1, a2⟩, wa, la, fun G s1 => ⟨_, rfl, _, rfl, by rw [len_app, len_app]; omega, _, rfl, by rw [len_app, len_app, len_app]; omega, ?_⟩⟩
    refine ⟨_, rfl, .ref b, rfl, .inl ⟨b, post u, rfl, fb.same s1, ?_⟩⟩
    obtain ⟨dy, p2, b1, b2⟩ := fb.same s1
    refine ⟨b, dy, _, rfl, b1, b, u, rfl, ⟨dy, p2, b1, b2⟩, wb, lb, fun G2 s2 => ⟨_, rfl, _, rfl, by rw [len_app, len_app, len_app, len_app]; omega, _, rfl, by omega, ?_⟩⟩
    exact rd_mkF hz hs fun c G3 s3 n3 f3 => q c G3 ((s1.trans s2).trans s3) ((s1.trans s2).free n3) f3
theorem sc_or : FnScope ["self", "other"] ["self", "other"] (defScope (inClass (tp 13) 4)) := ⟨rfl, rfl, rfl, by decide +kernel, rfl, by decide +kernel, by decide +kernel⟩
theorem ok_or (F : FnI K "Formula.__or__" "__or__" 13 4 f fd) (S : SCls K C fS) (GS : FnOk P w K mg base CX0 3 fS fdS ["self"] (spMStr C)) (FS : FnI K "Formula.__str__" "__str__" 13 7 fS fdS) (M : MTxt K mg C fI)
    (GI : FnOk P w K mg base (L2.CX P w) 5 fI fdI ["self", "text"] (spInitF K C CB)) (FI : FnI K "Formula.__init__" "__init__" 13 0 fI fdI) (GA : FnOk P w K mg base CX0 7 fA fdA ["thing"] (spAs C)) (FA : FnT K "as_formula" 14 fA fdA) (gA : mg "as_formula" = some (.ref fA)) :
    FnOk P w K mg base CX0 8 f fd ["self", "other"] (spBin C ") or (") := by
  have bS : L2.Binds K fdS ["self"] [] := FS.bindsN fun _ _ _ _ _ _ us hl => match us, hl with | [_], _ => rfl
  have bI : L2.Binds K fdI ["self", "text"] [] := FI.bindsN fun _ _ _ _ _ _ us hl => match us, hl with | [_, _], _ => rfl
  have bA : L2.Binds K fdA ["thing"] [] := FA.bindsN fun _ _ _ _ _ _ us hl => match us, hl with | [_], _ => rfl
  have gF := M.g
  have MF := M.mkr
  refine F.ok sc_or (fun vs H Q E h => ?_) (fun cdv A outer s H vs Q E hr h => ⟨_, PSs.nox (pss_one (ps_ret (pe_make MF GI (hr.mono (by decide)) rfl gF bI .nil passL (pa_cons (pe_joined (PJ.cons pe_str (PJ.cons (pe_fmtI S GS (hr.mono (by decide)) bS (pv 0)) (PJ.cons pe_str (PJ.cons (pe_fmtI S GS (hr.mono (by decide)) bS (pe_call GA (hr.mono (by decide)) rfl gA FA.kp bA .nil pass0 (pa_cons (pv 1) pa_nil))) (PJ.cons pe_str PJ.nil)))))) pa_nil)))), ?_⟩)
  · obtain ⟨a, b, t, u, rfl, _⟩ := h
    rfl
  · obtain ⟨a, b, t, u, rfl, fa, fb, wa, wb, la, lb, hz, hs, q⟩ := h
    have line : (4000 : Nat) ≤ sizeLine := by decide
    unfold binText at hz hs q
    have l1 := hz
    rw [len_app, len_app, len_app, len_app, len_app] at l1
    obtain ⟨dx, p, a1, a2⟩ := fa
    refine ⟨_, rfl, by decide, _, rfl, a, dx, _, rfl, a1, a, t, rfl, ⟨dx, p, a1, a2⟩, wa, la, fun G s1 => ⟨_, rfl, _, rfl, by rw [len_app, len_app]; omega, _, rfl, by rw [len_app, len_app, len_app]; omega, ?_⟩⟩
    refine ⟨_, rfl, .ref b, rfl, .inl ⟨b, post u, rfl, fb.same s1, ?_⟩⟩
    obtain ⟨dy, p2, b1, b2⟩ := fb.same s1
    refine ⟨b, dy, _, rfl, b1, b, u, rfl, ⟨dy, p2, b1, b2⟩, wb, lb, fun G2 s2 => ⟨_, rfl, _, rfl, by rw [len_app, len_app, len_app, len_app]; omega, _, rfl, by omega, ?_⟩⟩
    exact rd_mkF hz hs fun c G3 s3 n3 f3 => q c G3 ((s1.trans s2).trans s3) ((s1.trans s2).free n3) f3
theorem sc_inv : FnScope ["self"] ["self"] (defScope (inClass (tp 13) 5)) := ⟨rfl, rfl, rfl, by decide +kernel, rfl, by decide +kernel, by decide +kernel⟩
theorem ok_inv (F : FnI K "Formula.__invert__" "__invert__" 13 5 f fd) (S : SCls K C fS) (GS : FnOk P w K mg base CX0 3 fS fdS ["self"] (spMStr C)) (FS : FnI K "Formula.__str__" "__str__" 13 7 fS fdS) (M : MTxt K mg C fI)
    (GI : FnOk P w K mg base (L2.CX P w) 5 fI fdI ["self", "text"] (spInitF K C CB)) (FI : FnI K "Formula.__init__" "__init__" 13 0 fI fdI) : FnOk P w K mg base CX0 8 f fd ["self"] (spInv C) := by
  have bS : L2.Binds K fdS ["self"] [] := FS.bindsN fun _ _ _ _ _ _ us hl => match us, hl with | [_], _ => rfl
  have bI : L2.Binds K fdI ["self", "text"] [] := FI.bindsN fun _ _ _ _ _ _ us hl => match us, hl with | [_, _], _ => rfl
  have gF := M.g
  have MF := M.mkr
  refine F.ok sc_inv (fun vs H Q E h => ?_) (fun cdv A outer s H vs Q E hr h => ⟨_, PSs.nox (pss_one (ps_ret (pe_make MF GI (hr.mono (by decide)) rfl gF bI .nil passL (pa_cons (pe_joined (PJ.cons pe_str (PJ.cons (pe_fmtI S GS (hr.mono (by decide)) bS (pv 0)) (PJ.cons pe_str PJ.nil)))) pa_nil)))), ?_⟩)
  · obtain ⟨a, t, rfl, _⟩ := h
    rfl
  · obtain ⟨a, t, rfl, fa, wa, la, hz, hs, q⟩ := h
    have line : (4000 : Nat) ≤ sizeLine := by decide
    unfold negText at hz hs q
    have l1 := hz
    rw [len_app, len_app, len_app] at l1
    obtain ⟨dx, p, a1, a2⟩ := fa
    refine ⟨_, rfl, by decide, _, rfl, a, dx, _, rfl, a1, a, t, rfl, ⟨dx, p, a1, a2⟩, wa, la, fun G s1 => ⟨_, rfl, _, rfl, by rw [len_app, len_app]; omega, _, rfl, by omega, ?_⟩⟩
    exact rd_mkF hz hs fun c G3 s3 n3 f3 => q c G3 (s1.trans s3) (s1.free n3) f3
end
end Fx
set_option maxHeartbeats 2000000
namespace Fx
open PySem PySem.Spec PyProof.Rows L2 TL

/-- numbers below the sizes -/
def Rng : List Int → List Int → Prop
  | [], [] => True
  | n :: ns, s :: ss => (0 ≤ n ∧ n < s) ∧ Rng ns ss
  | _, _ => False
theorem Rng.snoc : ∀ {ns ss : List Int} {n s : Int}, Rng ns ss → 0 ≤ n → n < s → Rng (ns ++ [n]) (ss ++ [s])
  | [], [], _, _, _, h0, h1 => ⟨⟨h0, h1⟩, trivial⟩
  | _ :: _, _ :: _, _, _, ⟨h, r⟩, h0, h1 => ⟨h, Rng.snoc r h0 h1⟩
  | [], _ :: _, _, _, h, _, _ => h.elim
  | _ :: _, [], _, _, h, _, _ => h.elim
theorem Rng.len : ∀ {ns ss : List Int}, Rng ns ss → ns.length = ss.length
  | [], [], _ => rfl
  | _ :: _, _ :: _, ⟨_, r⟩ => by rw [List.length_cons, List.length_cons, Rng.len r]
  | [], _ :: _, h => h.elim
  | _ :: _, [], h => h.elim
theorem Rng.at : ∀ {ns ss : List Int} {i : Nat} {n : Int}, Rng ns ss → ns[i]? = some n → ∃ s, ss[i]? = some s ∧ 0 ≤ n ∧ n < s
  | [], _, _, _, _, e => by simp at e
  | n :: ns, s :: ss, 0, m, ⟨h, _⟩, e => by
    have e2 : n = m := by simpa using e
    subst e2
    exact ⟨s, rfl, h⟩
  | n :: ns, s :: ss, i + 1, m, ⟨_, r⟩, e => by
    have e2 : ns[i]? = some m := by simpa using e
    obtain ⟨t, h1, h2⟩ := Rng.at r e2
    exact ⟨t, by simpa using h1, h2⟩
  | _ :: _, [], _, _, h, _ => h.elim
theorem rd_appI {H0 G : Hp} {l : Addr} {xs : List Int} {y : Int} {Qd : Hp → Prop} (hl : H0 l = none) (s : Same H0 G) (h : G l = some (.lst (xs.map V.int))) (z : xs.length < sizeLine)
    (k : ∀ G', Same H0 G' → G' l = some (.lst ((xs ++ [y]).map V.int)) → (∀ b, b ≠ l → G' b = G b) → Qd G') : rAppend (.ref l) [.int y] G (fun _ H => Qd H) := by
  refine ⟨l, _, _, rfl, rfl, h, by rw [List.length_map]; exact z, k _ ?_ ?_ fun b hb => upd_ne hb⟩
  · intro b u hb
    rw [upd_ne (ne_of_none hb hl)]
    exact s b u hb
  · rw [upd_same, List.map_append] <;> rfl
theorem int_at {xs : List Int} {i : Nat} {x : V} (h : (xs.map V.int)[i]? = some x) : ∃ n, xs[i]? = some n ∧ x = V.int n := by
  rw [List.getElem?_map] at h
  cases e : xs[i]? with
  | none =>
    rw [e] at h
    cases h
  | some n =>
    rw [e] at h
    exact ⟨n, rfl, (Option.some.inj h).symm⟩
structure LTxt (mg : Str → Option Value) : Prop where
  int : mg "int" = none
  len : mg "len" = none
  range : mg "range" = none
section
variable {P : Program} {w : World} {K : PySem.W.Frag} {mg : Str → Option Value} {base : Heap} {f : Addr} {fd : FuncData}
def spCell (K : PySem.W.Frag) : Sp := fun vs H Q _ => ∃ (a : Addr) (k : Nat) (ns : List Int), vs = [.ref a, .int k] ∧ SqL K H a (ns.map V.int) ∧ ∀ i, Q (.int i) H
theorem sc_cell : FnScope ["_law_script", "_law_k"] ["_law_script", "_law_k"] (defScope (tp 26)) := ⟨rfl, rfl, rfl, by decide +kernel, rfl, by decide +kernel, by decide +kernel⟩
theorem ok_cell (F : FnT K "_law_cell" 26 f fd) (T : LTxt mg) : FnOk P w K mg base CX0 1 f fd ["_law_script", "_law_k"] (spCell K) := by
  refine F.ok sc_cell (fun vs H Q E h => ?_) (fun cdv A outer s H vs Q E hr h => ⟨_, PSs.nox (
    pss_cons (ps_if (pt_cmpR op_lt (pv 1) (pe_callB call_len rfl T.len boot_len (pa_cons (pv 0) pa_nil)) (nomark _)) (pss_one (ps_ret (pe_ix ix_list (pv 0) (pv 1) (fun _ _ => rfl)))) pss_nil)
    (pss_one (ps_ret pe_int))), ?_⟩)
  · obtain ⟨a, k, ns, rfl, _⟩ := h
    rfl
  · obtain ⟨a, k, ns, rfl, hs, q⟩ := h
    refine ⟨_, rfl, _, rfl, _, (ns.map V.int).length, rfl, .inl ⟨_, hs, rfl⟩, _, _, rfl, rfl, _, rfl, ?_⟩
    refine ite2 (fun c => ?_) fun _ => q 0
    have c2 : (k : Int) < ((ns.map V.int).length : Int) := of_decide_eq_true c
    have c3 : k < (ns.map V.int).length := by omega
    have c4 : k < ns.length := by rw [List.length_map] at c3; exact c3
    refine ⟨_, rfl, _, rfl, a, _, (k : Int), .int (ns[k]), rfl, rfl, hs, ?_, q _⟩
    exact atI_nat (by simp [c4])
def spRow (K : PySem.W.Frag) : Sp := fun vs H Q _ => ∃ (c : Int) (a : Addr) (sz : List Int), vs = [.int c, .ref a] ∧ SqL K H a (sz.map V.int) ∧ sz.length ≤ 1000 ∧ (∀ s ∈ sz, 0 < s ∧ s < 1073741824) ∧
  ∀ p G ns, Same H G → H p = none → G p = some (.lst (ns.map V.int)) → Rng ns sz → Q (.ref p) G
theorem sc_row : FnScope ["_law_cell_here", "_law_sizes", "_law_out", "_law_size", "_law_seed", "_law_k", "_law_mixed"] ["_law_cell_here", "_law_sizes"] (defScope (tp 27)) := ⟨rfl, rfl, rfl, by decide +kernel, rfl, by decide +kernel, by decide +kernel⟩
theorem ok_row (F : FnT K "_law_row" 27 f fd) (T : LTxt mg) : FnOk P w K mg base CX0 1 f fd ["_law_cell_here", "_law_sizes"] (spRow K) := by
  refine F.ok sc_row (fun vs H Q E h => ?_) (fun cdv A outer s H vs Q E hr h => ⟨_, PSs.nox (pss_cons (ps_set (i := 2) sc_row.nd rfl (Or.inl rfl) (pe_lst pa_nil))
      (pss_cons (ps_if (pt_cmpR op_ge (pv 0) (pe_op op_pow pe_int pe_int) (nomark _)) (pss_cons (ps_for PassesOwn.never rfl (pi_list (pv 1)) (pg_name (i := 3) sc_row.nd rfl (Or.inl rfl)) (pss_cons (ps_expr (pe_bm PySem.F.plainAttrs_list PySem.F.slot_list_append PySem.F.type_list_append mt_append (pv 2) (pa_cons (pe_op op_mod (pe_callTy call_int1 rfl T.int (by decide +kernel) (pa_cons (pv 0) pa_nil)) (pv 3)) pa_nil)))
      (pss_one (ps_set (i := 0) sc_row.nd rfl (Or.inl rfl) (pe_op op_fdiv (pv 0) (pv 3))))))
      (pss_one (ps_ret (pv 2)))) pss_nil)
      (pss_cons (ps_set (i := 4) sc_row.nd rfl (Or.inl rfl) (pe_op op_mod (pe_callTy call_int1 rfl T.int (by decide +kernel) (pa_cons (pv 0) pa_nil)) pe_int))
      (pss_cons (ps_for PassesOwn.never rfl (pi_range1 rfl T.range (pa_cons (pe_callB call_len rfl T.len boot_len (pa_cons (pv 1) pa_nil)) pa_nil)) (pg_name (i := 5) sc_row.nd rfl (Or.inl rfl)) (pss_cons (ps_set (i := 6) sc_row.nd rfl (Or.inl rfl) (pe_op op_add (pe_op op_mod (pe_callTy call_int1 rfl T.int (by decide +kernel) (pa_cons (pe_op op_pow (pe_op op_add (pe_op op_add (pv 4) (pe_op op_mul pe_int (pv 5))) pe_int) pe_int) pa_nil)) pe_int) (pv 5)))
      (pss_one (ps_expr (pe_bm PySem.F.plainAttrs_list PySem.F.slot_list_append PySem.F.type_list_append mt_append (pv 2) (pa_cons (pe_op op_mod (pe_callTy call_int1 rfl T.int (by decide +kernel) (pa_cons (pe_op op_mod (pe_callTy call_int1 rfl T.int (by decide +kernel) (pa_cons (pe_op op_mul (pv 6) pe_int) pa_nil)) pe_int) pa_nil)) (pe_ix ix_list (pv 1) (pv 5) (fun _ _ => rfl))) pa_nil))))))
      (pss_one (ps_ret (pv 2))))))), ?_⟩)
  · obtain ⟨c, a, sz, rfl, _⟩ := h
    rfl
  · obtain ⟨c, a, sz, rfl, hs, hl, hp, q⟩ := h
    have line : (100000 : Nat) ≤ sizeLine := by decide
    refine ⟨Nat.zero_le _, fun o ho => ?_⟩
    have s0 := same_new ho (u := .lst [])
    refine ⟨_, rfl, _, _, rfl, rfl, ⟨by decide, by decide, by decide⟩, _, _, rfl, rfl, _, rfl, ?_⟩
    refine ite2 (fun _ => ?_) fun _ => ?_
    · refine ⟨_, rfl, a, rfl, ⟨_, s0.seq hs⟩, for_list (K := K) (a := a) (xs := sz.map V.int)
        (fun i σ G => ∃ c ns o3 o4 o5 o6, σ = [some (.int c), some (.ref a), some (.ref o), o3, o4, o5, o6] ∧ Same H G ∧ G o = some (.lst (List.map V.int ns)) ∧ Rng ns (sz.take i))
        ⟨c, [], none, none, none, none, rfl, s0, upd_same, trivial⟩ (fun i σ G _ h => by
          obtain ⟨_, _, _, _, _, _, _, h, _⟩ := h
          exact h.seq hs) ?_ (fun σ G h => by
          obtain ⟨c, ns, o3, o4, o5, o6, rfl, s1, g, r⟩ := h
          rw [List.length_map, List.take_length] at r
          exact ⟨_, rfl, q o G ns s1 ho g r⟩)⟩
      rintro i x σ G hi ⟨c, ns, o3, o4, o5, o6, rfl, s1, g, r⟩
      obtain ⟨n, hn, rfl⟩ := int_at hi
      obtain ⟨p1, p2⟩ := hp n (List.mem_of_getElem? hn)
      have rl := r.len
      have tl2 := List.length_take_le' i sz
      refine ⟨_, rfl, .inl ⟨rfl, _, SqL.of g⟩, _, rfl, .inl ⟨c, rfl, _, rfl, _, _, rfl, rfl, p1, ?_⟩⟩
      refine rd_appI ho s1 g (by omega) fun G' h1 h2 h3 => ?_
      refine ⟨_, rfl, _, rfl, _, _, rfl, rfl, ⟨p1, p2⟩, ?_⟩
      refine ⟨_, _, _, _, _, _, rfl, h1, h2, ?_⟩
      rw [take_snoc hn]
      exact r.snoc (Int.emod_nonneg _ (by omega)) (Int.emod_lt_of_pos _ p1)
    · have m0 := Int.emod_nonneg c (show (2147483647 : Int) ≠ 0 by decide)
      have m1 := Int.emod_lt_of_pos c (show (0 : Int) < 2147483647 by decide)
      have e62 : (2 : Int) ^ 62 = 4611686018427387904 := by decide
      have e64 : (2 : Nat) ^ 64 = 18446744073709551616 := by decide
      refine ⟨_, rfl, .inl ⟨c, rfl, _, _, rfl, rfl, (show (0 : Int) < 2147483647 by decide), ?_⟩⟩
      refine ⟨_, rfl, _, sz.length, rfl, .inl ⟨_, s0.seq hs, by rw [List.length_map]⟩, (sz.length : Int), rfl, by omega, by omega, for_range (n := ((sz.length : Int)).toNat)
        (fun i σ G => ∃ ns o3 o5 o6, σ = [some (.int c), some (.ref a), some (.ref o), o3, some (.int (c % 2147483647)), o5, o6] ∧ Same H G ∧ G o = some (.lst (List.map V.int ns)) ∧ Rng ns (sz.take i))
        ⟨[], none, none, none, rfl, s0, upd_same, trivial⟩ ?_ (fun σ G h => by
          obtain ⟨ns, o3, o5, o6, rfl, s1, g, r⟩ := h
          have e : ((sz.length : Int)).toNat = sz.length := by omega
          rw [e, List.take_length] at r
          exact ⟨_, rfl, q o G ns s1 ho g r⟩)⟩
      rintro i σ G hi ⟨ns, o3, o5, o6, rfl, s1, g, r⟩
      have hi2 : i < sz.length := by omega
      obtain ⟨p1, p2⟩ := hp sz[i] (List.getElem_mem hi2)
      have rl := r.len
      have tl2 := List.length_take_le' i sz
      refine ⟨_, rfl, _, rfl, _, _, rfl, rfl, .inl ⟨by decide, by decide⟩, _, _, rfl, rfl, _, _, rfl, rfl, _, _, rfl, rfl, ⟨by decide, by decide, ?_⟩, .inl ⟨_, rfl, _, _, rfl, rfl, (show (0 : Int) < 2147483647 by decide), _, rfl, _, _, rfl, rfl, ?_⟩⟩
      · rw [e64]
        show (c % 2147483647 + 7919 * (0 + (i : Int)) + 104729).natAbs < _
        omega
      refine ⟨_, rfl, .inl ⟨rfl, _, SqL.of g⟩, _, rfl, _, _, rfl, rfl, .inr ⟨by decide, by decide⟩, .inl ⟨_, rfl, _, _, rfl, rfl, (show (0 : Int) < 2147483629 by decide), .inl ⟨_, rfl, _, rfl, _, rfl, a, _, (0 + (i : Int)), .int sz[i], rfl, rfl, s1.seq hs, ?_, _, _, rfl, rfl, p1, ?_⟩⟩⟩
      · rw [Int.zero_add]
        exact atI_nat (by simp [hi2])
      refine rd_appI ho s1 g (by omega) fun G' h1 h2 h3 => ⟨_, _, _, _, rfl, h1, h2, ?_⟩
      rw [take_snoc (List.getElem?_eq_getElem hi2)]
      exact r.snoc (Int.emod_nonneg _ (by omega)) (Int.emod_lt_of_pos _ p1)
end
end Fx
set_option maxHeartbeats 2000000
namespace Fx
open PySem PySem.Spec PyProof.Rows L2 TL

/-! ### the law's trees -/
inductive LT where
  | word (z : Str)
  | cst (b : Bool)
  | neg (t : LT)
  | nary (k : Bool) (ts : List LT)
def kindOf (k : Bool) : Str := if k then "and" else "or"
def cstOf (b : Bool) : Str := if b then "all" else "none"
mutual
def TreeAt (H : Hp) : LT → V → Prop
  | .word z, v => ∃ p, v = .ref p ∧ H p = some (.tup [.str "word", .str z])
  | .cst b, v => ∃ p, v = .ref p ∧ H p = some (.tup [.str (cstOf b)])
  | .neg t, v => ∃ p u, v = .ref p ∧ H p = some (.tup [.str "not", u]) ∧ TreeAt H t u
  | .nary k ts, v => ∃ p l us, v = .ref p ∧ H p = some (.tup [.str (kindOf k), .ref l]) ∧ H l = some (.lst us) ∧ TreesAt H ts us
def TreesAt (H : Hp) : List LT → List V → Prop
  | [], us => us = []
  | t :: ts, us => ∃ u r, us = u :: r ∧ TreeAt H t u ∧ TreesAt H ts r
end
mutual
theorem treeAt_same {H G : Hp} (s : Same H G) : ∀ {T : LT} {v : V}, TreeAt H T v → TreeAt G T v
  | .word _, _, ⟨p, e, h⟩ => ⟨p, e, s _ _ h⟩
  | .cst _, _, ⟨p, e, h⟩ => ⟨p, e, s _ _ h⟩
  | .neg _, _, ⟨p, u, e, h, r⟩ => ⟨p, u, e, s _ _ h, treeAt_same s r⟩
  | .nary _ _, _, ⟨p, l, us, e, h1, h2, r⟩ => ⟨p, l, us, e, s _ _ h1, s _ _ h2, treesAt_same s r⟩
theorem treesAt_same {H G : Hp} (s : Same H G) : ∀ {ts : List LT} {us : List V}, TreesAt H ts us → TreesAt G ts us
  | [], _, h => h
  | _ :: _, _, ⟨u, r, e, h1, h2⟩ => ⟨u, r, e, treeAt_same s h1, treesAt_same s h2⟩
end
theorem TreesAt.snoc {H : Hp} {T : LT} {v : V} : ∀ {ts : List LT} {us : List V}, TreesAt H ts us → TreeAt H T v → TreesAt H (ts ++ [T]) (us ++ [v])
  | [], us, h, ht => by
    have e : us = [] := h
    subst e
    exact ⟨v, [], rfl, ht, rfl⟩
  | _ :: _, _, ⟨u, r, e, h1, h2⟩, ht => ⟨u, r ++ [v], by rw [e] <;> rfl, h1, TreesAt.snoc h2 ht⟩
/-- the heap without the list that is read from -/
def hid (l : Addr) (H : Hp) : Hp := fun b => if b = l then none else H b
theorem hid_ne {l b : Addr} {H : Hp} (h : b ≠ l) : hid l H b = H b := if_neg h
theorem hid_some {l b : Addr} {H : Hp} {o : HO} (h : hid l H b = some o) : b ≠ l ∧ H b = some o := by
  unfold hid at h
  split at h
  · cases h
  · rename_i n
    exact ⟨n, h⟩
theorem hid_at {l b : Addr} {H : Hp} {o : HO} (n : b ≠ l) (h : H b = some o) : hid l H b = some o := (hid_ne n).trans h
theorem hid_upd {l : Addr} {H : Hp} {o : HO} : Same (hid l H) (hid l (upd H l o)) := fun b u h => by
  obtain ⟨n, h⟩ := hid_some h
  rw [hid_ne n, upd_ne n]
  exact h
theorem hid_new {l p : Addr} {H : Hp} {o : HO} (h : H p = none) : Same (hid l H) (hid l (upd H p o)) := fun b u q => by
  obtain ⟨n, q⟩ := hid_some q
  rw [hid_ne n, upd_ne (ne_of_none q h)]
  exact q
/-- all but l stands as it was -/
def Frm (l : Addr) (H G : Hp) : Prop := ∀ b o, b ≠ l → H b = some o → G b = some o
theorem Frm.refl (l : Addr) (H : Hp) : Frm l H H := fun _ _ _ h => h
theorem Frm.trans {l : Addr} {H G F : Hp} (a : Frm l H G) (b : Frm l G F) : Frm l H F := fun x o n h => b x o n (a x o n h)
theorem Frm.same {l : Addr} {H G : Hp} (s : Same H G) : Frm l H G := fun b o _ h => s b o h
theorem Frm.upd {l : Addr} {H : Hp} {u : HO} : Frm l H (L2.upd H l u) := fun b o n h => by
  rw [upd_ne n]
  exact h
theorem Frm.none {l b : Addr} {H G : Hp} (f : Frm l H G) (hl : ∃ o, H l = some o) {u : HO} (gl : G l = some u) (h : G b = none) : H b = none := by
  cases q : H b with
  | none => rfl
  | some o =>
    by_cases e : b = l
    · rw [e, gl] at h
      cases h
    · rw [f b o e q] at h
      cases h
/-- what is new since H -/
def nw (H G : Hp) : Hp := fun b => match H b with
  | none => G b
  | some _ => none
theorem nw_at {H G : Hp} {b : Addr} {o : HO} (n : H b = none) (h : G b = some o) : nw H G b = some o := by
  unfold nw
  rw [n]
  exact h
theorem nw_some {H G : Hp} {b : Addr} {o : HO} (h : nw H G b = some o) : H b = none ∧ G b = some o := by
  unfold nw at h
  split at h
  · rename_i n
    exact ⟨n, h⟩
  · cases h
theorem nw_keep {l : Addr} {H G F : Hp} (hl : ∃ o, H l = some o) (f : Frm l G F) : Same (nw H G) (nw H F) := fun b o h => by
  obtain ⟨n, g⟩ := nw_some h
  refine nw_at n (f b o (fun e => ?_) g)
  obtain ⟨u, hu⟩ := hl
  rw [e, hu] at n
  cases n
theorem nw_mono {l : Addr} {H H1 G : Hp} (f : Frm l H H1) (hl : ∃ o, H l = some o) {u : HO} (gl : H1 l = some u) : Same (nw H1 G) (nw H G) := fun b o h => by
  obtain ⟨n, g⟩ := nw_some h
  exact nw_at (f.none hl gl n) g
theorem nw_keep2 {l d : Addr} {H G F : Hp} (hl : ∃ o, H l = some o) (hd : ∃ o, H d = some o) (f : ∀ b o, b ≠ l → b ≠ d → G b = some o → F b = some o) : Same (nw H G) (nw H F) := fun b o h => by
  obtain ⟨n, g⟩ := nw_some h
  refine nw_at n (f b o (fun e => ?_) (fun e => ?_) g)
  · obtain ⟨u, hu⟩ := hl
    rw [e, hu] at n
    cases n
  · obtain ⟨u, hu⟩ := hd
    rw [e, hu] at n
    cases n
/-- trees of at most so many levels over these words -/
def LtOk (ws : List Str) : Nat → LT → Prop
  | _, .word z => z ∈ ws
  | _, .cst _ => True
  | 0, .neg _ => False
  | 0, .nary _ _ => False
  | d + 1, .neg t => LtOk ws d t
  | d + 1, .nary _ ts => (ts.length = 2 ∨ ts.length = 3) ∧ ∀ t ∈ ts, LtOk ws d t
theorem can_ints : ∀ ns : List Int, PyData.canLayAll0 (ns.map PyData.int) = true
  | [] => rfl
  | n :: ns => by
    show (true && PyData.canLayAll0 (ns.map PyData.int)) = true
    rw [can_ints ns] <;> rfl
theorem depth_ints : ∀ ns : List Int, PyData.depthAll (ns.map PyData.int) ≤ 0
  | [] => Nat.le_refl _
  | n :: ns => Nat.max_le.mpr ⟨Nat.le_refl _, depth_ints ns⟩
theorem shaped_ints (ns : List Int) : SeqAt.shaped (.list (ns.map PyData.int)) = true := by
  have h := depth_ints ns
  have h2 : PyData.depth (.list (ns.map PyData.int)) ≤ 64 := by
    show PyData.depthAll (ns.map PyData.int) + 1 ≤ 64
    omega
  unfold SeqAt.shaped
  rw [decide_eq_true h2]
  show (PyData.canLayAll0 (ns.map PyData.int) && true) = true
  rw [can_ints] <;> rfl
theorem dp_ints {K : PySem.W.Frag} {H : Hp} : ∀ ns : List Int, DpAll K H (ns.map V.int) (ns.map PyData.int)
  | [] => .nil
  | n :: ns => .cons (.int n) (dp_ints ns)
def rSubI : R2 := rI0 fun i j => .int (i - j)
def treeN : List Str := ["_law_left", "_law_words", "_law_depth", "_law_draw", "_law_way", "_law_pick", "_law_parts", "_law_k"]
section
variable {P : Program} {w : World} {K : PySem.W.Frag} {mg : Str → Option Value} {base : Heap} {f : Addr} {fd : FuncData}
def spTree (K : PySem.W.Frag) (d : Nat) : Sp := fun vs H Q _ => ∃ (lf wd : Addr) (ns : List Int) (ws : List Str), vs = [.ref lf, .ref wd, .int d] ∧ H lf = some (.lst (ns.map V.int)) ∧ SqL K (hid lf H) wd (ws.map V.str) ∧ ws.length ≤ 1000 ∧
  ∀ T v G ns', LtOk ws d T → Frm lf H G → G lf = some (.lst (List.map V.int ns')) → TreeAt (nw H G) T v → Q v G
theorem sqL_hid {H : Hp} {l a : Addr} {xs : List V} (h : SqL K (hid l H) a xs) : SqL K H a xs := by
  rcases h with (h | ⟨o, h⟩) | h
  · exact .inl (.inl (hid_some h).2)
  · exact .inl (.inr ⟨o, (hid_some h).2⟩)
  · exact .inr h
theorem sc_tree : FnScope ["_law_left", "_law_words", "_law_depth", "_law_draw", "_law_way", "_law_pick", "_law_parts", "_law_k"] ["_law_left", "_law_words", "_law_depth"] (defScope (tp 28)) := ⟨rfl, rfl, rfl, by decide +kernel, rfl, by decide +kernel, by decide +kernel⟩
theorem seq_zero {n : Nat} (h : 0 < n) : seqIndex? 0 n = some 0 := by
  unfold seqIndex?
  have h2 : (0 : Int) < (n : Int) := by omega
  simp [h2]
  omega
theorem base_tree (F : FnT K "_law_tree" 28 f fd) (T : LTxt mg) : FnOk P w K mg base CX0 1 f fd ["_law_left", "_law_words", "_law_depth"] (spTree K 0) := by
  refine F.ok sc_tree (fun vs H Q E h => by
    obtain ⟨lf, wd, ns, ws, rfl, _⟩ := h
    rfl) (fun cdv A outer s H vs Q E hr h => ?_)
  suffices z : ∃ t, PSs (cxOf CX0 P w K mg base treeN "_law_tree" (defScope (tp 28)) f cdv A outer s H E).nox (defBody (tp 28)) t ∧ t { nx := fun _ H' => Q .non H', rt := Q } (L2.start treeN vs) H by
    obtain ⟨t, h1, h2⟩ := z
    exact ⟨t, PSs.nox h1, h2⟩
  have rest : ∃ t, PSs (cxOf CX0 P w K mg base treeN "_law_tree" (defScope (tp 28)) f cdv A outer s H E).nox (defBody (tp 28)).tail t ∧ ∀ (lf wd : Addr) (ns : List Int) (ws : List Str), H lf = some (.lst (List.map V.int ns)) → SqL K (hid lf H) wd (ws.map V.str) → ws.length ≤ 1000 →
      (∀ T v G ns', LtOk ws (0) T → Frm lf H G → G lf = some (.lst (List.map V.int ns')) → TreeAt (nw H G) T v → Q v G) →
      ∀ (dr : Int) (G : Hp) (ns1 : List Int), Frm lf H G → G lf = some (.lst (ns1.map V.int)) → t { nx := fun _ H' => Q .non H', rt := Q } [some (.ref lf), some (.ref wd), some (.int (((0) : Nat) : Int)), some (.int dr), none, none, none, none] G := by
    refine ⟨_, (pss_cons (ps_set (i := 4) sc_tree.nd rfl (Or.inl rfl) (pe_op op_mod (pe_callTy call_int1 rfl T.int (by decide +kernel) (pa_cons (pv 3) pa_nil)) pe_int))
      (pss_cons (ps_if (PW.pt (pw_or (pt_cmpR op_eq (pv 2) pe_int (nomark _)) (pw_or1 (pt_cmpR op_lt (pv 4) pe_int (nomark _))))) (pss_cons (ps_set (i := 5) sc_tree.nd rfl (Or.inl rfl) (pe_op op_mod (pe_callTy call_int1 rfl T.int (by decide +kernel) (pa_cons (pe_op op_fdiv (pv 3) pe_int) pa_nil)) (pe_op op_add (pe_callB call_len rfl T.len boot_len (pa_cons (pv 1) pa_nil)) pe_int)))
      (pss_cons (ps_if (pt_cmpR op_lt (pv 5) (pe_callB call_len rfl T.len boot_len (pa_cons (pv 1) pa_nil)) (nomark _)) (pss_one (ps_ret (pe_tup (pa_cons pe_str (pa_cons (pe_ix ix_list (pv 1) (pv 5) (fun _ _ => rfl)) pa_nil))))) pss_nil)
      (pss_one (ps_ret (pe_ifExp (pt_cmpR op_gt (pe_op op_mod (pe_callTy call_int1 rfl T.int (by decide +kernel) (pa_cons (pe_op op_fdiv (pv 3) pe_int) pa_nil)) pe_int) pe_int (nomark _)) (pe_tup (pa_cons pe_str pa_nil)) (pe_tup (pa_cons pe_str pa_nil))))))) pss_nil)
      (pss_cons (ps_never) (pss_cons (ps_never) (pss_one (ps_never)))))), ?_⟩
    intro lf wd ns ws hlf hwd hwl q dr G ns1 f1 g1
    have line : (10000 : Nat) ≤ sizeLine := by decide
    have sqw : ∀ G, Frm lf H G → SqL K G wd (ws.map V.str) := fun G f => by
      rcases hwd with (h | ⟨o, h⟩) | h
      · obtain ⟨n, h⟩ := hid_some h
        exact .inl (.inl (f _ _ n h))
      · obtain ⟨n, h⟩ := hid_some h
        exact .inl (.inr ⟨o, f _ _ n h⟩)
      · exact .inr h
    have fin : ∀ (T : LT) (p : Addr) (u : HO), LtOk ws (0) T → G p = none → TreeAt (nw H (upd G p u)) T (.ref p) → Q (.ref p) (upd G p u) := fun T p u ok hp tr =>
      q T (.ref p) _ ns1 ok (f1.trans (Frm.same (same_new hp))) (same_new hp _ _ g1) tr
    refine ⟨_, rfl, .inl ⟨_, rfl, _, _, rfl, rfl, (show (0 : Int) < 8 by decide), ?_⟩⟩
    refine ⟨_, rfl, rfl, _, rfl, ?_⟩
    rw [dec_int]
    refine iteT (iteT ?_)
    refine ⟨_, rfl, _, _, rfl, rfl, ⟨by decide, by decide⟩, .inl ⟨_, rfl, _, rfl, _, ws.length, rfl, .inl ⟨_, sqw G f1, by rw [List.length_map]⟩, _, _, rfl, rfl, _, _, rfl, rfl, (show (0 : Int) < (ws.length : Int) + 1 by omega), ?_⟩⟩
    refine ⟨_, rfl, _, rfl, _, ws.length, rfl, .inl ⟨_, sqw G f1, by rw [List.length_map]⟩, _, _, rfl, rfl, _, rfl, ?_⟩
    refine ite2 (fun c2 => ?_) fun c2 => ?_
    · have c3 := of_decide_eq_true c2
      have c4 := Int.emod_nonneg (dr / 8) (show (ws.length : Int) + 1 ≠ 0 by omega)
      obtain ⟨k, hk⟩ := Int.eq_ofNat_of_zero_le c4
      have hk2 : k < ws.length := by
        have w1 : dr / 8 % ((ws.length : Int) + 1) < (ws.length : Int) := c3
        omega
      refine ⟨_, rfl, _, rfl, wd, _, (k : Int), .str ws[k], rfl, by rw [← hk], sqw G f1, atI_nat (by simp [hk2]), (by show 2 ≤ sizeLine; decide), fun p hp => ?_⟩
      exact fin (.word ws[k]) p _ (List.getElem_mem hk2) hp ⟨p, rfl, nw_at (f1.none ⟨_, hlf⟩ g1 hp) upd_same⟩
    · refine ⟨_, rfl, _, _, rfl, rfl, ⟨by decide, by decide⟩, .inl ⟨_, rfl, _, _, rfl, rfl, (show (0 : Int) < 4 by decide), _, _, rfl, rfl, _, rfl, ?_⟩⟩
      refine ite2 (fun c3 => ?_) fun c3 => ?_
      · exact ⟨(by show 1 ≤ sizeLine; decide), fun p hp => fin (.cst true) p _ trivial hp ⟨p, rfl, nw_at (f1.none ⟨_, hlf⟩ g1 hp) upd_same⟩⟩
      · exact ⟨(by show 1 ≤ sizeLine; decide), fun p hp => fin (.cst false) p _ trivial hp ⟨p, rfl, nw_at (f1.none ⟨_, hlf⟩ g1 hp) upd_same⟩⟩
  obtain ⟨t, ht, hq⟩ := rest
  refine ⟨_, pss_cons (ps_set (i := 3) sc_tree.nd rfl (Or.inl rfl) (pe_ifExp (pt_cmpR (op_neD hr.units) (pv 0) (pe_lst pa_nil) (nomark _)) (pe_bm PySem.F.plainAttrs_list PySem.F.slot_list_pop PySem.F.type_list_pop mt_popAt (pv 0) (pa_cons pe_int pa_nil)) pe_int)) ht, ?_⟩
  obtain ⟨lf, wd, ns, ws, rfl, hlf, hwd, hwl, q⟩ := h
  refine ⟨_, rfl, Nat.zero_le _, fun e he => ?_⟩
  have s0 := same_new he (u := .lst [])
  have f0 : Frm lf H (upd H e (.lst [])) := Frm.same s0
  refine ⟨.list (ns.map PyData.int), .list [], .lst (SqL.of (s0 _ _ hlf)) (dp_ints ns), .lst (SqL.of upd_same) .nil, shaped_ints ns, shaped_ints [], _, rfl, ?_⟩
  cases ns with
  | nil => exact iteF (hq lf wd [] ws hlf hwd hwl q 0 _ [] f0 (s0 _ _ hlf))
  | cons n r =>
    refine iteT ⟨_, rfl, .inl ⟨rfl, _, SqL.of (s0 _ _ hlf)⟩, lf, _, 0, 0, .int n, rfl, rfl, s0 _ _ hlf, by decide, by decide, seq_zero (by simp), rfl, ?_⟩
    exact hq lf wd (n :: r) ws hlf hwd hwl q n _ r (f0.trans Frm.upd) upd_same
theorem step_tree (F : FnT K "_law_tree" 28 f fd) (T : LTxt mg) (gT : mg "_law_tree" = some (.ref f)) (d : Nat) (IH : FnOk P w K mg base CX0 (d + 1) f fd ["_law_left", "_law_words", "_law_depth"] (spTree K d)) :
    FnOk P w K mg base CX0 (d + 1 + 1) f fd ["_law_left", "_law_words", "_law_depth"] (spTree K (d + 1)) := by
  have bT : L2.Binds K fd ["_law_left", "_law_words", "_law_depth"] [] := F.bindsN fun _ _ _ _ _ _ us hl => match us, hl with | [_, _, _], _ => rfl
  refine F.ok sc_tree (fun vs H Q E h => by
    obtain ⟨lf, wd, ns, ws, rfl, _⟩ := h
    rfl) (fun cdv A outer s H vs Q E hr h => ?_)
  suffices z : ∃ t, PSs (cxOf CX0 P w K mg base treeN "_law_tree" (defScope (tp 28)) f cdv A outer s H E).nox (defBody (tp 28)) t ∧ t { nx := fun _ H' => Q .non H', rt := Q } (L2.start treeN vs) H by
    obtain ⟨t, h1, h2⟩ := z
    exact ⟨t, PSs.nox h1, h2⟩
  have rest : ∃ t, PSs (cxOf CX0 P w K mg base treeN "_law_tree" (defScope (tp 28)) f cdv A outer s H E).nox (defBody (tp 28)).tail t ∧ ∀ (lf wd : Addr) (ns : List Int) (ws : List Str), H lf = some (.lst (List.map V.int ns)) → SqL K (hid lf H) wd (ws.map V.str) → ws.length ≤ 1000 →
      (∀ T v G ns', LtOk ws (d + 1) T → Frm lf H G → G lf = some (.lst (List.map V.int ns')) → TreeAt (nw H G) T v → Q v G) →
      ∀ (dr : Int) (G : Hp) (ns1 : List Int), Frm lf H G → G lf = some (.lst (ns1.map V.int)) → t { nx := fun _ H' => Q .non H', rt := Q } [some (.ref lf), some (.ref wd), some (.int (((d + 1) : Nat) : Int)), some (.int dr), none, none, none, none] G := by
    refine ⟨_, (pss_cons (ps_set (i := 4) sc_tree.nd rfl (Or.inl rfl) (pe_op op_mod (pe_callTy call_int1 rfl T.int (by decide +kernel) (pa_cons (pv 3) pa_nil)) pe_int))
      (pss_cons (ps_if (PW.pt (pw_or (pt_cmpR op_eq (pv 2) pe_int (nomark _)) (pw_or1 (pt_cmpR op_lt (pv 4) pe_int (nomark _))))) (pss_cons (ps_set (i := 5) sc_tree.nd rfl (Or.inl rfl) (pe_op op_mod (pe_callTy call_int1 rfl T.int (by decide +kernel) (pa_cons (pe_op op_fdiv (pv 3) pe_int) pa_nil)) (pe_op op_add (pe_callB call_len rfl T.len boot_len (pa_cons (pv 1) pa_nil)) pe_int)))
      (pss_cons (ps_if (pt_cmpR op_lt (pv 5) (pe_callB call_len rfl T.len boot_len (pa_cons (pv 1) pa_nil)) (nomark _)) (pss_one (ps_ret (pe_tup (pa_cons pe_str (pa_cons (pe_ix ix_list (pv 1) (pv 5) (fun _ _ => rfl)) pa_nil))))) pss_nil)
      (pss_one (ps_ret (pe_ifExp (pt_cmpR op_gt (pe_op op_mod (pe_callTy call_int1 rfl T.int (by decide +kernel) (pa_cons (pe_op op_fdiv (pv 3) pe_int) pa_nil)) pe_int) pe_int (nomark _)) (pe_tup (pa_cons pe_str pa_nil)) (pe_tup (pa_cons pe_str pa_nil))))))) pss_nil)
      (pss_cons (ps_if (pt_cmpR op_eq (pv 4) pe_int (nomark _)) (pss_one (ps_ret (pe_tup (pa_cons pe_str (pa_cons (pe_call IH hr rfl gT F.kp bT .nil pass0 (pa_cons (pv 0) (pa_cons (pv 1) (pa_cons (pe_op op_sub (pv 2) pe_int) pa_nil)))) pa_nil))))) pss_nil)
      (pss_cons (ps_setLc (i := 6) (own := [("_law_k", 7)]) (g := gName 7) (tt := tYes) (te := tCall (spTree K d) [] E0 (tCons (tVar 0) (tCons (tVar 1) (tCons (tOp rSubI (tVar 2) (tC (.int 1))) tNil)))) rfl sc_tree.nd rfl rfl (sw_true rfl rfl rfl (by decide +kernel))
        (pi_range1 rfl T.range (pa_cons (pe_op op_add pe_int (pe_callTy call_int1 rfl T.int (by decide +kernel) (pa_cons (pe_cmpR op_eq (pv 4) pe_int (nomark _)) pa_nil))) pa_nil)) (blkOk_by (N := treeN) (sc := defScope (tp 28)) (by decide +kernel)) (fun _ _ _ _ _ => pg_name (i := 7) sc_tree.nd rfl (Or.inl rfl)) (fun _ _ _ _ _ => pts_nil)
        (fun _ _ _ _ _ => pe_call IH (by exact hr) rfl gT F.kp bT .nil pass0 (pa_cons (pv 0) (pa_cons (pv 1) (pa_cons (pe_op op_sub (pv 2) pe_int) pa_nil)))))
      (pss_one (ps_ret (pe_tup (pa_cons (pe_ix ix_list (pe_lst (pa_cons pe_str (pa_cons pe_str pa_nil))) (pe_op op_mod (pv 4) pe_int) (fun _ _ => rfl)) (pa_cons (pv 6) pa_nil))))))))), ?_⟩
    intro lf wd ns ws hlf hwd hwl q dr G ns1 f1 g1
    have line : (10000 : Nat) ≤ sizeLine := by decide
    have sqw : ∀ G, Frm lf H G → SqL K G wd (ws.map V.str) := fun G f => by
      rcases hwd with (h | ⟨o, h⟩) | h
      · obtain ⟨n, h⟩ := hid_some h
        exact .inl (.inl (f _ _ n h))
      · obtain ⟨n, h⟩ := hid_some h
        exact .inl (.inr ⟨o, f _ _ n h⟩)
      · exact .inr h
    have fin : ∀ (T : LT) (p : Addr) (u : HO), LtOk ws (d + 1) T → G p = none → TreeAt (nw H (upd G p u)) T (.ref p) → Q (.ref p) (upd G p u) := fun T p u ok hp tr =>
      q T (.ref p) _ ns1 ok (f1.trans (Frm.same (same_new hp))) (same_new hp _ _ g1) tr
    refine ⟨_, rfl, .inl ⟨_, rfl, _, _, rfl, rfl, (show (0 : Int) < 8 by decide), ?_⟩⟩
    have hd0 : (((d + 1 : Nat) : Int) == 0) = false := beq_eq_false_iff_ne.mpr (by omega)
    refine ⟨_, rfl, rfl, _, rfl, ?_⟩
    rw [dec_int, hd0]
    refine iteF ⟨_, rfl, _, _, rfl, rfl, _, rfl, ?_⟩
    refine ite2 (fun c1 => ?_) fun c1 => ?_
    · skip
      refine ⟨_, rfl, _, _, rfl, rfl, ⟨by decide, by decide⟩, .inl ⟨_, rfl, _, rfl, _, ws.length, rfl, .inl ⟨_, sqw G f1, by rw [List.length_map]⟩, _, _, rfl, rfl, _, _, rfl, rfl, (show (0 : Int) < (ws.length : Int) + 1 by omega), ?_⟩⟩
      refine ⟨_, rfl, _, rfl, _, ws.length, rfl, .inl ⟨_, sqw G f1, by rw [List.length_map]⟩, _, _, rfl, rfl, _, rfl, ?_⟩
      refine ite2 (fun c2 => ?_) fun c2 => ?_
      · have c3 := of_decide_eq_true c2
        have c4 := Int.emod_nonneg (dr / 8) (show (ws.length : Int) + 1 ≠ 0 by omega)
        obtain ⟨k, hk⟩ := Int.eq_ofNat_of_zero_le c4
        have hk2 : k < ws.length := by
          have w1 : dr / 8 % ((ws.length : Int) + 1) < (ws.length : Int) := c3
          omega
        refine ⟨_, rfl, _, rfl, wd, _, (k : Int), .str ws[k], rfl, by rw [← hk], sqw G f1, atI_nat (by simp [hk2]), (by show 2 ≤ sizeLine; decide), fun p hp => ?_⟩
        exact fin (.word ws[k]) p _ (List.getElem_mem hk2) hp ⟨p, rfl, nw_at (f1.none ⟨_, hlf⟩ g1 hp) upd_same⟩
      · refine ⟨_, rfl, _, _, rfl, rfl, ⟨by decide, by decide⟩, .inl ⟨_, rfl, _, _, rfl, rfl, (show (0 : Int) < 4 by decide), _, _, rfl, rfl, _, rfl, ?_⟩⟩
        refine ite2 (fun c3 => ?_) fun c3 => ?_
        · exact ⟨(by show 1 ≤ sizeLine; decide), fun p hp => fin (.cst true) p _ trivial hp ⟨p, rfl, nw_at (f1.none ⟨_, hlf⟩ g1 hp) upd_same⟩⟩
        · exact ⟨(by show 1 ≤ sizeLine; decide), fun p hp => fin (.cst false) p _ trivial hp ⟨p, rfl, nw_at (f1.none ⟨_, hlf⟩ g1 hp) upd_same⟩⟩
    · have sqh : SqL K (hid lf G) wd (ws.map V.str) := by
        rcases hwd with (h | ⟨o, h⟩) | h
        · obtain ⟨n, h⟩ := hid_some h
          exact .inl (.inl (hid_at n (f1 _ _ n h)))
        · obtain ⟨n, h⟩ := hid_some h
          exact .inl (.inr ⟨o, hid_at n (f1 _ _ n h)⟩)
        · exact .inr h
      have ed : ((d + 1 : Nat) : Int) - 1 = (d : Int) := by omega
      refine ⟨_, rfl, rfl, _, rfl, ?_⟩
      rw [dec_int]
      cases c4 : ((dr % 8) == 4) with
      | true =>
        refine iteT ⟨_, rfl, _, rfl, _, rfl, _, _, rfl, rfl, lf, wd, ns1, ws, by rw [← ed]; rfl, g1, sqh, hwl, fun T v G2 ns2 ok f2 g2 tr => ⟨(by show 2 ≤ sizeLine; decide), fun p hp => ?_⟩⟩
        refine q (.neg T) (.ref p) _ ns2 ok ((f1.trans f2).trans (Frm.same (same_new hp))) (same_new hp _ _ g2) ⟨p, v, rfl, nw_at ((f1.trans f2).none ⟨_, hlf⟩ g2 hp) upd_same, ?_⟩
        exact treeAt_same ((nw_mono f1 ⟨_, hlf⟩ g1).trans (nw_keep ⟨_, hlf⟩ (Frm.same (same_new hp)))) tr
      | false =>
        have e62 : (2 : Int) ^ 62 = 4611686018427387904 := by decide
        refine iteF ⟨_, rfl, rfl, .inr ⟨_, rfl, _, _, rfl, rfl, _, rfl, ?_, ?_, fun D hD => ?_⟩⟩
        · rw [e62]; split <;> omega
        · rw [e62]; split <;> omega
        have nlf : D ≠ lf := fun e => by rw [e, g1] at hD; cases hD
        have hn : ∃ n : Nat, (2 + (if decide (V.int (dr % 8) = V.int 7) = true then (1 : Int) else 0)).toNat = n ∧ (n = 2 ∨ n = 3) := by
          split
          · exact ⟨3, rfl, .inr rfl⟩
          · exact ⟨2, rfl, .inl rfl⟩
        obtain ⟨n, en, hn⟩ := hn
        have en2 : (2 + (if decide (V.int (dr % 8) = V.int 7) = true then (1 : Int) else 0)).toNat = n := en
        refine lc_range (n := (2 + (if decide (V.int (dr % 8) = V.int 7) = true then (1 : Int) else 0)).toNat) (fun i G2 => ∃ ts us ns2, ts.length = i ∧ (∀ t ∈ ts, LtOk ws d t) ∧ Frm lf G G2 ∧ G2 lf = some (.lst (List.map V.int ns2)) ∧ G2 D = some (.lst us) ∧ TreesAt (nw (upd G D (.lst [])) G2) ts us)
          ⟨[], [], ns1, rfl, (fun t ht => by cases ht), Frm.same (same_new hD), same_new hD _ _ g1, upd_same, rfl⟩ ?_ ?_
        · rintro i G2 hi ⟨ts, us, ns2, hlen, hok, f2, g2, hD2, tr⟩
          have hi3 : i < 3 := by rw [en2] at hi; omega
          have sqh2 : SqL K (hid lf G2) wd (ws.map V.str) := by
            rcases sqh with (h | ⟨o, h⟩) | h
            · obtain ⟨n, h⟩ := hid_some h
              exact .inl (.inl (hid_at n (f2 _ _ n h)))
            · obtain ⟨n, h⟩ := hid_some h
              exact .inl (.inr ⟨o, hid_at n (f2 _ _ n h)⟩)
            · exact .inr h
          have tl2 : us.length = ts.length := by
            have key : ∀ (H : Hp) (ts : List LT) (us : List V), TreesAt H ts us → us.length = ts.length := by
              intro H ts
              induction ts with
              | nil => intro us h; have e : us = [] := h; rw [e] <;> rfl
              | cons t ts ih =>
                intro us h
                obtain ⟨u, r, e, _, h2⟩ := h
                rw [e, List.length_cons, List.length_cons, ih r h2]
            exact key _ _ _ tr
          refine ⟨rfl, ?_⟩
          dsimp only [tYes]
          rw [if_pos rfl]
          refine ⟨_, rfl, _, rfl, _, rfl, _, _, rfl, rfl, lf, wd, ns2, ws, by rw [← ed]; rfl, g2, sqh2, hwl, fun T v G3 ns3 ok f3 g3 tr3 => ⟨us, f3 D _ nlf hD2, by omega, ts ++ [T], us ++ [v], ns3, ?_, ?_, ?_, ?_, upd_same, ?_⟩⟩
          · rw [List.length_append, hlen] <;> rfl
          · intro t ht
            rcases List.mem_append.mp ht with w1 | w1
            · exact hok t w1
            · rw [List.mem_singleton.mp w1]
              exact ok
          · intro b o nb hb
            rw [upd_ne (ne_of_none hb hD)]
            exact f3 b o nb (f2 b o nb hb)
          · rw [upd_ne (Ne.symm nlf)]
            exact g3
          · refine (treesAt_same (nw_keep2 (l := lf) (d := D) ⟨_, same_new hD _ _ g1⟩ ⟨_, upd_same⟩ fun b o n1 n2 hb => ?_) tr).snoc (treeAt_same (fun b o hb => ?_) tr3)
            · rw [upd_ne n2]
              exact f3 b o n1 hb
            · obtain ⟨n1, n2⟩ := nw_some hb
              have nD : b ≠ D := fun e => by rw [e, hD2] at n1; cases n1
              have nl : b ≠ lf := fun e => by rw [e, g2] at n1; cases n1
              refine nw_at ?_ (by rw [upd_ne nD]; exact n2)
              rw [upd_ne nD]
              cases e : G b with
              | none => rfl
              | some w1 =>
                rw [f2 b w1 nl e] at n1
                cases n1
        · rintro G2 ⟨ts, us, ns2, hlen, hok, f2, g2, hD2, tr⟩
          rw [en2] at hlen
          obtain ⟨k, hk⟩ : ∃ k : Bool, atI [V.str "or", V.str "and"] (dr % 8 % 2) = some (.str (kindOf k)) := by
            have h2 : dr % 8 % 2 = 0 ∨ dr % 8 % 2 = 1 := by omega
            rcases h2 with e | e
            · exact ⟨false, by rw [e] <;> rfl⟩
            · exact ⟨true, by rw [e] <;> rfl⟩
          refine ⟨(by show 2 ≤ sizeLine; decide), fun l1 hl1 => ⟨_, rfl, _, _, rfl, rfl, (show (0 : Int) < 2 by decide), l1, _, _, _, rfl, rfl, SqL.of upd_same, hk, _, rfl, (by show 2 ≤ sizeLine; decide), fun p hp => ?_⟩⟩
          have s12 := (same_new hl1 (u := .lst [.str "or", .str "and"])).trans (same_new hp (u := .tup [.str (kindOf k), .ref D]))
          have hp2 : G2 p = none := (same_new hl1).free hp
          have f4 := (f1.trans f2).trans (Frm.same s12)
          have g4 := s12 _ _ g2
          refine q (.nary k ts) (.ref p) _ ns2 ⟨by omega, hok⟩ f4 g4 ⟨p, D, us, rfl, nw_at ((f1.trans f2).none ⟨_, hlf⟩ g2 hp2) upd_same, nw_at (f1.none ⟨_, hlf⟩ g1 hD) (s12 _ _ hD2), ?_⟩
          refine treesAt_same (fun b o hb => ?_) tr
          obtain ⟨n1, n2⟩ := nw_some hb
          refine nw_at (f1.none ⟨_, hlf⟩ g1 ((same_new hD).free n1)) (s12 _ _ n2)
  obtain ⟨t, ht, hq⟩ := rest
  refine ⟨_, pss_cons (ps_set (i := 3) sc_tree.nd rfl (Or.inl rfl) (pe_ifExp (pt_cmpR (op_neD hr.units) (pv 0) (pe_lst pa_nil) (nomark _)) (pe_bm PySem.F.plainAttrs_list PySem.F.slot_list_pop PySem.F.type_list_pop mt_popAt (pv 0) (pa_cons pe_int pa_nil)) pe_int)) ht, ?_⟩
  obtain ⟨lf, wd, ns, ws, rfl, hlf, hwd, hwl, q⟩ := h
  refine ⟨_, rfl, Nat.zero_le _, fun e he => ?_⟩
  have s0 := same_new he (u := .lst [])
  have f0 : Frm lf H (upd H e (.lst [])) := Frm.same s0
  refine ⟨.list (ns.map PyData.int), .list [], .lst (SqL.of (s0 _ _ hlf)) (dp_ints ns), .lst (SqL.of upd_same) .nil, shaped_ints ns, shaped_ints [], _, rfl, ?_⟩
  cases ns with
  | nil => exact iteF (hq lf wd [] ws hlf hwd hwl q 0 _ [] f0 (s0 _ _ hlf))
  | cons n r =>
    refine iteT ⟨_, rfl, .inl ⟨rfl, _, SqL.of (s0 _ _ hlf)⟩, lf, _, 0, 0, .int n, rfl, rfl, s0 _ _ hlf, by decide, by decide, seq_zero (by simp), rfl, ?_⟩
    exact hq lf wd (n :: r) ws hlf hwd hwl q n _ r (f0.trans Frm.upd) upd_same
end
end Fx
set_option maxHeartbeats 2000000
namespace Fx
open PySem PySem.Spec PyProof.Rows L2 TL

mutual
def depT : LT → Nat
  | .neg t => depT t + 1
  | .nary _ ts => depL ts + 1
  | _ => 0
def depL : List LT → Nat
  | [] => 0
  | t :: ts => max (depT t) (depL ts)
end
mutual
def sizT : LT → Nat
  | .neg t => sizT t + 1
  | .nary _ ts => sizL ts + 1
  | _ => 1
def sizL : List LT → Nat
  | [] => 0
  | t :: ts => sizT t + sizL ts
end
mutual
def flat1 (k : Bool) : LT → List LT
  | .nary j ts => if j = k then flatL k ts else [.nary j ts]
  | t => [t]
def flatL (k : Bool) : List LT → List LT
  | [] => []
  | t :: ts => flat1 k t ++ flatL k ts
end
def headOf : LT → Str
  | .word _ => "word"
  | .cst b => cstOf b
  | .neg _ => "not"
  | .nary k _ => kindOf k
theorem treeHead {H : Hp} : ∀ {T : LT} {v : V}, TreeAt H T v → ∃ p rest, v = .ref p ∧ H p = some (.tup (.str (headOf T) :: rest))
  | .word _, _, ⟨p, e, h⟩ => ⟨p, _, e, h⟩
  | .cst _, _, ⟨p, e, h⟩ => ⟨p, _, e, h⟩
  | .neg _, _, ⟨p, _, e, h, _⟩ => ⟨p, _, e, h⟩
  | .nary _ _, _, ⟨p, _, _, e, h, _⟩ => ⟨p, _, e, h⟩
theorem TreesAt.at {H : Hp} : ∀ {ts : List LT} {us : List V} {i : Nat} {x : V}, TreesAt H ts us → us[i]? = some x → ∃ t, ts[i]? = some t ∧ TreeAt H t x
  | [], us, i, x, h, e => by
    have w1 : us = [] := h
    rw [w1] at e
    simp at e
  | t :: ts, us, i, x, ⟨u, r, e1, h1, h2⟩, e => by
    subst e1
    cases i with
    | zero =>
      have e2 : u = x := by simpa using e
      subst e2
      exact ⟨t, rfl, h1⟩
    | succ i =>
      have e2 : r[i]? = some x := by simpa using e
      obtain ⟨t2, k1, k2⟩ := TreesAt.at h2 e2
      exact ⟨t2, by simpa using k1, k2⟩
theorem TreesAt.len {H : Hp} : ∀ {ts : List LT} {us : List V}, TreesAt H ts us → us.length = ts.length
  | [], us, h => by
    have w1 : us = [] := h
    rw [w1] <;> rfl
  | t :: ts, us, ⟨u, r, e1, _, h2⟩ => by rw [e1, List.length_cons, List.length_cons, TreesAt.len h2]
theorem TreesAt.app {H : Hp} : ∀ {ts qs : List LT} {us ws : List V}, TreesAt H ts us → TreesAt H qs ws → TreesAt H (ts ++ qs) (us ++ ws)
  | [], qs, us, ws, h, h2 => by
    have w1 : us = [] := h
    rw [w1]
    exact h2
  | _ :: _, _, _, _, ⟨u, r, e, h1, h2⟩, h3 => ⟨u, r ++ _, by rw [e] <;> rfl, h1, TreesAt.app h2 h3⟩
theorem flatL_app (k : Bool) : ∀ (a b : List LT), flatL k (a ++ b) = flatL k a ++ flatL k b
  | [], b => rfl
  | t :: a, b => by
    show flat1 k t ++ flatL k (a ++ b) = flat1 k t ++ flatL k a ++ flatL k b
    rw [flatL_app k a b, List.append_assoc]
theorem sizT_pos (t : LT) : 1 ≤ sizT t := by
  cases t <;> simp [sizT]
mutual
theorem flat1_len (k : Bool) : ∀ t : LT, (flat1 k t).length ≤ sizT t
  | .word _ => Nat.le_refl _
  | .cst _ => Nat.le_refl _
  | .neg t => by
    show 1 ≤ sizT t + 1
    omega
  | .nary j ts => by
    unfold flat1
    split
    · have h := flatL_len k ts
      show (flatL k ts).length ≤ sizL ts + 1
      omega
    · show 1 ≤ sizL ts + 1
      omega
theorem flatL_len (k : Bool) : ∀ ts : List LT, (flatL k ts).length ≤ sizL ts
  | [] => Nat.le_refl _
  | t :: ts => by
    have h1 := flat1_len k t
    have h2 := flatL_len k ts
    show (flat1 k t ++ flatL k ts).length ≤ sizT t + sizL ts
    rw [List.length_append]
    omega
end
theorem sizL_app : ∀ (a b : List LT), sizL (a ++ b) = sizL a + sizL b
  | [], b => by show sizL b = 0 + sizL b; omega
  | t :: a, b => by
    show sizT t + sizL (a ++ b) = sizT t + sizL a + sizL b
    rw [sizL_app a b]
    omega
theorem sizL_take {ts : List LT} {i : Nat} {t : LT} (h : ts[i]? = some t) : sizL (ts.take i) + sizT t ≤ sizL ts := by
  have e : sizL ts = sizL (ts.take (i + 1)) + sizL (ts.drop (i + 1)) := by rw [← sizL_app, List.take_append_drop]
  rw [take_snoc h, sizL_app] at e
  have e2 : sizL [t] = sizT t := by show sizT t + 0 = _; omega
  omega
theorem depL_mem : ∀ {ts : List LT} {i : Nat} {t : LT}, ts[i]? = some t → depT t ≤ depL ts
  | [], i, t, h => by simp at h
  | x :: ts, 0, t, h => by
    have e : x = t := by simpa using h
    subst e
    exact Nat.le_max_left _ _
  | x :: ts, i + 1, t, h => by
    have e : ts[i]? = some t := by simpa using h
    exact Nat.le_trans (depL_mem e) (Nat.le_max_right _ _)
theorem kind_inj {j k : Bool} (h : (kindOf j == kindOf k) = true) : j = k := by
  revert j k
  decide +kernel
theorem flat1_one {k : Bool} {t : LT} (h : (headOf t == kindOf k) = false) : flat1 k t = [t] := by
  cases t with
  | nary j ts =>
    unfold flat1
    rw [if_neg]
    intro e
    rw [e] at h
    simp [headOf] at h
  | _ => rfl
theorem head_kind {k : Bool} {t : LT} (h : (headOf t == kindOf k) = true) : ∃ ts, t = .nary k ts := by
  cases t with
  | nary j ts => exact ⟨ts, by rw [kind_inj h]⟩
  | word z =>
    have h2 : ((("word" : Str) == kindOf k) = true) := h
    rw [show (("word" : Str) == kindOf k) = false by clear h2 h; revert k; decide +kernel] at h2
    cases h2
  | cst b =>
    have h2 : ((cstOf b == kindOf k) = true) := h
    rw [show (cstOf b == kindOf k) = false by clear h2 h; revert b k; decide +kernel] at h2
    cases h2
  | neg t =>
    have h2 : ((("not" : Str) == kindOf k) = true) := h
    rw [show (("not" : Str) == kindOf k) = false by clear h2 h; revert k; decide +kernel] at h2
    cases h2
theorem atI_zero {x : V} {r : List V} : atI (x :: r) 0 = some x := atI_nat (j := 0) rfl
section
variable {P : Program} {w : World} {K : PySem.W.Frag} {mg : Str → Option Value} {base : Heap} {f : Addr} {fd : FuncData}
def spFlat (n : Nat) : Sp := fun vs H Q _ => ∃ (k : Bool) (l : Addr) (ts : List LT) (us : List V) (B : Hp), vs = [.str (kindOf k), .ref l] ∧ H l = some (.lst us) ∧ Same B H ∧ TreesAt B ts us ∧ depL ts ≤ n ∧ sizL ts ≤ 100000 ∧
  ∀ p G vs', Same H G → H p = none → G p = some (.lst vs') → TreesAt B (flatL k ts) vs' → Q (.ref p) G
theorem sc_flat : FnScope ["_law_kind", "_law_parts", "_law_out", "_law_part"] ["_law_kind", "_law_parts"] (defScope (tp 30)) := ⟨rfl, rfl, rfl, by decide +kernel, rfl, by decide +kernel, by decide +kernel⟩
theorem base_flat (F : FnT K "_law_flat" 30 f fd) : FnOk P w K mg base CX0 1 f fd ["_law_kind", "_law_parts"] (spFlat 0) := by
  refine F.ok sc_flat (fun vs H Q E h => ?_) (fun cdv A outer s H vs Q E hr h => ⟨_, PSs.nox (pss_cons (ps_set (i := 2) sc_flat.nd rfl (Or.inl rfl) (pe_lst pa_nil))
      (pss_cons (ps_for PassesOwn.never rfl (pi_list (pv 1)) (pg_name (i := 3) sc_flat.nd rfl (Or.inl rfl)) (pss_one (ps_if (pt_cmpR op_eq (pe_ix ix_tup (pv 3) pe_int (fun _ _ => rfl)) (pv 0) (nomark _)) (pss_one (ps_never)) (pss_one (ps_expr (pe_bm PySem.F.plainAttrs_list PySem.F.slot_list_append PySem.F.type_list_append mt_append (pv 2) (pa_cons (pv 3) pa_nil)))))))
      (pss_one (ps_ret (pv 2))))), ?_⟩)
  · obtain ⟨k, l, ts, us, B, rfl, _⟩ := h
    rfl
  · obtain ⟨k, l, ts, us, B, rfl, hl, sB, tr, hd, hs, q⟩ := h
    have line : (200000 : Nat) ≤ sizeLine := by decide
    refine ⟨Nat.zero_le _, fun o ho => ?_⟩
    have s0 := same_new ho (u := .lst [])
    refine ⟨_, rfl, l, rfl, ⟨_, SqL.of (s0 _ _ hl)⟩, for_list (K := K) (a := l) (xs := us)
      (fun i σ G => ∃ o3 vs', σ = [some (.str (kindOf k)), some (.ref l), some (.ref o), o3] ∧ Same H G ∧ G o = some (.lst vs') ∧ TreesAt B (flatL k (ts.take i)) vs')
      ⟨none, [], rfl, s0, upd_same, rfl⟩ (fun i σ G _ h => by
        obtain ⟨_, _, _, h, _⟩ := h
        exact SqL.of (h _ _ hl)) ?_ (fun σ G h => by
        obtain ⟨o3, vs', rfl, s1, g, t1⟩ := h
        rw [tr.len, List.take_length] at t1
        exact ⟨_, rfl, q o G vs' s1 ho g t1⟩)⟩
    rintro i x σ G hi ⟨o3, vs', rfl, s1, g, t1⟩
    obtain ⟨t, ht, tx⟩ := tr.at hi
    obtain ⟨p, rest, rfl, hp⟩ := treeHead tx
    have hpG := s1 _ _ (sB _ _ hp)
    have ef : flatL k (ts.take (i + 1)) = flatL k (ts.take i) ++ flat1 k t := by
      rw [take_snoc ht, flatL_app]
      show flatL k (ts.take i) ++ (flat1 k t ++ []) = _
      rw [List.append_nil]
    have hlen : vs'.length + sizT t ≤ 100000 := by
      have w1 := t1.len
      have w2 := flatL_len k (ts.take i)
      have w3 := sizL_take ht
      omega
    refine ⟨_, rfl, p, _, 0, .str (headOf t), rfl, rfl, SqT.of hpG, atI_zero, _, rfl, rfl, _, rfl, ?_⟩
    rw [dec_str]
    have keep : (headOf t == kindOf k) = false → rAppend (.ref o) [.ref p] G (fun _ G' => ∃ o3 vs', [some (.str (kindOf k)), some (.ref l), some (.ref o), some (.ref p)] = [some (V.str (kindOf k)), some (.ref l), some (.ref o), o3] ∧ Same H G' ∧ G' o = some (.lst vs') ∧ TreesAt B (flatL k (ts.take (i + 1))) vs') := by
      intro hk
      have e1 : flat1 k t = [t] := flat1_one hk
      refine ⟨o, _, _, rfl, rfl, g, by have := sizT_pos t; omega, _, _, rfl, ?_, upd_same, ?_⟩
      · intro b u hb
        rw [upd_ne (ne_of_none hb ho)]
        exact s1 _ _ hb
      · rw [ef, e1]
        exact t1.snoc tx
    cases c : (headOf t == kindOf k) with
    | false => exact iteF ⟨_, rfl, .inl ⟨rfl, _, SqL.of g⟩, _, rfl, keep c⟩
    | true =>
      obtain ⟨ts2, rfl⟩ := head_kind c
      have w1 := depL_mem ht
      have w2 : depT (.nary k ts2) = depL ts2 + 1 := rfl
      omega
theorem step_flat (F : FnT K "_law_flat" 30 f fd) (gF : mg "_law_flat" = some (.ref f)) (n : Nat) (IH : FnOk P w K mg base CX0 (n + 1) f fd ["_law_kind", "_law_parts"] (spFlat n)) : FnOk P w K mg base CX0 (n + 1 + 1) f fd ["_law_kind", "_law_parts"] (spFlat (n + 1)) := by
  have bF : L2.Binds K fd ["_law_kind", "_law_parts"] [] := F.bindsN fun _ _ _ _ _ _ us hl => match us, hl with | [_, _], _ => rfl
  refine F.ok sc_flat (fun vs H Q E h => ?_) (fun cdv A outer s H vs Q E hr h => ⟨_, PSs.nox (pss_cons (ps_set (i := 2) sc_flat.nd rfl (Or.inl rfl) (pe_lst pa_nil))
      (pss_cons (ps_for PassesOwn.never rfl (pi_list (pv 1)) (pg_name (i := 3) sc_flat.nd rfl (Or.inl rfl)) (pss_one (ps_if (pt_cmpR op_eq (pe_ix ix_tup (pv 3) pe_int (fun _ _ => rfl)) (pv 0) (nomark _)) (pss_one (ps_expr (pe_bm PySem.F.plainAttrs_list PySem.F.slot_list_extend PySem.F.type_list_extend mt_extend (pv 2) (pa_cons (pe_call IH hr rfl gF F.kp bF .nil pass0 (pa_cons (pv 0) (pa_cons (pe_ix ix_tup (pv 3) pe_int (fun _ _ => rfl)) pa_nil))) pa_nil)))) (pss_one (ps_expr (pe_bm PySem.F.plainAttrs_list PySem.F.slot_list_append PySem.F.type_list_append mt_append (pv 2) (pa_cons (pv 3) pa_nil)))))))
      (pss_one (ps_ret (pv 2))))), ?_⟩)
  · obtain ⟨k, l, ts, us, B, rfl, _⟩ := h
    rfl
  · obtain ⟨k, l, ts, us, B, rfl, hl, sB, tr, hd, hs, q⟩ := h
    have line : (200000 : Nat) ≤ sizeLine := by decide
    refine ⟨Nat.zero_le _, fun o ho => ?_⟩
    have s0 := same_new ho (u := .lst [])
    refine ⟨_, rfl, l, rfl, ⟨_, SqL.of (s0 _ _ hl)⟩, for_list (K := K) (a := l) (xs := us)
      (fun i σ G => ∃ o3 vs', σ = [some (.str (kindOf k)), some (.ref l), some (.ref o), o3] ∧ Same H G ∧ G o = some (.lst vs') ∧ TreesAt B (flatL k (ts.take i)) vs')
      ⟨none, [], rfl, s0, upd_same, rfl⟩ (fun i σ G _ h => by
        obtain ⟨_, _, _, h, _⟩ := h
        exact SqL.of (h _ _ hl)) ?_ (fun σ G h => by
        obtain ⟨o3, vs', rfl, s1, g, t1⟩ := h
        rw [tr.len, List.take_length] at t1
        exact ⟨_, rfl, q o G vs' s1 ho g t1⟩)⟩
    rintro i x σ G hi ⟨o3, vs', rfl, s1, g, t1⟩
    obtain ⟨t, ht, tx⟩ := tr.at hi
    obtain ⟨p, rest, rfl, hp⟩ := treeHead tx
    have hpG := s1 _ _ (sB _ _ hp)
    have ef : flatL k (ts.take (i + 1)) = flatL k (ts.take i) ++ flat1 k t := by
      rw [take_snoc ht, flatL_app]
      show flatL k (ts.take i) ++ (flat1 k t ++ []) = _
      rw [List.append_nil]
    have hlen : vs'.length + sizT t ≤ 100000 := by
      have w1 := t1.len
      have w2 := flatL_len k (ts.take i)
      have w3 := sizL_take ht
      omega
    refine ⟨_, rfl, p, _, 0, .str (headOf t), rfl, rfl, SqT.of hpG, atI_zero, _, rfl, rfl, _, rfl, ?_⟩
    rw [dec_str]
    have keep : (headOf t == kindOf k) = false → rAppend (.ref o) [.ref p] G (fun _ G' => ∃ o3 vs', [some (.str (kindOf k)), some (.ref l), some (.ref o), some (.ref p)] = [some (V.str (kindOf k)), some (.ref l), some (.ref o), o3] ∧ Same H G' ∧ G' o = some (.lst vs') ∧ TreesAt B (flatL k (ts.take (i + 1))) vs') := by
      intro hk
      have e1 : flat1 k t = [t] := flat1_one hk
      refine ⟨o, _, _, rfl, rfl, g, by have := sizT_pos t; omega, _, _, rfl, ?_, upd_same, ?_⟩
      · intro b u hb
        rw [upd_ne (ne_of_none hb ho)]
        exact s1 _ _ hb
      · rw [ef, e1]
        exact t1.snoc tx
    cases c : (headOf t == kindOf k) with
    | false => exact iteF ⟨_, rfl, .inl ⟨rfl, _, SqL.of g⟩, _, rfl, keep c⟩
    | true =>
      obtain ⟨ts2, rfl⟩ := head_kind c
      obtain ⟨p2, l2, us2, e2, hp2, hl2, tr2⟩ := tx
      cases e2
      have w1 := depL_mem ht
      have w2 : depT (.nary k ts2) = depL ts2 + 1 := rfl
      have w3 : sizT (.nary k ts2) = sizL ts2 + 1 := rfl
      have sBG := fun b u h => s1 b u (sB b u h)
      refine iteT ⟨_, rfl, .inl ⟨rfl, _, SqL.of g⟩, _, rfl, _, rfl, p, _, 1, .ref l2, rfl, rfl, SqT.of (s1 _ _ (sB _ _ hp2)), rfl, k, l2, ts2, us2, B, rfl, sBG _ _ hl2, sBG, tr2, by omega, by omega, fun p3 G3 vs3 s3 n3 g3 t3 => ?_⟩
      have w4 := t3.len
      have w5 := flatL_len k ts2
      refine ⟨o, p3, _, _, rfl, rfl, s3 _ _ g, g3, by omega, _, _, rfl, ?_, upd_same, ?_⟩
      · intro b u hb
        rw [upd_ne (ne_of_none hb ho)]
        exact s3 _ _ (s1 _ _ hb)
      · have e1 : flat1 k (.nary k ts2) = flatL k ts2 := by
          unfold flat1
          rw [if_pos rfl]
        rw [ef, e1]
        exact t1.app t3
end
end Fx
set_option maxHeartbeats 2000000
namespace Fx
open PySem PySem.Spec PyProof.Rows L2 TL

mutual
def ltT (p : Str → Bool) : LT → Bool
  | .word z => p z
  | .cst b => b
  | .neg t => !ltT p t
  | .nary true ts => !((ltL p ts).any fun b => b == false)
  | .nary false ts => (ltL p ts).any fun b => b == true
def ltL (p : Str → Bool) : List LT → List Bool
  | [] => []
  | t :: ts => ltT p t :: ltL p ts
end
theorem ltL_len (p : Str → Bool) : ∀ ts, (ltL p ts).length = ts.length
  | [] => rfl
  | _ :: ts => congrArg (· + 1) (ltL_len p ts)
theorem ltL_app (p : Str → Bool) : ∀ a b, ltL p (a ++ b) = ltL p a ++ ltL p b
  | [], _ => rfl
  | t :: a, b => congrArg (ltT p t :: ·) (ltL_app p a b)
theorem sizL_len : ∀ ts : List LT, ts.length ≤ sizL ts
  | [] => Nat.le_refl _
  | t :: ts => by
    have h1 := sizT_pos t
    have h2 := sizL_len ts
    show ts.length + 1 ≤ sizT t + sizL ts
    omega
theorem flat_bls : ∀ l : List Bool, (l.map V.bl).all flatV = true
  | [] => rfl
  | b :: l => by
    show (flatV (.bl b) && (l.map V.bl).all flatV) = true
    rw [flat_bls l] <;> rfl
theorem inV_bls (b : Bool) : ∀ l : List Bool, inV (.bl b) (l.map V.bl) = l.any fun y => y == b
  | [] => rfl
  | y :: l => by
    show (eqV (.bl y) (.bl b) || inV (.bl b) (l.map V.bl)) = _
    rw [inV_bls b l, show eqV (.bl y) (.bl b) = (y == b) by cases y <;> cases b <;> rfl] <;> rfl
theorem in_bl (b : Bool) (l : List Bool) : (if (false : Bool) = true then !inV (.bl b) (l.map V.bl) else inV (.bl b) (l.map V.bl)) = l.any fun y => y == b := by
  rw [if_neg Bool.false_ne_true, inV_bls]
theorem notin_bl (b : Bool) (l : List Bool) : (if (true : Bool) = true then !inV (.bl b) (l.map V.bl) else inV (.bl b) (l.map V.bl)) = !l.any fun y => y == b := by
  rw [if_pos rfl, inV_bls]
def headE (x y : Str) (b : Bool) : Prop := (x == y) = b
theorem hE (x : LT) (y : Str) (b : Bool) (h : (headOf x == y) = b) : decide (V.str (headOf x) = V.str y) = b := by rw [dec_str, h]
section
variable {P : Program} {w : World} {K : PySem.W.Frag} {mg : Str → Option Value} {base : Heap} {f : Addr} {fd : FuncData}
mutual
def leavT : LT → List Str
  | .word z => [z]
  | .cst _ => []
  | .neg t => leavT t
  | .nary _ ts => leavL ts
def leavL : List LT → List Str
  | [] => []
  | t :: ts => leavT t ++ leavL ts
end
theorem leavL_at : ∀ {ts : List LT} {i : Nat} {t : LT} {z : Str}, ts[i]? = some t → z ∈ leavT t → z ∈ leavL ts
  | [], _, _, _, e, _ => by simp at e
  | x :: ts, 0, t, z, e, h => by
    have e2 : x = t := by simpa using e
    subst e2
    exact List.mem_append_left _ h
  | x :: ts, i + 1, t, z, e, h => by
    have e2 : ts[i]? = some t := by simpa using e
    exact List.mem_append_right _ (leavL_at e2 h)
def spTrue (K : PySem.W.Frag) (n : Nat) : Sp := fun vs H Q _ => ∃ (v x : V) (t : LT) (inW : Str → Bool), vs = [v, x] ∧ TreeAt H t v ∧ InOk K H x inW ∧ depT t ≤ n ∧ sizT t ≤ 100000 ∧ (∀ z ∈ leavT t, PyData.strOk z = true) ∧
  ∀ G, Same H G → Q (.bl (ltT inW t)) G
theorem sc_true : FnScope ["_law_tree_here", "_law_words", "_law_part"] ["_law_tree_here", "_law_words"] (defScope (tp 29)) := ⟨rfl, rfl, rfl, by decide +kernel, rfl, by decide +kernel, by decide +kernel⟩
theorem base_true (F : FnT K "_law_true" 29 f fd) : FnOk P w K mg base CX0 1 f fd ["_law_tree_here", "_law_words"] (spTrue K 0) := by
  refine F.ok sc_true (fun vs H Q E h => ?_) (fun cdv A outer s H vs Q E hr h => ?_)
  · obtain ⟨v, x, t, inW, rfl, _⟩ := h
    rfl
  have hu65 : (A.deeper (envOfC "_law_true" (defScope (tp 29)) s.heap.objs.size f cdv)).units + 65 < cLine := by have := hr.un; omega
  refine ⟨_, PSs.nox (pss_cons (ps_if (pt_cmpR op_eq (pe_ix ix_tup (pv 0) pe_int (fun _ _ => rfl)) pe_str (nomark _)) (pss_one (ps_ret (pe_cmpR (r := rInW K) (op_in_seq.or (op_inD hu65)) (pe_ix ix_tup (pv 0) pe_int (fun _ _ => rfl)) (pv 1) (by rfl)))) pss_nil)
      (pss_cons (ps_if (pt_cmpR op_eq (pe_ix ix_tup (pv 0) pe_int (fun _ _ => rfl)) pe_str (nomark _)) (pss_one (ps_never)) pss_nil)
      (pss_cons (ps_if (pt_cmpR op_eq (pe_ix ix_tup (pv 0) pe_int (fun _ _ => rfl)) pe_str (nomark _)) (pss_one (ps_never)) pss_nil)
      (pss_cons (ps_if (pt_cmpR op_eq (pe_ix ix_tup (pv 0) pe_int (fun _ _ => rfl)) pe_str (nomark _)) (pss_one (ps_never)) pss_nil)
      (pss_one (ps_ret (pe_cmpR op_eq (pe_ix ix_tup (pv 0) pe_int (fun _ _ => rfl)) pe_str (nomark _)))))))), ?_⟩
  · obtain ⟨v, x, t, inW, rfl, tr, hw, hd, hs, hok, q⟩ := h
    have line : (200000 : Nat) ≤ sizeLine := by decide
    obtain ⟨p, rest, rfl, hp⟩ := treeHead tr
    cases t with
    | word z =>
      refine ⟨_, rfl, p, _, 0, .str (headOf (.word z)), rfl, rfl, SqT.of hp, atI_zero, rfl, _, rfl, ?_⟩
      rw [hE (.word z) "word" true (by exact (show (("word" : Str) == "word") = true by decide +kernel))]
      refine iteT ?_
      obtain ⟨p1, e1, hp1⟩ := tr
      cases e1
      refine ⟨_, rfl, p, _, 1, .str z, rfl, rfl, SqT.of hp1, rfl, x, rfl, ?_⟩
      rcases hw with ⟨p2, xs, rfl, hsq, hfl, hiw⟩ | ⟨ds, hdp, hsh, hiw⟩
      · refine .inl ⟨p2, xs, rfl, hsq, rfl, hfl, ?_⟩
        rw [if_neg Bool.false_ne_true, ← hiw z]
        exact q H (Same.refl H)
      · have hk := hok z List.mem_cons_self
        refine .inr ⟨.str z, ds, .str z, hdp, by unfold SeqAt.shaped; show (PyData.strOk z && _) = true; rw [hk] <;> rfl, hsh, ?_⟩
        rw [← hiw z hk]
        exact q H (Same.refl H)
    | cst b =>
      cases b
      · refine ⟨_, rfl, p, _, 0, .str (headOf (.cst false)), rfl, rfl, SqT.of hp, atI_zero, rfl, _, rfl, ?_⟩
        rw [hE (.cst false) "word" false (by exact (show (("none" : Str) == "word") = false by decide +kernel))]
        refine iteF ?_
        refine ⟨_, rfl, p, _, 0, .str (headOf (.cst false)), rfl, rfl, SqT.of hp, atI_zero, rfl, _, rfl, ?_⟩
        rw [hE (.cst false) "not" false (by exact (show (("none" : Str) == "not") = false by decide +kernel))]
        refine iteF ?_
        refine ⟨_, rfl, p, _, 0, .str (headOf (.cst false)), rfl, rfl, SqT.of hp, atI_zero, rfl, _, rfl, ?_⟩
        rw [hE (.cst false) "and" false (by exact (show (("none" : Str) == "and") = false by decide +kernel))]
        refine iteF ?_
        refine ⟨_, rfl, p, _, 0, .str (headOf (.cst false)), rfl, rfl, SqT.of hp, atI_zero, rfl, _, rfl, ?_⟩
        rw [hE (.cst false) "or" false (by exact (show (("none" : Str) == "or") = false by decide +kernel))]
        refine iteF ?_
        refine ⟨_, rfl, p, _, 0, .str (headOf (.cst false)), rfl, rfl, SqT.of hp, atI_zero, rfl, ?_⟩
        rw [hE (.cst false) "all" false (by exact (show (("none" : Str) == "all") = false by decide +kernel))]
        exact q H (Same.refl H)
      · refine ⟨_, rfl, p, _, 0, .str (headOf (.cst true)), rfl, rfl, SqT.of hp, atI_zero, rfl, _, rfl, ?_⟩
        rw [hE (.cst true) "word" false (by exact (show (("all" : Str) == "word") = false by decide +kernel))]
        refine iteF ?_
        refine ⟨_, rfl, p, _, 0, .str (headOf (.cst true)), rfl, rfl, SqT.of hp, atI_zero, rfl, _, rfl, ?_⟩
        rw [hE (.cst true) "not" false (by exact (show (("all" : Str) == "not") = false by decide +kernel))]
        refine iteF ?_
        refine ⟨_, rfl, p, _, 0, .str (headOf (.cst true)), rfl, rfl, SqT.of hp, atI_zero, rfl, _, rfl, ?_⟩
        rw [hE (.cst true) "and" false (by exact (show (("all" : Str) == "and") = false by decide +kernel))]
        refine iteF ?_
        refine ⟨_, rfl, p, _, 0, .str (headOf (.cst true)), rfl, rfl, SqT.of hp, atI_zero, rfl, _, rfl, ?_⟩
        rw [hE (.cst true) "or" false (by exact (show (("all" : Str) == "or") = false by decide +kernel))]
        refine iteF ?_
        refine ⟨_, rfl, p, _, 0, .str (headOf (.cst true)), rfl, rfl, SqT.of hp, atI_zero, rfl, ?_⟩
        rw [hE (.cst true) "all" true (by exact (show (("all" : Str) == "all") = true by decide +kernel))]
        exact q H (Same.refl H)
    | neg t =>
      exfalso
      have w2 : depT (.neg t) = depT t + 1 := rfl
      omega
    | nary k ts =>
      exfalso
      have w2 : depT (.nary k ts) = depL ts + 1 := rfl
      omega
theorem step_true (F : FnT K "_law_true" 29 f fd) (gF : mg "_law_true" = some (.ref f)) (n : Nat) (IH : FnOk P w K mg base CX0 (n + 1) f fd ["_law_tree_here", "_law_words"] (spTrue K n)) : FnOk P w K mg base CX0 (n + 1 + 1) f fd ["_law_tree_here", "_law_words"] (spTrue K (n + 1)) := by
  have bF : L2.Binds K fd ["_law_tree_here", "_law_words"] [] := F.bindsN fun _ _ _ _ _ _ us hl => match us, hl with | [_, _], _ => rfl
  refine F.ok sc_true (fun vs H Q E h => ?_) (fun cdv A outer s H vs Q E hr h => ?_)
  · obtain ⟨v, x, t, inW, rfl, _⟩ := h
    rfl
  have hu65 : (A.deeper (envOfC "_law_true" (defScope (tp 29)) s.heap.objs.size f cdv)).units + 65 < cLine := by have := hr.un; omega
  refine ⟨_, PSs.nox (pss_cons (ps_if (pt_cmpR op_eq (pe_ix ix_tup (pv 0) pe_int (fun _ _ => rfl)) pe_str (nomark _)) (pss_one (ps_ret (pe_cmpR (r := rInW K) (op_in_seq.or (op_inD hu65)) (pe_ix ix_tup (pv 0) pe_int (fun _ _ => rfl)) (pv 1) (by rfl)))) pss_nil)
      (pss_cons (ps_if (pt_cmpR op_eq (pe_ix ix_tup (pv 0) pe_int (fun _ _ => rfl)) pe_str (nomark _)) (pss_one (ps_ret (pe_not (pe_call IH hr rfl gF F.kp bF .nil pass0 (pa_cons (pe_ix ix_tup (pv 0) pe_int (fun _ _ => rfl)) (pa_cons (pv 1) pa_nil)))))) pss_nil)
      (pss_cons (ps_if (pt_cmpR op_eq (pe_ix ix_tup (pv 0) pe_int (fun _ _ => rfl)) pe_str (nomark _)) (pss_one (ps_ret (pe_cmpR op_notIn_seq pe_bl (pe_lc (own := [("_law_part", 2)]) (g := gName 2) (tt := tYes) rfl sc_true.nd (pi_list (pe_ix ix_tup (pv 0) pe_int (fun _ _ => rfl))) (blkOk_by (N := ["_law_tree_here", "_law_words", "_law_part"]) (sc := defScope (tp 29)) (by decide +kernel)) (fun _ _ _ _ _ => pg_name (i := 2) sc_true.nd rfl (Or.inl rfl)) (fun _ _ _ _ _ => pts_nil) (fun _ _ _ _ _ => (pe_call IH hr rfl gF F.kp bF .nil pass0 (pa_cons (pv 2) (pa_cons (pv 1) pa_nil))))) (by rfl)))) pss_nil)
      (pss_cons (ps_if (pt_cmpR op_eq (pe_ix ix_tup (pv 0) pe_int (fun _ _ => rfl)) pe_str (nomark _)) (pss_one (ps_ret (pe_cmpR op_in_seq pe_bl (pe_lc (own := [("_law_part", 2)]) (g := gName 2) (tt := tYes) rfl sc_true.nd (pi_list (pe_ix ix_tup (pv 0) pe_int (fun _ _ => rfl))) (blkOk_by (N := ["_law_tree_here", "_law_words", "_law_part"]) (sc := defScope (tp 29)) (by decide +kernel)) (fun _ _ _ _ _ => pg_name (i := 2) sc_true.nd rfl (Or.inl rfl)) (fun _ _ _ _ _ => pts_nil) (fun _ _ _ _ _ => (pe_call IH hr rfl gF F.kp bF .nil pass0 (pa_cons (pv 2) (pa_cons (pv 1) pa_nil))))) (by rfl)))) pss_nil)
      (pss_one (ps_ret (pe_cmpR op_eq (pe_ix ix_tup (pv 0) pe_int (fun _ _ => rfl)) pe_str (nomark _)))))))), ?_⟩
  · obtain ⟨v, x, t, inW, rfl, tr, hw, hd, hs, hok, q⟩ := h
    have line : (200000 : Nat) ≤ sizeLine := by decide
    obtain ⟨p, rest, rfl, hp⟩ := treeHead tr
    cases t with
    | word z =>
      refine ⟨_, rfl, p, _, 0, .str (headOf (.word z)), rfl, rfl, SqT.of hp, atI_zero, rfl, _, rfl, ?_⟩
      rw [hE (.word z) "word" true (by exact (show (("word" : Str) == "word") = true by decide +kernel))]
      refine iteT ?_
      obtain ⟨p1, e1, hp1⟩ := tr
      cases e1
      refine ⟨_, rfl, p, _, 1, .str z, rfl, rfl, SqT.of hp1, rfl, x, rfl, ?_⟩
      rcases hw with ⟨p2, xs, rfl, hsq, hfl, hiw⟩ | ⟨ds, hdp, hsh, hiw⟩
      · refine .inl ⟨p2, xs, rfl, hsq, rfl, hfl, ?_⟩
        rw [if_neg Bool.false_ne_true, ← hiw z]
        exact q H (Same.refl H)
      · have hk := hok z List.mem_cons_self
        refine .inr ⟨.str z, ds, .str z, hdp, by unfold SeqAt.shaped; show (PyData.strOk z && _) = true; rw [hk] <;> rfl, hsh, ?_⟩
        rw [← hiw z hk]
        exact q H (Same.refl H)
    | cst b =>
      cases b
      · refine ⟨_, rfl, p, _, 0, .str (headOf (.cst false)), rfl, rfl, SqT.of hp, atI_zero, rfl, _, rfl, ?_⟩
        rw [hE (.cst false) "word" false (by exact (show (("none" : Str) == "word") = false by decide +kernel))]
        refine iteF ?_
        refine ⟨_, rfl, p, _, 0, .str (headOf (.cst false)), rfl, rfl, SqT.of hp, atI_zero, rfl, _, rfl, ?_⟩
        rw [hE (.cst false) "not" false (by exact (show (("none" : Str) == "not") = false by decide +kernel))]
        refine iteF ?_
        refine ⟨_, rfl, p, _, 0, .str (headOf (.cst false)), rfl, rfl, SqT.of hp, atI_zero, rfl, _, rfl, ?_⟩
        rw [hE (.cst false) "and" false (by exact (show (("none" : Str) == "and") = false by decide +kernel))]
        refine iteF ?_
        refine ⟨_, rfl, p, _, 0, .str (headOf (.cst false)), rfl, rfl, SqT.of hp, atI_zero, rfl, _, rfl, ?_⟩
        rw [hE (.cst false) "or" false (by exact (show (("none" : Str) == "or") = false by decide +kernel))]
        refine iteF ?_
        refine ⟨_, rfl, p, _, 0, .str (headOf (.cst false)), rfl, rfl, SqT.of hp, atI_zero, rfl, ?_⟩
        rw [hE (.cst false) "all" false (by exact (show (("none" : Str) == "all") = false by decide +kernel))]
        exact q H (Same.refl H)
      · refine ⟨_, rfl, p, _, 0, .str (headOf (.cst true)), rfl, rfl, SqT.of hp, atI_zero, rfl, _, rfl, ?_⟩
        rw [hE (.cst true) "word" false (by exact (show (("all" : Str) == "word") = false by decide +kernel))]
        refine iteF ?_
        refine ⟨_, rfl, p, _, 0, .str (headOf (.cst true)), rfl, rfl, SqT.of hp, atI_zero, rfl, _, rfl, ?_⟩
        rw [hE (.cst true) "not" false (by exact (show (("all" : Str) == "not") = false by decide +kernel))]
        refine iteF ?_
        refine ⟨_, rfl, p, _, 0, .str (headOf (.cst true)), rfl, rfl, SqT.of hp, atI_zero, rfl, _, rfl, ?_⟩
        rw [hE (.cst true) "and" false (by exact (show (("all" : Str) == "and") = false by decide +kernel))]
        refine iteF ?_
        refine ⟨_, rfl, p, _, 0, .str (headOf (.cst true)), rfl, rfl, SqT.of hp, atI_zero, rfl, _, rfl, ?_⟩
        rw [hE (.cst true) "or" false (by exact (show (("all" : Str) == "or") = false by decide +kernel))]
        refine iteF ?_
        refine ⟨_, rfl, p, _, 0, .str (headOf (.cst true)), rfl, rfl, SqT.of hp, atI_zero, rfl, ?_⟩
        rw [hE (.cst true) "all" true (by exact (show (("all" : Str) == "all") = true by decide +kernel))]
        exact q H (Same.refl H)
    | neg t =>
      refine ⟨_, rfl, p, _, 0, .str (headOf (.neg t)), rfl, rfl, SqT.of hp, atI_zero, rfl, _, rfl, ?_⟩
      rw [hE (.neg t) "word" false (by exact (show (("not" : Str) == "word") = false by decide +kernel))]
      refine iteF ?_
      refine ⟨_, rfl, p, _, 0, .str (headOf (.neg t)), rfl, rfl, SqT.of hp, atI_zero, rfl, _, rfl, ?_⟩
      rw [hE (.neg t) "not" true (by exact (show (("not" : Str) == "not") = true by decide +kernel))]
      refine iteT ?_
      obtain ⟨p1, u, e1, hp1, tu⟩ := tr
      cases e1
      have w2 : depT (.neg t) = depT t + 1 := rfl
      have w3 : sizT (.neg t) = sizT t + 1 := rfl
      exact ⟨_, rfl, p, _, 1, u, rfl, rfl, SqT.of hp1, rfl, _, rfl, u, x, t, inW, rfl, tu, hw, by omega, by omega, hok, fun G s => ⟨_, rfl, q G s⟩⟩
    | nary k ts =>
      cases k
      · refine ⟨_, rfl, p, _, 0, .str (headOf (.nary false ts)), rfl, rfl, SqT.of hp, atI_zero, rfl, _, rfl, ?_⟩
        rw [hE (.nary false ts) "word" false (by exact (show (("or" : Str) == "word") = false by decide +kernel))]
        refine iteF ?_
        refine ⟨_, rfl, p, _, 0, .str (headOf (.nary false ts)), rfl, rfl, SqT.of hp, atI_zero, rfl, _, rfl, ?_⟩
        rw [hE (.nary false ts) "not" false (by exact (show (("or" : Str) == "not") = false by decide +kernel))]
        refine iteF ?_
        refine ⟨_, rfl, p, _, 0, .str (headOf (.nary false ts)), rfl, rfl, SqT.of hp, atI_zero, rfl, _, rfl, ?_⟩
        rw [hE (.nary false ts) "and" false (by exact (show (("or" : Str) == "and") = false by decide +kernel))]
        refine iteF ?_
        refine ⟨_, rfl, p, _, 0, .str (headOf (.nary false ts)), rfl, rfl, SqT.of hp, atI_zero, rfl, _, rfl, ?_⟩
        rw [hE (.nary false ts) "or" true (by exact (show (("or" : Str) == "or") = true by decide +kernel))]
        refine iteT ?_
        obtain ⟨p1, l2, us, e1, hp1, hl, tus⟩ := tr
        cases e1
        have w2 : depT (.nary false ts) = depL ts + 1 := rfl
        have w3 : sizT (.nary false ts) = sizL ts + 1 := rfl
        have w4 := tus.len
        have w5 := sizL_len ts
        refine ⟨_, rfl, p, _, 1, .ref l2, rfl, rfl, SqT.of hp1, rfl, l2, rfl, ⟨_, SqL.of hl⟩, fun D hD => ?_⟩
        refine lc_list (K := K) (a := l2) (xs := us) (fun i G => Same H G ∧ G D = some (.lst ((ltL inW (ts.take i)).map V.bl))) ⟨same_new hD, upd_same⟩ (fun i G _ h => SqL.of (h.1 _ _ hl)) ?_ ?_
        · rintro i y G hi ⟨s1, g⟩
          obtain ⟨t, ht, tx⟩ := tus.at hi
          have w6 := depL_mem ht
          have w7 := sizL_take ht
          refine ⟨rfl, ?_⟩
          dsimp only [tYes]
          rw [if_pos rfl]
          refine ⟨_, rfl, _, rfl, y, x, t, inW, rfl, treeAt_same s1 tx, hw.same s1, by omega, by omega, fun z hz => hok z (leavL_at ht hz), fun G2 s2 => ⟨_, s2 _ _ g, ?_, ?_, ?_⟩⟩
          · rw [List.length_map, ltL_len, List.length_take]
            omega
          · intro b u hb
            rw [upd_ne (ne_of_none hb hD)]
            exact s2 _ _ (s1 _ _ hb)
          · rw [take_snoc ht, ltL_app, List.map_append]
            exact upd_same
        · rintro G ⟨s1, g⟩
          rw [w4, List.take_length] at g
          refine ⟨D, _, rfl, .inl (SqL.of g), rfl, flat_bls _, ?_⟩
          rw [in_bl]
          exact q G s1
      · refine ⟨_, rfl, p, _, 0, .str (headOf (.nary true ts)), rfl, rfl, SqT.of hp, atI_zero, rfl, _, rfl, ?_⟩
        rw [hE (.nary true ts) "word" false (by exact (show (("and" : Str) == "word") = false by decide +kernel))]
        refine iteF ?_
        refine ⟨_, rfl, p, _, 0, .str (headOf (.nary true ts)), rfl, rfl, SqT.of hp, atI_zero, rfl, _, rfl, ?_⟩
        rw [hE (.nary true ts) "not" false (by exact (show (("and" : Str) == "not") = false by decide +kernel))]
        refine iteF ?_
        refine ⟨_, rfl, p, _, 0, .str (headOf (.nary true ts)), rfl, rfl, SqT.of hp, atI_zero, rfl, _, rfl, ?_⟩
        rw [hE (.nary true ts) "and" true (by exact (show (("and" : Str) == "and") = true by decide +kernel))]
        refine iteT ?_
        obtain ⟨p1, l2, us, e1, hp1, hl, tus⟩ := tr
        cases e1
        have w2 : depT (.nary true ts) = depL ts + 1 := rfl
        have w3 : sizT (.nary true ts) = sizL ts + 1 := rfl
        have w4 := tus.len
        have w5 := sizL_len ts
        refine ⟨_, rfl, p, _, 1, .ref l2, rfl, rfl, SqT.of hp1, rfl, l2, rfl, ⟨_, SqL.of hl⟩, fun D hD => ?_⟩
        refine lc_list (K := K) (a := l2) (xs := us) (fun i G => Same H G ∧ G D = some (.lst ((ltL inW (ts.take i)).map V.bl))) ⟨same_new hD, upd_same⟩ (fun i G _ h => SqL.of (h.1 _ _ hl)) ?_ ?_
        · rintro i y G hi ⟨s1, g⟩
          obtain ⟨t, ht, tx⟩ := tus.at hi
          have w6 := depL_mem ht
          have w7 := sizL_take ht
          refine ⟨rfl, ?_⟩
          dsimp only [tYes]
          rw [if_pos rfl]
          refine ⟨_, rfl, _, rfl, y, x, t, inW, rfl, treeAt_same s1 tx, hw.same s1, by omega, by omega, fun z hz => hok z (leavL_at ht hz), fun G2 s2 => ⟨_, s2 _ _ g, ?_, ?_, ?_⟩⟩
          · rw [List.length_map, ltL_len, List.length_take]
            omega
          · intro b u hb
            rw [upd_ne (ne_of_none hb hD)]
            exact s2 _ _ (s1 _ _ hb)
          · rw [take_snoc ht, ltL_app, List.map_append]
            exact upd_same
        · rintro G ⟨s1, g⟩
          rw [w4, List.take_length] at g
          refine ⟨D, _, rfl, .inl (SqL.of g), rfl, flat_bls _, ?_⟩
          rw [notin_bl]
          exact q G s1
end
end Fx
set_option maxHeartbeats 2000000
namespace Fx
open PySem PySem.Spec PyProof.Rows L2 TL

mutual
def lenT : LT → Nat
  | .word z => z.length + 1
  | .cst _ => 5
  | .neg t => lenT t + 7
  | .nary _ ts => lenL ts + 1
def lenL : List LT → Nat
  | [] => 0
  | t :: ts => lenT t + 7 + lenL ts
end
mutual
theorem siz_len : ∀ t : LT, sizT t ≤ lenT t
  | .word z => by show 1 ≤ z.length + 1; omega
  | .cst _ => by show 1 ≤ 5; omega
  | .neg t => by
    have h := siz_len t
    show sizT t + 1 ≤ lenT t + 7
    omega
  | .nary _ ts => by
    have h := sizL_lenL ts
    show sizL ts + 1 ≤ lenL ts + 1
    omega
theorem sizL_lenL : ∀ ts : List LT, sizL ts ≤ lenL ts
  | [] => Nat.le_refl _
  | t :: ts => by
    have h1 := siz_len t
    have h2 := sizL_lenL ts
    show sizT t + sizL ts ≤ lenT t + 7 + lenL ts
    omega
end
theorem lenL_app : ∀ (a b : List LT), lenL (a ++ b) = lenL a + lenL b
  | [], b => by show lenL b = 0 + lenL b; omega
  | t :: a, b => by
    show lenT t + 7 + lenL (a ++ b) = lenT t + 7 + lenL a + lenL b
    rw [lenL_app a b]
    omega
mutual
theorem len_flat1 (k : Bool) : ∀ t : LT, lenL (flat1 k t) ≤ lenT t + 7
  | .word z => by show z.length + 1 + 7 + 0 ≤ _; exact Nat.le_refl _
  | .cst _ => Nat.le_refl _
  | .neg t => by show lenT t + 7 + 7 + 0 ≤ lenT t + 7 + 7; omega
  | .nary j ts => by
    unfold flat1
    split
    · have h := len_flatL k ts
      show lenL (flatL k ts) ≤ lenL ts + 1 + 7
      omega
    · show lenL ts + 1 + 7 + 0 ≤ lenL ts + 1 + 7
      omega
theorem len_flatL (k : Bool) : ∀ ts : List LT, lenL (flatL k ts) ≤ lenL ts
  | [] => Nat.le_refl _
  | t :: ts => by
    have h1 := len_flat1 k t
    have h2 := len_flatL k ts
    show lenL (flat1 k t ++ flatL k ts) ≤ lenT t + 7 + lenL ts
    rw [lenL_app]
    omega
end
theorem depL_app : ∀ (a b : List LT), depL (a ++ b) = max (depL a) (depL b)
  | [], b => by show depL b = max 0 (depL b); omega
  | t :: a, b => by
    show max (depT t) (depL (a ++ b)) = max (max (depT t) (depL a)) (depL b)
    rw [depL_app a b]
    omega
mutual
theorem dep_flat1 (k : Bool) : ∀ t : LT, depL (flat1 k t) ≤ depT t
  | .word z => Nat.max_le.mpr ⟨Nat.le_refl _, Nat.zero_le _⟩
  | .cst _ => Nat.max_le.mpr ⟨Nat.le_refl _, Nat.zero_le _⟩
  | .neg t => Nat.max_le.mpr ⟨Nat.le_refl _, Nat.zero_le _⟩
  | .nary j ts => by
    unfold flat1
    split
    · exact Nat.le_trans (dep_flatL k ts) (Nat.le_succ _)
    · exact Nat.max_le.mpr ⟨Nat.le_refl _, Nat.zero_le _⟩
theorem dep_flatL (k : Bool) : ∀ ts : List LT, depL (flatL k ts) ≤ depL ts
  | [] => Nat.le_refl _
  | t :: ts => by
    have h1 := dep_flat1 k t
    have h2 := dep_flatL k ts
    show depL (flat1 k t ++ flatL k ts) ≤ max (depT t) (depL ts)
    rw [depL_app]
    omega
end
theorem lenL_mem : ∀ {ts : List LT} {i : Nat} {t : LT}, ts[i]? = some t → lenT t ≤ lenL ts
  | [], i, t, h => by simp at h
  | x :: ts, 0, t, h => by
    have e : x = t := by simpa using h
    subst e
    show lenT x ≤ lenT x + 7 + lenL ts
    omega
  | x :: ts, i + 1, t, h => by
    have e : ts[i]? = some t := by simpa using h
    have h2 := lenL_mem e
    show lenT t ≤ lenT x + 7 + lenL ts
    omega
def clo (kinds : List Str) (t : LT) (s : Str) : Str := if (kinds.any fun y => y == headOf t) = true then "(" ++ s ++ ")" else s
def kindsOf (k : Bool) : List Str := if k then ["or"] else []
def txtN : Nat → LT → Str
  | _, .word z => z
  | _, .cst b => cstOf b
  | n + 1, .neg t => "not " ++ clo ["and", "or"] t (txtN n t)
  | n + 1, .nary k ts => Str.join (" " ++ kindOf k ++ " ") ((flatL k ts).map fun t => clo (kindsOf k) t (txtN n t))
  | 0, _ => ""
theorem len_apS {a b : Str} : (a ++ b).length = a.length + b.length := by rw [len_tl, len_tl, len_tl, tl_append, List.length_append]
theorem len_join (y : Str) : ∀ ps : List Str, (Str.join y ps).length ≤ (ps.map (·.length)).sum + ps.length * y.length
  | [] => by show (0 : Nat) ≤ _; omega
  | [x] => by
    show x.length ≤ (x.length + 0) + 1 * y.length
    omega
  | x :: z :: r => by
    have h := len_join y (z :: r)
    show (x ++ y ++ Str.join y (z :: r)).length ≤ (x.length + ((z :: r).map (·.length)).sum) + ((z :: r).length + 1) * y.length
    rw [len_apS, len_apS, Nat.add_mul]
    omega
theorem clo_len {ks : List Str} {t : LT} {s : Str} : (clo ks t s).length ≤ s.length + 2 := by
  unfold clo
  split
  · rw [len_apS, len_apS, show (("(" : Str)).length = 1 from rfl, show ((")" : Str)).length = 1 from rfl]
    omega
  · omega
theorem kind_len (k : Bool) : (kindOf k).length ≤ 3 := by
  cases k <;> decide +kernel
theorem sep_len (k : Bool) : (" " ++ kindOf k ++ " " : Str).length ≤ 5 := by
  cases k <;> decide +kernel
theorem cst_len (b : Bool) : (cstOf b).length ≤ 4 := by
  cases b <;> decide +kernel
theorem sum_len {f : LT → Str} (hf : ∀ t, (f t).length ≤ lenT t + 2) : ∀ ts : List LT, ((ts.map f).map (·.length)).sum + (ts.map f).length * 5 ≤ lenL ts
  | [] => Nat.le_refl _
  | t :: ts => by
    have h1 := hf t
    have h2 := sum_len hf ts
    show ((f t).length + ((ts.map f).map (·.length)).sum) + ((ts.map f).length + 1) * 5 ≤ lenT t + 7 + lenL ts
    omega
theorem txt_len : ∀ (n : Nat) (t : LT), (txtN n t).length ≤ lenT t
  | n, .word z => by
    cases n <;> exact Nat.le_succ _
  | n, .cst b => by
    have h := cst_len b
    cases n <;> exact Nat.le_trans h (by show 4 ≤ 5; omega)
  | 0, .neg t => Nat.zero_le _
  | 0, .nary k ts => Nat.zero_le _
  | n + 1, .neg t => by
    have h := txt_len n t
    have h2 := clo_len (ks := ["and", "or"]) (t := t) (s := txtN n t)
    show ("not " ++ clo ["and", "or"] t (txtN n t) : Str).length ≤ lenT t + 7
    rw [len_apS, show ("not " : Str).length = 4 from rfl]
    omega
  | n + 1, .nary k ts => by
    have h := sum_len (f := fun t => clo (kindsOf k) t (txtN n t)) (fun t => by
      have h := txt_len n t
      have h2 := clo_len (ks := kindsOf k) (t := t) (s := txtN n t)
      omega) (flatL k ts)
    have h2 := len_join (" " ++ kindOf k ++ " ") ((flatL k ts).map fun t => clo (kindsOf k) t (txtN n t))
    have h3 := len_flatL k ts
    have h4 : ((flatL k ts).map fun t => clo (kindsOf k) t (txtN n t)).length * (" " ++ kindOf k ++ " " : Str).length ≤ ((flatL k ts).map fun t => clo (kindsOf k) t (txtN n t)).length * 5 := Nat.mul_le_mul_left _ (sep_len k)
    show (Str.join (" " ++ kindOf k ++ " ") ((flatL k ts).map fun t => clo (kindsOf k) t (txtN n t))).length ≤ lenL ts + 1
    omega
section
variable {P : Program} {w : World} {K : PySem.W.Frag} {mg : Str → Option Value} {base : Heap} {f fX fT : Addr} {fd fdX fdT : FuncData}
def spLText (n : Nat) : Sp := fun vs H Q _ => ∃ (v : V) (t : LT), vs = [v] ∧ TreeAt H t v ∧ depT t ≤ n ∧ lenT t ≤ 100000 ∧ ∀ G, Same H G → Q (.str (txtN n t)) G
def spClose (K : PySem.W.Frag) (n : Nat) : Sp := fun vs H Q _ => ∃ (v : V) (kd : Addr) (t : LT) (ks : List Str), vs = [v, .ref kd] ∧ TreeAt H t v ∧ SqL K H kd (ks.map V.str) ∧ depT t ≤ n ∧ lenT t ≤ 100000 ∧ ∀ G, Same H G → Q (.str (clo ks t (txtN n t))) G
theorem sc_ltext : FnScope ["_law_tree_here", "_law_open_kinds", "_law_part"] ["_law_tree_here"] (defScope (tp 31)) := ⟨rfl, rfl, rfl, by decide +kernel, rfl, by decide +kernel, by decide +kernel⟩
theorem sc_close : FnScope ["_law_tree_here", "_law_kinds"] ["_law_tree_here", "_law_kinds"] (defScope (tp 32)) := ⟨rfl, rfl, rfl, by decide +kernel, rfl, by decide +kernel, by decide +kernel⟩
theorem ok_close (m n : Nat) (F : FnT K "_law_close" 32 f fd) (FT : FnT K "_law_text" 31 fT fdT) (gT : mg "_law_text" = some (.ref fT)) (GT : FnOk P w K mg base CX0 (m + 1) fT fdT ["_law_tree_here"] (spLText n)) : FnOk P w K mg base CX0 (m + 1 + 1) f fd ["_law_tree_here", "_law_kinds"] (spClose K n) := by
  have bT : L2.Binds K fdT ["_law_tree_here"] [] := FT.bindsN fun _ _ _ _ _ _ us hl => match us, hl with | [_], _ => rfl
  refine F.ok sc_close (fun vs H Q E h => ?_) (fun cdv A outer s H vs Q E hr h => ⟨_, PSs.nox (pss_one (ps_ret (pe_ifExp (pt_cmpR op_in_seq (pe_ix ix_tup (pv 0) pe_int (fun _ _ => rfl)) (pv 1) (by rfl)) (pe_op op_add_str (pe_op op_add_str pe_str (pe_call GT (hr) rfl gT FT.kp bT .nil pass0 (pa_cons (pv 0) pa_nil))) pe_str) (pe_call GT (hr) rfl gT FT.kp bT .nil pass0 (pa_cons (pv 0) pa_nil))))), ?_⟩)
  · obtain ⟨v, kd, t, ks, rfl, _⟩ := h
    rfl
  · obtain ⟨v, kd, t, ks, rfl, tr, hk, hd, hs, q⟩ := h
    have line : (200000 : Nat) ≤ sizeLine := by decide
    obtain ⟨p, rest, rfl, hp⟩ := treeHead tr
    have w1 := txt_len n t
    refine ⟨_, rfl, p, _, 0, .str (headOf t), rfl, rfl, SqT.of hp, atI_zero, _, rfl, kd, ks.map V.str, rfl, .inl hk, rfl, flat_strs _, _, rfl, ?_⟩
    rw [in_val]
    cases c : (ks.any fun y => y == headOf t) with
    | true =>
      refine iteT ⟨_, rfl, .ref p, t, rfl, tr, hd, hs, fun G s => ⟨_, _, rfl, rfl, ?_, _, _, rfl, rfl, ?_, ?_⟩⟩
      · rw [show ("(" : Str).length = 1 from rfl]
        omega
      · rw [len_apS, show ("(" : Str).length = 1 from rfl, show (")" : Str).length = 1 from rfl]
        omega
      · have w2 := q G s
        unfold clo at w2
        rw [if_pos c] at w2
        exact w2
    | false =>
      refine iteF ⟨_, rfl, .ref p, t, rfl, tr, hd, hs, fun G s => ?_⟩
      have w2 := q G s
      unfold clo at w2
      rw [if_neg (by rw [c]; decide)] at w2
      exact w2
theorem base_ltext (F : FnT K "_law_text" 31 f fd) : FnOk P w K mg base CX0 1 f fd ["_law_tree_here"] (spLText 0) := by
  refine F.ok sc_ltext (fun vs H Q E h => ?_) (fun cdv A outer s H vs Q E hr h => ⟨_, PSs.nox (pss_cons (ps_if (pt_cmpR op_eq (pe_ix ix_tup (pv 0) pe_int (fun _ _ => rfl)) pe_str (nomark _)) (pss_one (ps_ret (pe_ix ix_tup (pv 0) pe_int (fun _ _ => rfl)))) pss_nil)
      (pss_cons (ps_if (pt_cmpR op_eq (pe_ix ix_tup (pv 0) pe_int (fun _ _ => rfl)) pe_str (nomark _)) (pss_one (ps_never)) pss_nil)
      (pss_cons (ps_if (pt_cmpR op_in_seq (pe_ix ix_tup (pv 0) pe_int (fun _ _ => rfl)) (pe_tup (pa_cons pe_str (pa_cons pe_str pa_nil))) (by rfl)) (pss_cons (ps_never)
      (pss_one (ps_never))) pss_nil)
      (pss_one (ps_ret (pe_ix ix_tup (pv 0) pe_int (fun _ _ => rfl))))))), ?_⟩)
  · obtain ⟨v, t, rfl, _⟩ := h
    rfl
  · obtain ⟨v, t, rfl, tr, hd, hs, q⟩ := h
    obtain ⟨p, rest, rfl, hp⟩ := treeHead tr
    cases t with
    | word z =>
      refine ⟨_, rfl, p, _, 0, .str (headOf (.word z)), rfl, rfl, SqT.of hp, atI_zero, rfl, _, rfl, ?_⟩
      rw [hE (.word z) "word" true (by exact (show (("word" : Str) == "word") = true by decide +kernel))]
      refine iteT ?_
      obtain ⟨p1, e1, hp1⟩ := tr
      cases e1
      exact ⟨_, rfl, p, _, 1, .str z, rfl, rfl, SqT.of hp1, rfl, q H (Same.refl H)⟩
    | cst b =>
      cases b
      · refine ⟨_, rfl, p, _, 0, .str (headOf (.cst false)), rfl, rfl, SqT.of hp, atI_zero, rfl, _, rfl, ?_⟩
        rw [hE (.cst false) "word" false (by exact (show ((("none" : Str) : Str) == "word") = false by decide +kernel))]
        refine iteF ?_
        refine ⟨_, rfl, p, _, 0, .str (headOf (.cst false)), rfl, rfl, SqT.of hp, atI_zero, rfl, _, rfl, ?_⟩
        rw [hE (.cst false) "not" false (by exact (show ((("none" : Str) : Str) == "not") = false by decide +kernel))]
        refine iteF ?_
        refine ⟨_, rfl, p, _, 0, .str (headOf (.cst false)), rfl, rfl, SqT.of hp, atI_zero, (by show 2 ≤ sizeLine; decide), fun g hg => ⟨g, [.str "and", .str "or"], rfl, .inr (SqT.of upd_same), rfl, rfl, _, rfl, ?_⟩⟩
        rw [show (if (false : Bool) = true then !inV (.str (headOf (.cst false))) [.str "and", .str "or"] else inV (.str (headOf (.cst false))) [.str "and", .str "or"]) = false from (show (if (false : Bool) = true then !inV (.str ("none" : Str)) [.str "and", .str "or"] else inV (.str ("none" : Str)) [.str "and", .str "or"]) = false by decide +kernel)]
        have hp := same_new hg (u := .tup [.str "and", .str "or"]) _ _ hp
        refine iteF ?_
        exact ⟨_, rfl, p, _, 0, .str (headOf (.cst false)), rfl, rfl, SqT.of hp, atI_zero, q _ (same_new hg)⟩
      · refine ⟨_, rfl, p, _, 0, .str (headOf (.cst true)), rfl, rfl, SqT.of hp, atI_zero, rfl, _, rfl, ?_⟩
        rw [hE (.cst true) "word" false (by exact (show ((("all" : Str) : Str) == "word") = false by decide +kernel))]
        refine iteF ?_
        refine ⟨_, rfl, p, _, 0, .str (headOf (.cst true)), rfl, rfl, SqT.of hp, atI_zero, rfl, _, rfl, ?_⟩
        rw [hE (.cst true) "not" false (by exact (show ((("all" : Str) : Str) == "not") = false by decide +kernel))]
        refine iteF ?_
        refine ⟨_, rfl, p, _, 0, .str (headOf (.cst true)), rfl, rfl, SqT.of hp, atI_zero, (by show 2 ≤ sizeLine; decide), fun g hg => ⟨g, [.str "and", .str "or"], rfl, .inr (SqT.of upd_same), rfl, rfl, _, rfl, ?_⟩⟩
        rw [show (if (false : Bool) = true then !inV (.str (headOf (.cst true))) [.str "and", .str "or"] else inV (.str (headOf (.cst true))) [.str "and", .str "or"]) = false from (show (if (false : Bool) = true then !inV (.str ("all" : Str)) [.str "and", .str "or"] else inV (.str ("all" : Str)) [.str "and", .str "or"]) = false by decide +kernel)]
        have hp := same_new hg (u := .tup [.str "and", .str "or"]) _ _ hp
        refine iteF ?_
        exact ⟨_, rfl, p, _, 0, .str (headOf (.cst true)), rfl, rfl, SqT.of hp, atI_zero, q _ (same_new hg)⟩
    | neg t =>
      exfalso
      have w2 : depT (.neg t) = depT t + 1 := rfl
      omega
    | nary k ts =>
      exfalso
      have w2 : depT (.nary k ts) = depL ts + 1 := rfl
      omega
theorem step_ltext (m n : Nat) (F : FnT K "_law_text" 31 f fd) (FX : FnT K "_law_close" 32 fX fdX) (gX : mg "_law_close" = some (.ref fX)) (GX : FnOk P w K mg base CX0 (m + 1) fX fdX ["_law_tree_here", "_law_kinds"] (spClose K n))
    (FF : FnT K "_law_flat" 30 fT fdT) (gF : mg "_law_flat" = some (.ref fT)) (GF : FnOk P w K mg base CX0 (m + 1) fT fdT ["_law_kind", "_law_parts"] (spFlat n)) : FnOk P w K mg base CX0 (m + 1 + 1) f fd ["_law_tree_here"] (spLText (n + 1)) := by
  have bX : L2.Binds K fdX ["_law_tree_here", "_law_kinds"] [] := FX.bindsN fun _ _ _ _ _ _ us hl => match us, hl with | [_, _], _ => rfl
  have bF : L2.Binds K fdT ["_law_kind", "_law_parts"] [] := FF.bindsN fun _ _ _ _ _ _ us hl => match us, hl with | [_, _], _ => rfl
  refine F.ok sc_ltext (fun vs H Q E h => ?_) (fun cdv A outer s H vs Q E hr h => ⟨_, PSs.nox (pss_cons (ps_if (pt_cmpR op_eq (pe_ix ix_tup (pv 0) pe_int (fun _ _ => rfl)) pe_str (nomark _)) (pss_one (ps_ret (pe_ix ix_tup (pv 0) pe_int (fun _ _ => rfl)))) pss_nil)
      (pss_cons (ps_if (pt_cmpR op_eq (pe_ix ix_tup (pv 0) pe_int (fun _ _ => rfl)) pe_str (nomark _)) (pss_one (ps_ret (pe_op op_add_str pe_str (pe_call GX hr rfl gX FX.kp bX .nil pass0 (pa_cons (pe_ix ix_tup (pv 0) pe_int (fun _ _ => rfl)) (pa_cons (pe_lst (pa_cons pe_str (pa_cons pe_str pa_nil))) pa_nil)))))) pss_nil)
      (pss_cons (ps_if (pt_cmpR op_in_seq (pe_ix ix_tup (pv 0) pe_int (fun _ _ => rfl)) (pe_tup (pa_cons pe_str (pa_cons pe_str pa_nil))) (by rfl)) (pss_cons (ps_set (i := 1) sc_ltext.nd rfl (Or.inr rfl) (pe_ifExp (pt_cmpR op_eq (pe_ix ix_tup (pv 0) pe_int (fun _ _ => rfl)) pe_str (nomark _)) (pe_lst (pa_cons pe_str pa_nil)) (pe_lst pa_nil)))
      (pss_one (ps_ret (pe_bm PySem.F.plainAttrs_str PySem.F.slot_str_join PySem.F.type_str_join mt_join (pe_op op_add_str (pe_op op_add_str pe_str (pe_ix ix_tup (pv 0) pe_int (fun _ _ => rfl))) pe_str) (pa_cons (pe_lc (own := [("_law_part", 2)]) (g := gName 2) (tt := tYes) rfl sc_ltext.nd (pi_list (pe_call GF (hr) rfl gF FF.kp bF .nil pass0 (pa_cons (pe_ix ix_tup (pv 0) pe_int (fun _ _ => rfl)) (pa_cons (pe_ix ix_tup (pv 0) pe_int (fun _ _ => rfl)) pa_nil)))) (blkOk_by (N := ["_law_tree_here", "_law_open_kinds", "_law_part"]) (sc := defScope (tp 31)) (by decide +kernel)) (fun _ _ _ _ _ => pg_name (i := 2) sc_ltext.nd rfl (Or.inl rfl)) (fun _ _ _ _ _ => pts_nil) (fun _ _ _ _ _ => (pe_call GX hr rfl gX FX.kp bX .nil pass0 (pa_cons (pv 2) (pa_cons (pv 1) pa_nil))))) pa_nil))))) pss_nil)
      (pss_one (ps_ret (pe_ix ix_tup (pv 0) pe_int (fun _ _ => rfl))))))), ?_⟩)
  · obtain ⟨v, t, rfl, _⟩ := h
    rfl
  · obtain ⟨v, t, rfl, tr, hd, hs, q⟩ := h
    have line : (200000 : Nat) ≤ sizeLine := by decide
    obtain ⟨p, rest, rfl, hp⟩ := treeHead tr
    cases t with
    | word z =>
      refine ⟨_, rfl, p, _, 0, .str (headOf (.word z)), rfl, rfl, SqT.of hp, atI_zero, rfl, _, rfl, ?_⟩
      rw [hE (.word z) "word" true (by exact (show (("word" : Str) == "word") = true by decide +kernel))]
      refine iteT ?_
      obtain ⟨p1, e1, hp1⟩ := tr
      cases e1
      exact ⟨_, rfl, p, _, 1, .str z, rfl, rfl, SqT.of hp1, rfl, q H (Same.refl H)⟩
    | cst b =>
      cases b
      · refine ⟨_, rfl, p, _, 0, .str (headOf (.cst false)), rfl, rfl, SqT.of hp, atI_zero, rfl, _, rfl, ?_⟩
        rw [hE (.cst false) "word" false (by exact (show ((("none" : Str) : Str) == "word") = false by decide +kernel))]
        refine iteF ?_
        refine ⟨_, rfl, p, _, 0, .str (headOf (.cst false)), rfl, rfl, SqT.of hp, atI_zero, rfl, _, rfl, ?_⟩
        rw [hE (.cst false) "not" false (by exact (show ((("none" : Str) : Str) == "not") = false by decide +kernel))]
        refine iteF ?_
        refine ⟨_, rfl, p, _, 0, .str (headOf (.cst false)), rfl, rfl, SqT.of hp, atI_zero, (by show 2 ≤ sizeLine; decide), fun g hg => ⟨g, [.str "and", .str "or"], rfl, .inr (SqT.of upd_same), rfl, rfl, _, rfl, ?_⟩⟩
        rw [show (if (false : Bool) = true then !inV (.str (headOf (.cst false))) [.str "and", .str "or"] else inV (.str (headOf (.cst false))) [.str "and", .str "or"]) = false from (show (if (false : Bool) = true then !inV (.str ("none" : Str)) [.str "and", .str "or"] else inV (.str ("none" : Str)) [.str "and", .str "or"]) = false by decide +kernel)]
        have hp := same_new hg (u := .tup [.str "and", .str "or"]) _ _ hp
        refine iteF ?_
        exact ⟨_, rfl, p, _, 0, .str (headOf (.cst false)), rfl, rfl, SqT.of hp, atI_zero, q _ (same_new hg)⟩
      · refine ⟨_, rfl, p, _, 0, .str (headOf (.cst true)), rfl, rfl, SqT.of hp, atI_zero, rfl, _, rfl, ?_⟩
        rw [hE (.cst true) "word" false (by exact (show ((("all" : Str) : Str) == "word") = false by decide +kernel))]
        refine iteF ?_
        refine ⟨_, rfl, p, _, 0, .str (headOf (.cst true)), rfl, rfl, SqT.of hp, atI_zero, rfl, _, rfl, ?_⟩
        rw [hE (.cst true) "not" false (by exact (show ((("all" : Str) : Str) == "not") = false by decide +kernel))]
        refine iteF ?_
        refine ⟨_, rfl, p, _, 0, .str (headOf (.cst true)), rfl, rfl, SqT.of hp, atI_zero, (by show 2 ≤ sizeLine; decide), fun g hg => ⟨g, [.str "and", .str "or"], rfl, .inr (SqT.of upd_same), rfl, rfl, _, rfl, ?_⟩⟩
        rw [show (if (false : Bool) = true then !inV (.str (headOf (.cst true))) [.str "and", .str "or"] else inV (.str (headOf (.cst true))) [.str "and", .str "or"]) = false from (show (if (false : Bool) = true then !inV (.str ("all" : Str)) [.str "and", .str "or"] else inV (.str ("all" : Str)) [.str "and", .str "or"]) = false by decide +kernel)]
        have hp := same_new hg (u := .tup [.str "and", .str "or"]) _ _ hp
        refine iteF ?_
        exact ⟨_, rfl, p, _, 0, .str (headOf (.cst true)), rfl, rfl, SqT.of hp, atI_zero, q _ (same_new hg)⟩
    | neg t =>
      refine ⟨_, rfl, p, _, 0, .str (headOf (.neg t)), rfl, rfl, SqT.of hp, atI_zero, rfl, _, rfl, ?_⟩
      rw [hE (.neg t) "word" false (by exact (show (("not" : Str) == "word") = false by decide +kernel))]
      refine iteF ?_
      refine ⟨_, rfl, p, _, 0, .str (headOf (.neg t)), rfl, rfl, SqT.of hp, atI_zero, rfl, _, rfl, ?_⟩
      rw [hE (.neg t) "not" true (by exact (show (("not" : Str) == "not") = true by decide +kernel))]
      refine iteT ?_
      obtain ⟨p1, u, e1, hp1, tu⟩ := tr
      cases e1
      have w2 : depT (.neg t) = depT t + 1 := rfl
      have w3 : lenT (.neg t) = lenT t + 7 := rfl
      refine ⟨_, rfl, p, _, 1, u, rfl, rfl, SqT.of hp1, rfl, (by show 2 ≤ sizeLine; decide), fun g hg => ?_⟩
      have s0 := same_new hg (u := .lst [.str "and", .str "or"])
      refine ⟨u, g, t, ["and", "or"], rfl, treeAt_same s0 tu, SqL.of upd_same, by omega, by omega, fun G s => ⟨_, _, rfl, rfl, ?_, q G (s0.trans s)⟩⟩
      have w4 := txt_len n t
      have w5 := clo_len (ks := ["and", "or"]) (t := t) (s := txtN n t)
      rw [show ("not " : Str).length = 4 from rfl]
      omega
    | nary k ts =>
      cases k
      · refine ⟨_, rfl, p, _, 0, .str (headOf (.nary false ts)), rfl, rfl, SqT.of hp, atI_zero, rfl, _, rfl, ?_⟩
        rw [hE (.nary false ts) "word" false (by exact (show ((("or" : Str) : Str) == "word") = false by decide +kernel))]
        refine iteF ?_
        refine ⟨_, rfl, p, _, 0, .str (headOf (.nary false ts)), rfl, rfl, SqT.of hp, atI_zero, rfl, _, rfl, ?_⟩
        rw [hE (.nary false ts) "not" false (by exact (show ((("or" : Str) : Str) == "not") = false by decide +kernel))]
        refine iteF ?_
        refine ⟨_, rfl, p, _, 0, .str (headOf (.nary false ts)), rfl, rfl, SqT.of hp, atI_zero, (by show 2 ≤ sizeLine; decide), fun g hg => ⟨g, [.str "and", .str "or"], rfl, .inr (SqT.of upd_same), rfl, rfl, _, rfl, ?_⟩⟩
        rw [show (if (false : Bool) = true then !inV (.str (headOf (.nary false ts))) [.str "and", .str "or"] else inV (.str (headOf (.nary false ts))) [.str "and", .str "or"]) = true from (show (if (false : Bool) = true then !inV (.str ("or" : Str)) [.str "and", .str "or"] else inV (.str ("or" : Str)) [.str "and", .str "or"]) = true by decide +kernel)]
        have hp := same_new hg (u := .tup [.str "and", .str "or"]) _ _ hp
        refine iteT ?_
        obtain ⟨p1, l2, us, e1, hp1, hl, tus⟩ := tr
        cases e1
        have w2 : depT (.nary false ts) = depL ts + 1 := rfl
        have w3 : lenT (.nary false ts) = lenL ts + 1 := rfl
        have w4 := sizL_lenL ts
        have w5 := sep_len false
        have w6 := kind_len false
        refine ⟨_, rfl, p, _, 0, .str (headOf (.nary false ts)), rfl, rfl, SqT.of hp, atI_zero, rfl, _, rfl, ?_⟩
        rw [hE (.nary false ts) "and" false (by exact (show (("or" : Str) == "and") = false by decide +kernel))]
        refine iteF ⟨Nat.zero_le _, fun o ho => ?_⟩
        have sg := same_new hg (u := .tup [.str "and", .str "or"])
        have so := same_new ho (u := .lst [])
        have s0 := sg.trans so
        refine ⟨_, rfl, p, _, 0, .str (headOf (.nary false ts)), rfl, rfl, SqT.of (so _ _ hp), atI_zero, _, _, rfl, rfl, ?_, _, _, rfl, rfl, ?_, ?_⟩
        · rw [show (" " : Str).length = 1 from rfl]
          have w7 : (headOf (.nary false ts)).length ≤ 3 := kind_len false
          omega
        · rw [len_apS, show (" " : Str).length = 1 from rfl]
          have w7 : (headOf (.nary false ts)).length ≤ 3 := kind_len false
          omega
        · refine ⟨rfl, ?_⟩
          refine ⟨_, rfl, p, _, 0, .str (headOf (.nary false ts)), rfl, rfl, SqT.of (so _ _ hp), atI_zero, _, rfl, p, _, 1, .ref l2, rfl, rfl, SqT.of (s0 _ _ hp1), rfl, false, l2, ts, us, H, rfl, s0 _ _ hl, s0, tus, by omega, by omega, fun pf G vs3 s3 n3 g3 t3 => ⟨pf, rfl, ⟨_, SqL.of g3⟩, fun D hD => ?_⟩⟩
          have w8 := t3.len
          have w9 := flatL_len false ts
          have w10 := len_flatL false ts
          have w11 := dep_flatL false ts
          have sHG := s0.trans s3
          refine lc_list (K := K) (a := pf) (xs := vs3) (fun i F => Same G F ∧ F D = some (.lst ((((flatL false ts).take i).map fun t => V.str (clo (kindsOf false) t (txtN n t)))))) ⟨same_new hD, upd_same⟩ (fun i F _ h => SqL.of (h.1 _ _ g3)) ?_ ?_
          · rintro i x F hi ⟨s1, gD⟩
            obtain ⟨t, ht, tx⟩ := t3.at hi
            have w12 := depL_mem ht
            have w13 := lenL_mem ht
            have sHF := sHG.trans s1
            refine ⟨rfl, ?_⟩
            dsimp only [tYes]
            rw [if_pos rfl]
            refine ⟨_, rfl, _, rfl, x, o, t, kindsOf false, rfl, treeAt_same sHF tx, SqL.of (s1 _ _ (s3 _ _ upd_same)), by omega, by omega, fun G2 s2 => ⟨_, s2 _ _ gD, ?_, ?_, ?_⟩⟩
            · rw [List.length_map, List.length_take]
              omega
            · intro b u hb
              rw [upd_ne (ne_of_none hb hD)]
              exact s2 _ _ (s1 _ _ hb)
            · rw [take_snoc ht, List.map_append]
              exact upd_same
          · rintro F ⟨s1, gD⟩
            rw [w8, List.take_length] at gD
            have w14 := sum_len (f := fun t => clo (kindsOf false) t (txtN n t)) (fun t => by
              have h := txt_len n t
              have h2 := clo_len (ks := kindsOf false) (t := t) (s := txtN n t)
              omega) (flatL false ts)
            have w15 : ((flatL false ts).map fun t => clo (kindsOf false) t (txtN n t)).length * (" " ++ kindOf false ++ " " : Str).length ≤ ((flatL false ts).map fun t => clo (kindsOf false) t (txtN n t)).length * 5 := Nat.mul_le_mul_left _ w5
            refine ⟨_, D, (flatL false ts).map fun t => clo (kindsOf false) t (txtN n t), rfl, rfl, .inl (SqL.of (by rw [List.map_map]; exact gD)), ?_, ?_⟩
            · show _ + _ * (" " ++ kindOf false ++ " " : Str).length ≤ _
              omega
            · rw [join_eq]
              exact q F (sHG.trans s1)
      · refine ⟨_, rfl, p, _, 0, .str (headOf (.nary true ts)), rfl, rfl, SqT.of hp, atI_zero, rfl, _, rfl, ?_⟩
        rw [hE (.nary true ts) "word" false (by exact (show ((("and" : Str) : Str) == "word") = false by decide +kernel))]
        refine iteF ?_
        refine ⟨_, rfl, p, _, 0, .str (headOf (.nary true ts)), rfl, rfl, SqT.of hp, atI_zero, rfl, _, rfl, ?_⟩
        rw [hE (.nary true ts) "not" false (by exact (show ((("and" : Str) : Str) == "not") = false by decide +kernel))]
        refine iteF ?_
        refine ⟨_, rfl, p, _, 0, .str (headOf (.nary true ts)), rfl, rfl, SqT.of hp, atI_zero, (by show 2 ≤ sizeLine; decide), fun g hg => ⟨g, [.str "and", .str "or"], rfl, .inr (SqT.of upd_same), rfl, rfl, _, rfl, ?_⟩⟩
        rw [show (if (false : Bool) = true then !inV (.str (headOf (.nary true ts))) [.str "and", .str "or"] else inV (.str (headOf (.nary true ts))) [.str "and", .str "or"]) = true from (show (if (false : Bool) = true then !inV (.str ("and" : Str)) [.str "and", .str "or"] else inV (.str ("and" : Str)) [.str "and", .str "or"]) = true by decide +kernel)]
        have hp := same_new hg (u := .tup [.str "and", .str "or"]) _ _ hp
        refine iteT ?_
        obtain ⟨p1, l2, us, e1, hp1, hl, tus⟩ := tr
        cases e1
        have w2 : depT (.nary true ts) = depL ts + 1 := rfl
        have w3 : lenT (.nary true ts) = lenL ts + 1 := rfl
        have w4 := sizL_lenL ts
        have w5 := sep_len true
        have w6 := kind_len true
        refine ⟨_, rfl, p, _, 0, .str (headOf (.nary true ts)), rfl, rfl, SqT.of hp, atI_zero, rfl, _, rfl, ?_⟩
        rw [hE (.nary true ts) "and" true (by exact (show (("and" : Str) == "and") = true by decide +kernel))]
        refine iteT ⟨(by show 1 ≤ sizeLine; decide), fun o ho => ?_⟩
        have sg := same_new hg (u := .tup [.str "and", .str "or"])
        have so := same_new ho (u := .lst [.str "or"])
        have s0 := sg.trans so
        refine ⟨_, rfl, p, _, 0, .str (headOf (.nary true ts)), rfl, rfl, SqT.of (so _ _ hp), atI_zero, _, _, rfl, rfl, ?_, _, _, rfl, rfl, ?_, ?_⟩
        · rw [show (" " : Str).length = 1 from rfl]
          have w7 : (headOf (.nary true ts)).length ≤ 3 := kind_len true
          omega
        · rw [len_apS, show (" " : Str).length = 1 from rfl]
          have w7 : (headOf (.nary true ts)).length ≤ 3 := kind_len true
          omega
        · refine ⟨rfl, ?_⟩
          refine ⟨_, rfl, p, _, 0, .str (headOf (.nary true ts)), rfl, rfl, SqT.of (so _ _ hp), atI_zero, _, rfl, p, _, 1, .ref l2, rfl, rfl, SqT.of (s0 _ _ hp1), rfl, true, l2, ts, us, H, rfl, s0 _ _ hl, s0, tus, by omega, by omega, fun pf G vs3 s3 n3 g3 t3 => ⟨pf, rfl, ⟨_, SqL.of g3⟩, fun D hD => ?_⟩⟩
          have w8 := t3.len
          have w9 := flatL_len true ts
          have w10 := len_flatL true ts
          have w11 := dep_flatL true ts
          have sHG := s0.trans s3
          refine lc_list (K := K) (a := pf) (xs := vs3) (fun i F => Same G F ∧ F D = some (.lst ((((flatL true ts).take i).map fun t => V.str (clo (kindsOf true) t (txtN n t)))))) ⟨same_new hD, upd_same⟩ (fun i F _ h => SqL.of (h.1 _ _ g3)) ?_ ?_
          · rintro i x F hi ⟨s1, gD⟩
            obtain ⟨t, ht, tx⟩ := t3.at hi
            have w12 := depL_mem ht
            have w13 := lenL_mem ht
            have sHF := sHG.trans s1
            refine ⟨rfl, ?_⟩
            dsimp only [tYes]
            rw [if_pos rfl]
            refine ⟨_, rfl, _, rfl, x, o, t, kindsOf true, rfl, treeAt_same sHF tx, SqL.of (s1 _ _ (s3 _ _ upd_same)), by omega, by omega, fun G2 s2 => ⟨_, s2 _ _ gD, ?_, ?_, ?_⟩⟩
            · rw [List.length_map, List.length_take]
              omega
            · intro b u hb
              rw [upd_ne (ne_of_none hb hD)]
              exact s2 _ _ (s1 _ _ hb)
            · rw [take_snoc ht, List.map_append]
              exact upd_same
          · rintro F ⟨s1, gD⟩
            rw [w8, List.take_length] at gD
            have w14 := sum_len (f := fun t => clo (kindsOf true) t (txtN n t)) (fun t => by
              have h := txt_len n t
              have h2 := clo_len (ks := kindsOf true) (t := t) (s := txtN n t)
              omega) (flatL true ts)
            have w15 : ((flatL true ts).map fun t => clo (kindsOf true) t (txtN n t)).length * (" " ++ kindOf true ++ " " : Str).length ≤ ((flatL true ts).map fun t => clo (kindsOf true) t (txtN n t)).length * 5 := Nat.mul_le_mul_left _ w5
            refine ⟨_, D, (flatL true ts).map fun t => clo (kindsOf true) t (txtN n t), rfl, rfl, .inl (SqL.of (by rw [List.map_map]; exact gD)), ?_, ?_⟩
            · show _ + _ * (" " ++ kindOf true ++ " " : Str).length ≤ _
              omega
            · rw [join_eq]
              exact q F (sHG.trans s1)
end
end Fx
set_option maxHeartbeats 2000000
namespace Fx
open PySem PySem.Spec PyProof.Rows L2 TL

def wrapN (t : LT) (u : Str) : Str := if ((["and", "or"] : List Str).any fun y => y == headOf t) = true then "not (" ++ u ++ ")" else "not " ++ u
def wrapK (k : Bool) (t : LT) (u : Str) : Str := if ((headOf t == "or") && k) = true then "(" ++ u ++ ")" else u
/-- texts of a tree: brackets at will -/
def paren (s : Str) (P : Str → Prop) : Prop := P s ∨ ∃ c, P c ∧ s = "(" ++ c ++ ")"
mutual
def Core : LT → Str → Prop
  | .word z, s => s = z
  | .cst b, s => s = cstOf b
  | .neg t, s => ∃ u, paren u (Core t) ∧ s = wrapN t u
  | .nary k ts, s => ∃ us, Cores k ts us ∧ s = Str.join (" " ++ kindOf k ++ " ") us
def Cores (k : Bool) : List LT → List Str → Prop
  | [], us => us = []
  | t :: ts, us => ∃ u r, us = wrapK k t u :: r ∧ paren u (Core t) ∧ Cores k ts r
end
def Loose (t : LT) (s : Str) : Prop := paren s (Core t)
theorem Cores.snoc {k : Bool} {T : LT} {u : Str} : ∀ {ts : List LT} {us : List Str}, Cores k ts us → Loose T u → Cores k (ts ++ [T]) (us ++ [wrapK k T u])
  | [], us, h, ht => by
    have e : us = [] := h
    subst e
    exact ⟨u, [], rfl, ht, rfl⟩
  | _ :: _, _, ⟨u, r, e, h1, h2⟩, ht => ⟨u, r ++ [_], by rw [e] <;> rfl, h1, Cores.snoc h2 ht⟩
mutual
def lenQ : LT → Nat
  | .word z => z.length + 2
  | .cst _ => 6
  | .neg t => lenQ t + 8
  | .nary _ ts => lenR ts + 2
def lenR : List LT → Nat
  | [] => 0
  | t :: ts => lenQ t + 7 + lenR ts
end
theorem paren_len {s : Str} {P : Str → Prop} {n : Nat} (hP : ∀ c, P c → c.length ≤ n) (h : paren s P) : s.length ≤ n + 2 := by
  rcases h with h | ⟨c, h, e⟩
  · exact Nat.le_trans (hP s h) (by omega)
  · have w := hP c h
    rw [e, len_apS, len_apS, show ("(" : Str).length = 1 from rfl, show (")" : Str).length = 1 from rfl]
    omega
theorem wrapN_len (t : LT) (u : Str) : (wrapN t u).length ≤ u.length + 6 := by
  unfold wrapN
  split
  · rw [len_apS, len_apS, show ("not (" : Str).length = 5 from rfl, show (")" : Str).length = 1 from rfl]
    omega
  · rw [len_apS, show ("not " : Str).length = 4 from rfl]
    omega
theorem wrapK_len (k : Bool) (t : LT) (u : Str) : (wrapK k t u).length ≤ u.length + 2 := by
  unfold wrapK
  split
  · rw [len_apS, len_apS, show ("(" : Str).length = 1 from rfl, show (")" : Str).length = 1 from rfl]
    omega
  · omega
mutual
theorem core_len : ∀ (t : LT) (s : Str), Core t s → s.length + 2 ≤ lenQ t
  | .word z, s, h => by
    have e : s = z := h
    rw [e]
    exact Nat.le_refl _
  | .cst b, s, h => by
    have e : s = cstOf b := h
    have w := cst_len b
    rw [e]
    show _ ≤ 6
    omega
  | .neg t, s, ⟨u, h, e⟩ => by
    have w1 := paren_len (n := lenQ t - 2) (fun c hc => by have := core_len t c hc; omega) h
    have w2 := wrapN_len t u
    have w3 : 2 ≤ lenQ t := by
      rcases h with h | ⟨c, h, _⟩
      · have := core_len t u h; omega
      · have := core_len t c h; omega
    rw [e]
    show _ ≤ lenQ t + 8
    omega
  | .nary k ts, s, ⟨us, h, e⟩ => by
    have w1 := cores_len k ts us h
    have w2 := len_join (" " ++ kindOf k ++ " ") us
    have w3 : us.length * (" " ++ kindOf k ++ " " : Str).length ≤ us.length * 5 := Nat.mul_le_mul_left _ (sep_len k)
    rw [e]
    show _ ≤ lenR ts + 2
    omega
theorem cores_len (k : Bool) : ∀ (ts : List LT) (us : List Str), Cores k ts us → (us.map (·.length)).sum + us.length * 5 ≤ lenR ts
  | [], us, h => by
    have e : us = [] := h
    subst e
    exact Nat.le_refl _
  | t :: ts, us, ⟨u, r, e, h1, h2⟩ => by
    have w1 := paren_len (n := lenQ t - 2) (fun c hc => by have := core_len t c hc; omega) h1
    have w2 := wrapK_len k t u
    have w3 : 2 ≤ lenQ t := by
      rcases h1 with h | ⟨c, h, _⟩
      · have := core_len t u h; omega
      · have := core_len t c h; omega
    have w4 := cores_len k ts r h2
    rw [e]
    show ((wrapK k t u).length + (r.map (·.length)).sum) + (r.length + 1) * 5 ≤ lenQ t + 7 + lenR ts
    omega
end
theorem lenR_mem : ∀ {ts : List LT} {i : Nat} {t : LT}, ts[i]? = some t → lenQ t + 7 ≤ lenR ts
  | [], i, t, h => by simp at h
  | x :: ts, 0, t, h => by
    have e : x = t := by simpa using h
    subst e
    show lenQ x + 7 ≤ lenQ x + 7 + lenR ts
    omega
  | x :: ts, i + 1, t, h => by
    have e : ts[i]? = some t := by simpa using h
    have h2 := lenR_mem e
    show lenQ t + 7 ≤ lenQ x + 7 + lenR ts
    omega
theorem lenR_take {ts : List LT} {i : Nat} {t : LT} (h : ts[i]? = some t) : i * 7 + 7 ≤ lenR ts := by
  induction ts generalizing i with
  | nil => simp at h
  | cons x ts ih =>
    cases i with
    | zero => show _ ≤ lenQ x + 7 + lenR ts; omega
    | succ i =>
      have e : ts[i]? = some t := by simpa using h
      have := ih e
      show _ ≤ lenQ x + 7 + lenR ts
      omega
theorem atI_lst2 {a b : V} : atI [a, b] (-1) = some b := atI_last [a] b
theorem atI_lst1 {a : V} : atI [a] (-1) = some a := atI_last [] a
theorem hid_frm {l : Addr} {H G : Hp} (f : Frm l H G) : Same (hid l H) (hid l G) := fun b o h => by
  obtain ⟨n, h⟩ := hid_some h
  exact hid_at n (f b o n h)
def looseN : List Str := ["_law_tree_here", "_law_left", "_law_draw", "_law_text_here", "_law_inner", "_law_parts", "_law_part"]
theorem looseL {t : LT} {s : Str} (h : Loose t s) : s.length ≤ lenQ t := by
  rcases h with h | ⟨c, h, e⟩
  · have := core_len t s h; omega
  · have := core_len t c h
    rw [e, len_apS, len_apS, show ("(" : Str).length = 1 from rfl, show (")" : Str).length = 1 from rfl]
    omega
end Fx
set_option maxHeartbeats 2000000
namespace Fx
open PySem PySem.Spec PyProof.Rows L2 TL

mutual
theorem leavT_len : ∀ t : LT, (leavT t).length ≤ sizT t
  | .word _ => Nat.le_refl _
  | .cst _ => Nat.zero_le _
  | .neg t => Nat.le_trans (leavT_len t) (Nat.le_succ _)
  | .nary _ ts => Nat.le_trans (leavL_len ts) (Nat.le_succ _)
theorem leavL_len : ∀ ts : List LT, (leavL ts).length ≤ sizL ts
  | [] => Nat.le_refl _
  | t :: ts => by
    have h1 := leavT_len t
    have h2 := leavL_len ts
    show (leavT t ++ leavL ts).length ≤ sizT t + sizL ts
    rw [List.length_append]
    omega
end
theorem leavL_app : ∀ a b, leavL (a ++ b) = leavL a ++ leavL b
  | [], _ => rfl
  | t :: a, b => by
    show leavT t ++ leavL (a ++ b) = leavT t ++ leavL a ++ leavL b
    rw [leavL_app a b, List.append_assoc]
end Fx
set_option maxHeartbeats 2000000
namespace Fx
open PySem PySem.Spec PyProof.Rows L2 TL

/-! ### a text's signs, put together from its parts -/
def mS (l : List Nat) : Str := ⟨l.toArray⟩
theorem tl_mkS (l : List Nat) : tl (mS l) = l := rfl
theorem mkS_tl (z : Str) : mS (tl z) = z := mk_tl z
abbrev rp (n : Nat) (c : Nat) : List Nat := List.replicate n c
abbrev rs (n : Nat) (s : Str) : List Str := List.replicate n s
theorem lp_has (x : Nat) : (("(" : Str).cps.contains x) = (x == 40) := by
  show (#[40] : Array Nat).contains x = _
  by_cases h : x = 40 <;> simp [h]
theorem rp_has (x : Nat) : ((")" : Str).cps.contains x) = (x == 41) := by
  show (#[41] : Array Nat).contains x = _
  by_cases h : x = 41 <;> simp [h]
theorem drop_take {α : Type} (p : α → Bool) : ∀ l : List α, l.drop (l.takeWhile p).length = l.dropWhile p
  | [] => rfl
  | a :: r => by
    cases h : p a with
    | true =>
      rw [List.takeWhile_cons, List.dropWhile_cons, h]
      show r.drop (r.takeWhile p).length = _
      exact drop_take p r
    | false =>
      rw [List.takeWhile_cons, List.dropWhile_cons, h]
      rfl
theorem tl_behind (p : Str) : tl (behindOf p) = (tl p).dropWhile fun x => x == 40 := by
  have e : (("(" : Str).cps.contains) = fun x => x == 40 := funext lp_has
  unfold behindOf Txt.lstripChars Txt.stripBy
  rw [e]
  unfold stripSame stripped stripHi stripLo
  rw [if_pos rfl, if_neg Bool.false_ne_true]
  split
  · rename_i h
    have h2 := (Bool.and_eq_true _ _).mp h
    have h3 : ((tl p).takeWhile fun x => x == 40).length = 0 := by simpa using h2.1
    rw [← drop_take, h3, List.drop_zero]
  · rw [tl_strSub_end, drop_take]
theorem tl_core (p : Str) : tl (coreOf p) = (((tl (behindOf p)).reverse.dropWhile fun x => x == 41)).reverse := by
  have e : ((")" : Str).cps.contains) = fun x => x == 41 := funext rp_has
  unfold coreOf Txt.rstripChars Txt.stripBy
  rw [e]
  generalize behindOf p = q
  unfold stripSame stripped stripHi stripLo
  rw [if_neg Bool.false_ne_true, if_pos rfl, List.drop_zero]
  have lq : q.length = (tl q).length := len_tl q
  have key : (((tl q).reverse.dropWhile fun x => x == 41)).reverse = (tl q).take (q.length - (((tl q).reverse).takeWhile fun x => x == 41).length) := by
    rw [← drop_take, List.reverse_drop, List.reverse_reverse, List.length_reverse, lq]
  split
  · rename_i h
    have h2 := (Bool.and_eq_true _ _).mp h
    have h3 : q.length - (((tl q).reverse).takeWhile fun x => x == 41).length = q.length := by
      have := h2.2
      simpa using this
    rw [key, h3, lq, List.take_length]
  · rw [tl_strSub, List.drop_zero, key, Nat.sub_zero]
theorem dropW_rep (a : Nat) (r : List Nat) (h : r.head? ≠ some a) : ∀ n : Nat, (rp n a ++ r).dropWhile (fun x => x == a) = r
  | 0 => by
    show (([] : List Nat) ++ r).dropWhile _ = r
    rw [List.nil_append]
    cases r with
    | nil => rfl
    | cons b r =>
      have h2 : (b == a) = false := beq_eq_false_iff_ne.mpr fun e => h (by rw [e] <;> rfl)
      rw [List.dropWhile_cons, h2]
      rfl
  | n + 1 => by
    show ((a :: rp n a) ++ r).dropWhile _ = r
    rw [List.cons_append, List.dropWhile_cons, beq_self_eq_true]
    exact dropW_rep a r h n
/-- a piece: brackets, what stands between them, brackets -/
theorem piece_at {p : Str} {n m : Nat} {c : List Nat} (e : tl p = rp n 40 ++ c ++ rp m 41) (h1 : c.head? ≠ some 40) (h2 : c.getLast? ≠ some 41) :
    coreOf p = mS c ∧ openOf p = n ∧ shutOf p = m := by
  have b : tl (behindOf p) = c ++ rp m 41 := by
    rw [tl_behind, e, List.append_assoc]
    refine dropW_rep 40 _ ?_ n
    cases c with
    | nil =>
      cases m with
      | zero => simp
      | succ m => simp [List.replicate_succ]
    | cons x c => exact h1
  have k : tl (coreOf p) = c := by
    rw [tl_core, b, List.reverse_append, List.reverse_replicate, dropW_rep 41 c.reverse (by rw [List.head?_reverse]; exact h2) m, List.reverse_reverse]
  have lp : p.length = n + c.length + m := by
    rw [len_tl, e]
    simp only [List.length_append, List.length_replicate]
  have lb : (behindOf p).length = c.length + m := by
    rw [len_tl, b]
    simp
  have lc : (coreOf p).length = c.length := by rw [len_tl, k]
  refine ⟨ext_tl k, ?_, ?_⟩
  · unfold openOf
    omega
  · unfold shutOf
    omega
theorem step_at {st : PSt} {p : Str} {n m : Nat} {c : List Nat} (e : tl p = rp n 40 ++ c ++ rp m 41) (h1 : c.head? ≠ some 40) (h2 : c.getLast? ≠ some 41) (hd : 0 ≤ st.depth + n - m) (hc : canStand (mS c) n m st.wanted = true) :
    stepP st p = some ⟨st.signs ++ (rs n "(" ++ [mS c] ++ rs m ")"), st.depth + n - m, isOper (mS c)⟩ := by
  obtain ⟨k1, k2, k3⟩ := piece_at e h1 h2
  unfold stepP signsP
  rw [k1, k2, k3, hc]
  have nn : ¬ st.depth + (n : Int) - (m : Int) < 0 := by omega
  rw [decide_eq_false nn]
  rfl
/-! ### pieces -/
def pcs (l : List Nat) : List Str := (spl [32] 0 [] l).map mS
theorem split_pcs (z : Str) : Txt.split z " " = pcs (tl z) := by
  refine map_tl_inj ?_
  rw [split_spl z " " (by decide +kernel) (kind_ok (by decide +kernel))]
  show spl [32] 0 [] (tl z) = ((spl [32] 0 [] (tl z)).map mS).map tl
  rw [List.map_map]
  exact (List.map_id _).symm
theorem spl_app : ∀ (x acc y : List Nat), spl [32] 0 acc (x ++ 32 :: y) = spl [32] 0 acc x ++ spl [32] 0 [] y
  | [], acc, y => by
    rw [List.nil_append, spl_hit (by rfl), spl_nil]
    rfl
  | c :: x, acc, y => by
    by_cases h : c = 32
    · subst h
      rw [List.cons_append, spl_hit (by rfl), spl_hit (by rfl)]
      show acc :: spl [32] 0 [] (x ++ 32 :: y) = _
      rw [spl_app x [] y]
      rfl
    · have h1 : ∀ r : List Nat, pre [32] (c :: r) = false := fun r => pre_of_head [] r h
      rw [List.cons_append, spl_miss (h1 _), spl_miss (h1 _)]
      exact spl_app x _ y
theorem pcs_app (x y : List Nat) : pcs (x ++ 32 :: y) = pcs x ++ pcs y := by
  unfold pcs
  rw [spl_app, List.map_append]
theorem pcs_one {x : List Nat} (h : 32 ∉ x) : pcs x = [mS x] := by
  unfold pcs
  rw [spl_last1 (S := []) h]
  rfl
/-! ### texts and their signs -/
structure Tok (s : List Nat) (l : List Str) : Prop where
  run : ∀ (a b : Nat) (g : List Str) (d : Int), 0 ≤ d + a - b → runP (some ⟨g, d, true⟩) (pcs (rp a 40 ++ s ++ rp b 41)) = some ⟨g ++ (rs a "(" ++ l ++ rs b ")"), d + a - b, false⟩
  ne : l ≠ []
  wl : wt l ≤ 7 * s.length
  ok : ∀ x ∈ l, PyData.strOk x = true
theorem wt_app (a b : List Str) : wt (a ++ b) = wt a + wt b := by
  unfold wt
  rw [List.map_append, List.sum_append]
theorem wt_cons (a : Str) (b : List Str) : wt (a :: b) = a.length + 6 + wt b := rfl
/-- what may stand as a word -/
structure LeafOk (z : Str) : Prop where
  op : isOper z = false
  word : (isConst z || isWord z) = true
  sp : 32 ∉ tl z
  lp : 40 ∉ tl z
  rp : 41 ∉ tl z
  len : 1 ≤ z.length
  ok : PyData.strOk z = true
theorem not_oper {z : Str} (h : isOper z = false) : (z == ("not" : Str)) = false ∧ (operators.any fun y => y == z) = false := by
  refine ⟨?_, h⟩
  cases q : z == ("not" : Str) with
  | false => rfl
  | true =>
    rw [beq_iff_eq.mp q] at h
    exact absurd h (by decide +kernel)
theorem no_sp {n m : Nat} {c : List Nat} (h : 32 ∉ c) : 32 ∉ rp n 40 ++ c ++ rp m 41 := by
  intro w
  rcases List.mem_append.mp w with w | w
  · rcases List.mem_append.mp w with w | w
    · exact absurd (List.eq_of_mem_replicate w) (by decide)
    · exact h w
  · exact absurd (List.eq_of_mem_replicate w) (by decide)
theorem Tok.leaf {z : Str} (h : LeafOk z) : Tok (tl z) [z] where
  run a b g d hd := by
    rw [pcs_one (no_sp h.sp)]
    show runP (stepP _ _) [] = _
    obtain ⟨n1, n2⟩ := not_oper h.op
    rw [step_at (n := a) (m := b) (c := tl z) rfl (fun e => h.lp (List.mem_of_mem_head? e)) (fun e => h.rp (List.mem_of_getLast? e)) hd (by
      unfold canStand
      rw [mkS_tl, n1, n2, if_neg Bool.false_ne_true, if_neg Bool.false_ne_true]
      show (true && (isConst z || isWord z)) = true
      rw [h.word] <;> rfl)]
    rw [mkS_tl, h.op]
    rfl
  ne := by simp
  wl := by
    have := h.len
    rw [← len_tl]
    show z.length + 6 + 0 ≤ _
    omega
  ok x hx := by
    rw [List.mem_singleton.mp hx]
    exact h.ok
theorem rep_l {α : Type} (n : Nat) (c : α) (r : List α) : List.replicate n c ++ c :: r = List.replicate (n + 1) c ++ r := by
  rw [List.replicate_succ', List.append_assoc] <;> rfl
theorem Tok.wrap {s : List Nat} {l : List Str} (h : Tok s l) : Tok (40 :: (s ++ [41])) (("(" : Str) :: (l ++ [(")" : Str)])) where
  run a b g d hd := by
    have e1 : rp a 40 ++ (40 :: (s ++ [41])) ++ rp b 41 = rp (a + 1) 40 ++ s ++ rp (b + 1) 41 := by
      rw [rep_l, List.append_assoc, List.append_assoc, List.append_assoc]
      rfl
    have e2 : rs a ("(" : Str) ++ (("(" : Str) :: (l ++ [(")" : Str)])) ++ rs b (")" : Str) = rs (a + 1) ("(" : Str) ++ l ++ rs (b + 1) (")" : Str) := by
      rw [rep_l, List.append_assoc, List.append_assoc, List.append_assoc]
      rfl
    rw [e1, e2, h.run (a + 1) (b + 1) g d (by omega)]
    have e3 : d + ((a + 1 : Nat) : Int) - ((b + 1 : Nat) : Int) = d + a - b := by omega
    rw [e3]
  ne := by simp
  wl := by
    have := h.wl
    rw [wt_cons, wt_app, List.length_cons, List.length_append]
    show 1 + 6 + (wt l + (1 + 6 + 0)) ≤ 7 * (s.length + 1 + 1)
    omega
  ok x hx := by
    rcases List.mem_cons.mp hx with e | hx
    · rw [e]; decide +kernel
    · rcases List.mem_append.mp hx with hx | hx
      · exact h.ok x hx
      · rw [List.mem_singleton.mp hx]; decide +kernel
theorem Tok.neg {s : List Nat} {l : List Str} (h : Tok s l) : Tok (110 :: 111 :: 116 :: 32 :: s) ("not" :: l) where
  run a b g d hd := by
    have e1 : rp a 40 ++ (110 :: 111 :: 116 :: 32 :: s) ++ rp b 41 = (rp a 40 ++ [110, 111, 116] ++ rp 0 41) ++ 32 :: (rp 0 40 ++ s ++ rp b 41) := by
      simp
    rw [e1, pcs_app, pcs_one (no_sp (by decide)), runP_app]
    show runP (runP (stepP _ _) []) _ = _
    rw [step_at (n := a) (m := 0) (c := [110, 111, 116]) rfl (by decide) (by decide) (by show 0 ≤ d + (a : Int) - ((0 : Nat) : Int); omega) (by
      show canStand ("not" : Str) _ _ true = true
      rfl)]
    have e2 : isOper (mS [110, 111, 116]) = true := by decide +kernel
    rw [e2]
    show runP (some ⟨g ++ (rs a ("(" : Str) ++ [mS [110, 111, 116]] ++ rs 0 (")" : Str)), d + (a : Int) - ((0 : Nat) : Int), true⟩) _ = _
    rw [h.run 0 b _ _ (by omega)]
    have e3 : d + (a : Int) - ((0 : Nat) : Int) + ((0 : Nat) : Int) - (b : Int) = d + a - b := by omega
    rw [e3]
    have e4 : mS [110, 111, 116] = ("not" : Str) := by decide +kernel
    rw [e4]
    simp
  ne := by simp
  wl := by
    have := h.wl
    rw [wt_cons]
    show 3 + 6 + wt l ≤ 7 * (s.length + 1 + 1 + 1 + 1)
    omega
  ok x hx := by
    rcases List.mem_cons.mp hx with e | hx
    · rw [e]; decide +kernel
    · exact h.ok x hx
theorem Tok.bin {s t : List Nat} {l r : List Str} (k : Bool) (h : Tok s l) (h2 : Tok t r) : Tok (s ++ 32 :: (tl (kindOf k) ++ 32 :: t)) (l ++ kindOf k :: r) where
  run a b g d hd := by
    have e1 : rp a 40 ++ (s ++ 32 :: (tl (kindOf k) ++ 32 :: t)) ++ rp b 41 = (rp a 40 ++ s ++ rp 0 41) ++ 32 :: ((rp 0 40 ++ tl (kindOf k) ++ rp 0 41) ++ 32 :: (rp 0 40 ++ t ++ rp b 41)) := by
      simp
    have k1 : 32 ∉ tl (kindOf k) := by cases k <;> decide +kernel
    have k2 : (tl (kindOf k)).head? ≠ some 40 := by cases k <;> decide +kernel
    have k3 : (tl (kindOf k)).getLast? ≠ some 41 := by cases k <;> decide +kernel
    have k4 : isOper (kindOf k) = true := by cases k <;> decide +kernel
    have k5 : canStand (kindOf k) ((0 : Nat) : Int) ((0 : Nat) : Int) false = true := by cases k <;> decide +kernel
    rw [e1, pcs_app, pcs_app, pcs_one (no_sp k1), runP_app, h.run a 0 g d (by omega)]
    show runP (stepP _ _) _ = _
    rw [step_at (n := 0) (m := 0) (c := tl (kindOf k)) rfl k2 k3 (by show 0 ≤ d + (a : Int) - ((0 : Nat) : Int) + ((0 : Nat) : Int) - ((0 : Nat) : Int); omega) (by
      rw [mkS_tl]
      exact k5), mkS_tl, k4]
    show runP (some ⟨_, d + (a : Int) - ((0 : Nat) : Int) + ((0 : Nat) : Int) - ((0 : Nat) : Int), true⟩) (pcs (rp 0 40 ++ t ++ rp b 41)) = _
    rw [h2.run 0 b _ _ (by omega)]
    have e3 : d + (a : Int) - ((0 : Nat) : Int) + ((0 : Nat) : Int) - ((0 : Nat) : Int) + ((0 : Nat) : Int) - (b : Int) = d + a - b := by omega
    rw [e3]
    simp
  ne := by simp
  wl := by
    have := h.wl
    have := h2.wl
    have k1 : (tl (kindOf k)).length = (kindOf k).length := (len_tl _).symm
    have k2 : 2 ≤ (kindOf k).length := by cases k <;> decide +kernel
    rw [wt_app, wt_cons, List.length_append, List.length_cons, List.length_append, List.length_cons]
    omega
  ok x hx := by
    rcases List.mem_append.mp hx with hx | hx
    · exact h.ok x hx
    · rcases List.mem_cons.mp hx with e | hx
      · rw [e]; cases k <;> decide +kernel
      · exact h2.ok x hx
theorem Tok.signs {s : Str} {l : List Str} (h : Tok (tl s) l) : signsOf s = l := by
  have w := h.run 0 0 [] 0 (by omega)
  have e : rp 0 40 ++ tl s ++ rp 0 41 = tl s := by simp
  unfold signsOf
  rw [split_pcs, ← e]
  show (match runP (some ⟨[], 0, true⟩) _ with | none => [] | some st => _) = _
  rw [w]
  dsimp only
  simp
end Fx
set_option maxHeartbeats 2000000
namespace Fx
open PySem PySem.Spec PyProof.Rows L2 TL

/-! ### signs and their code -/
theorem popGe_all (k : Int) : ∀ (y w : List Str), (∀ s ∈ y, k ≤ rank s) → (∀ x r, w = x :: r → rank x < k) → popGe k (y ++ w) = (y, w)
  | [], w, _, h => by
    cases w with
    | nil => rfl
    | cons x r =>
      have h2 := h x r rfl
      have n : ¬ k ≤ rank x := by omega
      show (if decide (k ≤ rank x) then _ else _) = _
      rw [decide_eq_false n]
      rfl
  | s :: y, w, hy, h => by
    have h2 := hy s List.mem_cons_self
    show (if decide (k ≤ rank s) then (s :: (popGe k (y ++ w)).1, (popGe k (y ++ w)).2) else ([], s :: (y ++ w))) = _
    rw [decide_eq_true h2, if_pos rfl, popGe_all k y w (fun x hx => hy x (List.mem_cons_of_mem _ hx)) h]
theorem popTo_all : ∀ (y w : List Str), (∀ s ∈ y, s ≠ ("(" : Str)) → popTo (y ++ ("(" : Str) :: w) = (y, ("(" : Str) :: w)
  | [], w, _ => by
    show popTo (("(" : Str) :: w) = _
    rfl
  | s :: y, w, hy => by
    have h2 : (s == ("(" : Str)) = false := beq_eq_false_iff_ne.mpr (hy s List.mem_cons_self)
    show (if s == ("(" : Str) then ([], s :: (y ++ ("(" : Str) :: w)) else (s :: (popTo (y ++ ("(" : Str) :: w)).1, (popTo (y ++ ("(" : Str) :: w)).2)) = _
    rw [h2, if_neg Bool.false_ne_true, popTo_all y w fun x hx => hy x (List.mem_cons_of_mem _ hx)]
/-- from any stack that binds less closely, these signs give the code of f -/
structure Cd (k : Int) (l : List Str) (f : Fm) : Prop where
  run : ∀ (c w : List Str), (k ≤ 2 → ∀ x r, w = x :: r → rank x < k) → ∃ x y, l.foldl stepC (c, w) = (c ++ x, y ++ w) ∧ x ++ y = post f ∧ ∀ s ∈ y, s ≠ ("(" : Str) ∧ k ≤ rank s
  wl : wt (post f) ≤ wt l
  sub : ∀ s ∈ post f, s ∈ l
theorem Cd.weak {k j : Int} {l : List Str} {f : Fm} (h : Cd k l f) (e : j ≤ k) : Cd j l f where
  run c w hw := by
    obtain ⟨x, y, h1, h2, h3⟩ := h.run c w fun e2 a r q => by
      have := hw (by omega) a r q
      omega
    exact ⟨x, y, h1, h2, fun s hs => ⟨(h3 s hs).1, by have := (h3 s hs).2; omega⟩⟩
  wl := h.wl
  sub := h.sub
theorem Cd.leaf {z : Str} (h : LeafOk z) (k : Int) : Cd k [z] (.leaf z) where
  run c w _ := by
    refine ⟨[z], [], ?_, rfl, fun s hs => by cases hs⟩
    obtain ⟨n1, n2⟩ := not_oper h.op
    have n3 : (z == ("(" : Str)) = false := beq_eq_false_iff_ne.mpr fun e => h.lp (by rw [e]; decide +kernel)
    have n4 : (z == (")" : Str)) = false := beq_eq_false_iff_ne.mpr fun e => h.rp (by rw [e]; decide +kernel)
    show stepC (c, w) z = _
    unfold stepC
    rw [n1, n3, n4, n2]
    rfl
  wl := Nat.le_refl _
  sub s hs := hs
theorem Cd.brk {l : List Str} {f : Fm} (h : Cd 1 l f) (k : Int) : Cd k (("(" : Str) :: (l ++ [(")" : Str)])) f where
  run c w _ := by
    obtain ⟨x, y, h1, h2, h3⟩ := h.run c ("(" :: w) fun _ a r q => by
      cases q
      decide +kernel
    refine ⟨x ++ y, [], ?_, by rw [List.append_nil]; exact h2, fun s hs => by cases hs⟩
    rw [List.foldl_cons, List.foldl_append]
    have e1 : stepC (c, w) ("(" : Str) = (c, ("(" : Str) :: w) := rfl
    rw [e1, h1]
    show stepC (c ++ x, y ++ ("(" : Str) :: w) (")" : Str) = _
    have e2 : stepC (c ++ x, y ++ ("(" : Str) :: w) (")" : Str) = (c ++ x ++ (popTo (y ++ ("(" : Str) :: w)).1, (popTo (y ++ ("(" : Str) :: w)).2.tail) := rfl
    rw [e2, popTo_all y w fun s hs => (h3 s hs).1, List.append_assoc]
    rfl
  wl := by
    have := h.wl
    rw [wt_cons, wt_app]
    omega
  sub s hs := List.mem_cons_of_mem _ (List.mem_append_left _ (h.sub s hs))
theorem Cd.neg {l : List Str} {f : Fm} (h : Cd 3 l f) : Cd 3 ("not" :: l) (.neg f) where
  run c w _ := by
    obtain ⟨x, y, h1, h2, h3⟩ := h.run c ("not" :: w) fun e => absurd e (by decide)
    refine ⟨x, y ++ [("not" : Str)], ?_, ?_, ?_⟩
    · rw [List.foldl_cons]
      have e1 : stepC (c, w) ("not" : Str) = (c, ("not" : Str) :: w) := rfl
      rw [e1, h1, List.append_assoc]
      rfl
    · rw [← List.append_assoc, h2]
      rfl
    · intro s hs
      rcases List.mem_append.mp hs with hs | hs
      · exact h3 s hs
      · rw [List.mem_singleton.mp hs]
        exact ⟨by decide +kernel, by decide +kernel⟩
  wl := by
    have := h.wl
    show wt (post f ++ [("not" : Str)]) ≤ _
    rw [wt_cons, wt_app, wt_cons]
    show wt (post f) + (("not" : Str).length + 6 + 0) ≤ _
    omega
  sub s hs := by
    rcases List.mem_append.mp hs with hs | hs
    · exact List.mem_cons_of_mem _ (h.sub s hs)
    · rw [List.mem_singleton.mp hs]
      exact List.mem_cons_self
def rk (k : Bool) : Int := if k then 2 else 1
theorem rank_kind (k : Bool) : rank (kindOf k) = rk k := by cases k <;> decide +kernel
theorem rk_pos (k : Bool) : 1 ≤ rk k ∧ rk k ≤ 2 := by cases k <;> decide
theorem Cd.bin {k : Bool} {l r : List Str} {f g : Fm} (h : Cd (rk k) l f) (h2 : Cd (rk k + 1) r g) : Cd (rk k) (l ++ kindOf k :: r) (.bin (kindOf k) f g) where
  run c w hw := by
    have kp := rk_pos k
    obtain ⟨x, y, a1, a2, a3⟩ := h.run c w hw
    obtain ⟨x2, y2, b1, b2, b3⟩ := h2.run (c ++ x ++ y) (kindOf k :: w) fun _ a r q => by
      cases q
      rw [rank_kind]
      omega
    refine ⟨x ++ y ++ x2, y2 ++ [kindOf k], ?_, ?_, ?_⟩
    · rw [List.foldl_append, List.foldl_cons, a1]
      have e : stepC (c ++ x, y ++ w) (kindOf k) = (c ++ x ++ (popGe (rk k) (y ++ w)).1, kindOf k :: (popGe (rk k) (y ++ w)).2) := by
        rw [← rank_kind]
        cases k <;> rfl
      rw [e, popGe_all (rk k) y w (fun s hs => (a3 s hs).2) (hw kp.2), b1]
      simp
    · show _ = post f ++ post g ++ [kindOf k]
      rw [← a2, ← b2]
      simp
    · intro s hs
      rcases List.mem_append.mp hs with hs | hs
      · exact ⟨(b3 s hs).1, by have := (b3 s hs).2; omega⟩
      · rw [List.mem_singleton.mp hs, rank_kind]
        exact ⟨by cases k <;> decide +kernel, Int.le_refl _⟩
  wl := by
    have := h.wl
    have := h2.wl
    show wt (post f ++ post g ++ [kindOf k]) ≤ _
    rw [wt_app, wt_app, wt_app, wt_cons, wt_cons]
    show wt (post f) + wt (post g) + ((kindOf k).length + 6 + 0) ≤ _
    omega
  sub s hs := by
    rcases List.mem_append.mp hs with hs | hs
    · rcases List.mem_append.mp hs with hs | hs
      · exact List.mem_append_left _ (h.sub s hs)
      · exact List.mem_append_right _ (List.mem_cons_of_mem _ (h2.sub s hs))
    · rw [List.mem_singleton.mp hs]
      exact List.mem_append_right _ List.mem_cons_self
theorem Cd.code {l : List Str} {f : Fm} (h : Cd 1 l f) : codeOf l = post f := by
  obtain ⟨x, y, h1, h2, _⟩ := h.run [] [] fun _ a r q => by cases q
  unfold codeOf runC
  rw [h1, List.nil_append, List.append_nil]
  exact h2
/-- items with and or or between them -/
def Chain (k : Bool) : List Str → List Fm → Prop
  | _, [] => False
  | l, [f] => Cd (rk k + 1) l f
  | l, f :: g :: fs => ∃ a r, l = a ++ kindOf k :: r ∧ Cd (rk k + 1) a f ∧ Chain k r (g :: fs)
def foldB (k : Bool) : List Fm → Fm
  | [] => .leaf ""
  | f :: fs => fs.foldl (fun a b => .bin (kindOf k) a b) f
theorem chain_from (k : Bool) : ∀ (fs : List Fm) (a r : List Str) (g : Fm), Cd (rk k) a g → Chain k r fs → Cd (rk k) (a ++ kindOf k :: r) (fs.foldl (fun a b => .bin (kindOf k) a b) g)
  | [], _, _, _, _, h => h.elim
  | [f], a, r, g, hg, h => Cd.bin hg h
  | f :: f2 :: fs, a, r, g, hg, h => by
    obtain ⟨a2, r2, e, h1, h2⟩ := h
    have w := chain_from k (f2 :: fs) (a ++ kindOf k :: a2) r2 (.bin (kindOf k) g f) (Cd.bin hg h1) h2
    rw [e]
    have e2 : a ++ kindOf k :: (a2 ++ kindOf k :: r2) = (a ++ kindOf k :: a2) ++ kindOf k :: r2 := by simp
    rw [e2]
    exact w
theorem chain_cd (k : Bool) : ∀ (fs : List Fm) (l : List Str), Chain k l fs → Cd (rk k) l (foldB k fs)
  | [], _, h => h.elim
  | [f], l, h => Cd.weak h (by omega)
  | f :: g :: fs, l, h => by
    obtain ⟨a, r, e, h1, h2⟩ := h
    rw [e]
    exact chain_from k (g :: fs) a r f (Cd.weak h1 (by omega)) h2
theorem chain_app (k : Bool) : ∀ (fs gs : List Fm) (a b : List Str), Chain k a fs → Chain k b gs → Chain k (a ++ kindOf k :: b) (fs ++ gs)
  | [], _, _, _, h, _ => h.elim
  | [f], [], _, _, _, h => h.elim
  | [f], g :: gs, a, b, h, h2 => ⟨a, b, rfl, h, h2⟩
  | f :: g :: fs, gs, a, b, h, h2 => by
    obtain ⟨a2, r, e, h1, h3⟩ := h
    refine ⟨a2, r ++ kindOf k :: b, by rw [e]; simp, h1, ?_⟩
    exact chain_app k (g :: fs) gs r b h3 h2
end Fx
set_option maxHeartbeats 2000000
namespace Fx
open PySem PySem.Spec PyProof.Rows L2 TL

/-! ### a formula means what a tree means -/
def lvs : Fm → List Str
  | .leaf s => if isConst s then [] else [s]
  | .neg t => lvs t
  | .bin _ a b => lvs a ++ lvs b
def prt (k : Bool) : Fm → List Str
  | .leaf s => [brk (trT (.leaf s)) (rk k)]
  | .neg t => [brk (trT (.neg t)) (rk k)]
  | .bin s a b => if s == kindOf k then prt k a ++ prt k b else [brk (trT (.bin s a b)) (rk k)]
def rkT : LT → Int
  | .word _ => 4
  | .cst _ => 4
  | .neg _ => 3
  | .nary k _ => rk k
def evB (p : Str → Bool) (f : Fm) : Int := evalT (fun s => b2 (p s)) 1 f
def partT (k : Bool) (n : Nat) (t : LT) : Str := clo (kindsOf k) t (txtN n t)
def sepK (k : Bool) : Str := " " ++ kindOf k ++ " "
structure Rel (t : LT) (f : Fm) : Prop where
  wf : WF f
  rk : (trT f).2 = rkT t
  txt : ∀ n, depT t ≤ n → (trT f).1 = txtN n t
  prt : ∀ k n, depL (flat1 k t) ≤ n → prt k f = (flat1 k t).map (partT k n)
  lv : lvs f = leavT t
  ev : ∀ p, evB p f = b2 (ltT p t)
theorem tl_emp : tl Str.empty = [] := rfl
theorem emp_app (x : Str) : Str.empty ++ x = x := ext_tl (by rw [tl_append, tl_emp]; rfl)
theorem app_asc (x y z : Str) : x ++ y ++ z = x ++ (y ++ z) := ext_tl (by rw [tl_append, tl_append, tl_append, tl_append, List.append_assoc])
theorem brk_hi {x : Str × Int} {k : Int} (h : k ≤ x.2) : brk x k = x.1 := by
  unfold brk
  rw [decide_eq_false (by omega)]
  rfl
theorem brk_lo {x : Str × Int} {k : Int} (h : x.2 < k) : brk x k = "(" ++ x.1 ++ ")" := by
  unfold brk
  rw [decide_eq_true h, if_pos rfl, emp_app]
theorem clo_no {ks : List Str} {t : LT} {s : Str} (h : (ks.any fun y => y == headOf t) = false) : clo ks t s = s := by
  unfold clo
  rw [h]
  rfl
theorem clo_yes {ks : List Str} {t : LT} {s : Str} (h : (ks.any fun y => y == headOf t) = true) : clo ks t s = "(" ++ s ++ ")" := by
  unfold clo
  rw [h]
  rfl
theorem head_word (z : Str) (k : Bool) : ((kindsOf k).any fun y => y == headOf (.word z)) = false := (by decide +kernel : ∀ k : Bool, ((kindsOf k).any fun y => y == ("word" : Str)) = false) k
theorem head_cst (b k : Bool) : ((kindsOf k).any fun y => y == headOf (.cst b)) = false := by cases k <;> cases b <;> decide +kernel
theorem head_neg (t : LT) (k : Bool) : ((kindsOf k).any fun y => y == headOf (.neg t)) = false := (by decide +kernel : ∀ k : Bool, ((kindsOf k).any fun y => y == ("not" : Str)) = false) k
theorem head_nary (j : Bool) (ts : List LT) (k : Bool) : ((kindsOf k).any fun y => y == headOf (.nary j ts)) = (k && !j) := (by decide +kernel : ∀ j k : Bool, ((kindsOf k).any fun y => y == kindOf j) = (k && !j)) j k
theorem brk_part {t : LT} {f : Fm} {n : Nat} (k : Bool) (hr : (trT f).2 = rkT t) (ht : (trT f).1 = txtN n t) : brk (trT f) (rk k) = partT k n t := by
  have kp := rk_pos k
  unfold partT
  cases t with
  | word z =>
    have e : (trT f).2 = 4 := hr
    rw [brk_hi (by omega), clo_no (head_word z k), ht]
  | cst b =>
    have e : (trT f).2 = 4 := hr
    rw [brk_hi (by omega), clo_no (head_cst b k), ht]
  | neg t =>
    have e : (trT f).2 = 3 := hr
    rw [brk_hi (by omega), clo_no (head_neg t k), ht]
  | nary j ts =>
    have e : (trT f).2 = rk j := hr
    cases hk : k && !j with
    | false =>
      have w : rk k ≤ rk j := by cases k <;> cases j <;> first | decide | cases hk
      rw [brk_hi (by omega), clo_no ((head_nary j ts k).trans hk), ht]
    | true =>
      have w : rk j < rk k := by cases k <;> cases j <;> first | decide | cases hk
      rw [brk_lo (by omega), clo_yes ((head_nary j ts k).trans hk), ht]
theorem prt_bin (k : Bool) (a b : Fm) : prt k (.bin (kindOf k) a b) = prt k a ++ prt k b := by
  show (if kindOf k == kindOf k then _ else _) = _
  rw [beq_self_eq_true]
  rfl
theorem prt_ne (k : Bool) : ∀ f : Fm, prt k f ≠ []
  | .leaf s => by simp [prt]
  | .neg t => by simp [prt]
  | .bin s a b => by
    show (if s == kindOf k then prt k a ++ prt k b else _) ≠ []
    split
    · exact fun e => prt_ne k a (List.append_eq_nil_iff.mp e).1
    · simp
theorem join_cons (y x : Str) {b : List Str} (hb : b ≠ []) : Str.join y (x :: b) = x ++ y ++ Str.join y b := by
  cases b with
  | nil => exact absurd rfl hb
  | cons z r => rfl
theorem join_app (y : Str) : ∀ (a b : List Str), a ≠ [] → b ≠ [] → Str.join y (a ++ b) = Str.join y a ++ y ++ Str.join y b
  | [], _, h, _ => absurd rfl h
  | [x], b, _, hb => join_cons y x hb
  | x :: z :: a, b, _, hb => by
    have ih := join_app y (z :: a) b (by simp) hb
    rw [List.cons_append, join_cons y x (by simp), ih, join_cons y x (by simp)]
    simp only [app_asc]
theorem prt_join (k : Bool) : ∀ f : Fm, Str.join (sepK k) (prt k f) = brk (trT f) (rk k)
  | .leaf s => rfl
  | .neg t => rfl
  | .bin s a b => by
    show Str.join (sepK k) (if s == kindOf k then prt k a ++ prt k b else [brk (trT (.bin s a b)) (rk k)]) = _
    cases h : s == kindOf k with
    | false => rfl
    | true =>
      have e := beq_iff_eq.mp h
      subst e
      rw [if_pos rfl, join_app _ _ _ (prt_ne k a) (prt_ne k b), prt_join k a, prt_join k b]
      rw [brk_hi (x := trT (.bin (kindOf k) a b)) (by show rk k ≤ rank (kindOf k); rw [rank_kind]; exact Int.le_refl _)]
      show _ = Str.empty ++ brk (trT a) (rank (kindOf k)) ++ (" " : Str) ++ (Str.empty ++ kindOf k ++ (" " : Str) ++ brk (trT b) (rank (kindOf k)))
      rw [rank_kind, emp_app, emp_app]
      unfold sepK
      simp only [app_asc]
/-- a tree that is no chain of its own -/
theorem rel_prt {t : LT} {f : Fm} (hr : (trT f).2 = rkT t) (ht : ∀ n, depT t ≤ n → (trT f).1 = txtN n t) (k : Bool) (n : Nat) (h1 : prt k f = [brk (trT f) (rk k)]) (h2 : flat1 k t = [t]) (hn : depL (flat1 k t) ≤ n) : prt k f = (flat1 k t).map (partT k n) := by
  rw [h2] at hn ⊢
  rw [h1, brk_part k hr (ht n (Nat.le_trans (Nat.le_max_left _ _) hn))]
  rfl
theorem Rel.word {z : Str} (ho : isOper z = false) (hc : isConst z = false) : Rel (.word z) (.leaf z) where
  wf := ho
  rk := rfl
  txt n _ := by cases n <;> rfl
  prt k n hn := rel_prt (t := .word z) (f := .leaf z) rfl (fun n _ => by cases n <;> rfl) k n rfl rfl hn
  lv := by
    show (if isConst z then [] else [z]) = _
    rw [hc]
    rfl
  ev p := by
    show (if isConst z then _ else _) = _
    rw [hc]
    rfl
theorem cst_oper (b : Bool) : isOper (cstOf b) = false := by cases b <;> decide +kernel
theorem cst_const (b : Bool) : isConst (cstOf b) = true := by cases b <;> decide +kernel
theorem Rel.cst (b : Bool) : Rel (.cst b) (.leaf (cstOf b)) where
  wf := cst_oper b
  rk := rfl
  txt n _ := by cases n <;> rfl
  prt k n hn := rel_prt (t := .cst b) (f := .leaf (cstOf b)) rfl (fun n _ => by cases n <;> rfl) k n rfl rfl hn
  lv := by
    show (if isConst (cstOf b) then [] else [cstOf b]) = _
    rw [cst_const]
    rfl
  ev p := by
    show (if isConst (cstOf b) then (if cstOf b == "all" then (1 : Int) else 0) else _) = _
    rw [cst_const, if_pos rfl]
    exact (by decide +kernel : ∀ b : Bool, (if cstOf b == "all" then (1 : Int) else 0) = b2 b) b
theorem neg_txt {t : LT} {f : Fm} (h : Rel t f) (n : Nat) (hn : depT (.neg t) ≤ n) : (trT (.neg f)).1 = txtN n (.neg t) := by
  cases n with
  | zero => exact absurd hn (Nat.not_succ_le_zero _)
  | succ n =>
    have hn2 : depT t ≤ n := Nat.le_of_succ_le_succ hn
    have ht := h.txt n hn2
    have hr := h.rk
    show Str.empty ++ ("not" : Str) ++ (" " : Str) ++ brk (trT f) 3 = ("not " : Str) ++ clo ["and", "or"] t (txtN n t)
    have e : ∀ x : Str, Str.empty ++ ("not" : Str) ++ (" " : Str) ++ x = ("not " : Str) ++ x := fun x => by
      rw [emp_app]
      congr 1
    rw [e]
    congr 1
    cases t with
    | word z =>
      have e : (trT f).2 = 4 := hr
      rw [brk_hi (by omega), clo_no (by show (([("and" : Str), "or"] : List Str).any fun y => y == ("word" : Str)) = false; decide +kernel), ht]
    | cst b =>
      have e : (trT f).2 = 4 := hr
      rw [brk_hi (by omega), clo_no (by cases b <;> (show (([("and" : Str), "or"] : List Str).any fun y => y == (cstOf _ : Str)) = false; decide +kernel)), ht]
    | neg t =>
      have e : (trT f).2 = 3 := hr
      rw [brk_hi (by omega), clo_no (by show (([("and" : Str), "or"] : List Str).any fun y => y == ("not" : Str)) = false; decide +kernel), ht]
    | nary j ts =>
      have e : (trT f).2 = Fx.rk j := hr
      have kp := rk_pos j
      rw [brk_lo (by omega), clo_yes (by cases j <;> (show (([("and" : Str), "or"] : List Str).any fun y => y == (kindOf _ : Str)) = true; decide +kernel)), ht]
theorem Rel.neg {t : LT} {f : Fm} (h : Rel t f) : Rel (.neg t) (.neg f) where
  wf := h.wf
  rk := rfl
  txt := neg_txt h
  prt k n hn := rel_prt (t := .neg t) (f := .neg f) rfl (neg_txt h) k n rfl rfl hn
  lv := h.lv
  ev p := by
    have e := h.ev p
    show Builtin.bitXor 1 (evB p f) = b2 (!ltT p t)
    rw [e]
    cases ltT p t <;> decide +kernel
/-! ### chains -/
def foldK (k : Bool) (bs : List Bool) : Bool := if k then !(bs.any fun b => b == false) else bs.any fun b => b == true
theorem foldK_cons (k b : Bool) (bs : List Bool) : foldK k (b :: bs) = if k then b && foldK k bs else b || foldK k bs := by
  cases k
  · show ((b == true) || (bs.any fun b => b == true)) = _
    cases b <;> rfl
  · show (!((b == false) || (bs.any fun b => b == false))) = _
    cases b <;> rfl
theorem foldK_app (k : Bool) : ∀ (a b : List Bool), foldK k (a ++ b) = if k then foldK k a && foldK k b else foldK k a || foldK k b
  | [], b => by cases k <;> rfl
  | x :: a, b => by
    rw [List.cons_append, foldK_cons, foldK_app k a b, foldK_cons]
    cases k
    · show (x || (foldK false a || foldK false b)) = ((x || foldK false a) || foldK false b)
      rw [Bool.or_assoc]
    · show (x && (foldK true a && foldK true b)) = ((x && foldK true a) && foldK true b)
      rw [Bool.and_assoc]
structure RelL (k : Bool) (qs : List LT) (lvv : List Str) (val : (Str → Bool) → Bool) (fs : List Fm) : Prop where
  wf : ∀ f ∈ fs, WF f
  prt : ∀ n, depL qs ≤ n → (fs.map (prt k)).flatten = qs.map (partT k n)
  lv : (fs.map lvs).flatten = lvv
  ev : ∀ p, ∃ bs : List Bool, fs.map (evB p) = bs.map b2 ∧ foldK k bs = val p
/-- the items of one part -/
def PartOk (k : Bool) (t : LT) (gs : List Fm) : Prop := RelL k (flat1 k t) (leavT t) (fun p => ltT p t) gs
def PartsOk (k : Bool) (ts : List LT) (fs : List Fm) : Prop := RelL k (flatL k ts) (leavL ts) (fun p => foldK k (ltL p ts)) fs
theorem part_one {k : Bool} {t : LT} {f : Fm} (h : Rel t f) : PartOk k t [f] where
  wf g hg := by
    rw [List.mem_singleton.mp hg]
    exact h.wf
  prt n hn := by
    rw [← h.prt k n hn]
    simp
  lv := by
    rw [← h.lv]
    simp
  ev p := ⟨[ltT p t], by rw [List.map_cons, h.ev p]; rfl, by rw [foldK_cons]; cases k <;> cases ltT p t <;> rfl⟩
theorem lt_nary (p : Str → Bool) (k : Bool) (ts : List LT) : ltT p (.nary k ts) = foldK k (ltL p ts) := by cases k <;> rfl
theorem flat_nary (k : Bool) (ts : List LT) : flat1 k (.nary k ts) = flatL k ts := by
  show (if k = k then flatL k ts else _) = _
  rw [if_pos rfl]
theorem flat_other {j k : Bool} (h : j ≠ k) (ts : List LT) : flat1 k (.nary j ts) = [.nary j ts] := by
  show (if j = k then _ else _) = _
  rw [if_neg h]
theorem part_chain {k : Bool} {ts : List LT} {fs : List Fm} (h : PartsOk k ts fs) : PartOk k (.nary k ts) fs where
  wf := h.wf
  prt n hn := by
    rw [flat_nary] at hn ⊢
    exact h.prt n hn
  lv := h.lv
  ev p := by
    obtain ⟨bs, h1, h2⟩ := h.ev p
    exact ⟨bs, h1, h2.trans (lt_nary p k ts).symm⟩
theorem parts_nil (k : Bool) : PartsOk k [] [] where
  wf g hg := by cases hg
  prt n _ := rfl
  lv := rfl
  ev p := ⟨[], rfl, rfl⟩
theorem parts_cons {k : Bool} {t : LT} {ts : List LT} {gs fs : List Fm} (h : PartOk k t gs) (h2 : PartsOk k ts fs) : PartsOk k (t :: ts) (gs ++ fs) where
  wf g hg := by
    rcases List.mem_append.mp hg with hg | hg
    · exact h.wf g hg
    · exact h2.wf g hg
  prt n hn := by
    have e : flatL k (t :: ts) = flat1 k t ++ flatL k ts := rfl
    rw [e, depL_app] at hn
    rw [e, List.map_append, List.map_append, List.flatten_append, h.prt n (Nat.le_trans (Nat.le_max_left _ _) hn), h2.prt n (Nat.le_trans (Nat.le_max_right _ _) hn)]
  lv := by
    rw [List.map_append, List.flatten_append, h.lv, h2.lv]
    rfl
  ev p := by
    obtain ⟨bs, a1, a2⟩ := h.ev p
    obtain ⟨cs, b1, c2⟩ := h2.ev p
    refine ⟨bs ++ cs, by rw [List.map_append, List.map_append, a1, b1], ?_⟩
    have e : ltL p (t :: ts) = ltT p t :: ltL p ts := rfl
    rw [foldK_app, a2, c2]
    show _ = foldK k (ltL p (t :: ts))
    rw [e, foldK_cons]
theorem fold_wf (k : Bool) : ∀ (fs : List Fm) (g : Fm), WF g → (∀ f ∈ fs, WF f) → WF (fs.foldl (fun a b => .bin (kindOf k) a b) g)
  | [], g, hg, _ => hg
  | f :: fs, g, hg, h => fold_wf k fs (.bin (kindOf k) g f) ⟨by cases k <;> first | exact .inl rfl | exact .inr rfl, hg, h f List.mem_cons_self⟩ fun x hx => h x (List.mem_cons_of_mem _ hx)
theorem fold_prt (k : Bool) : ∀ (fs : List Fm) (g : Fm), prt k (fs.foldl (fun a b => .bin (kindOf k) a b) g) = prt k g ++ (fs.map (prt k)).flatten
  | [], g => by simp
  | f :: fs, g => by
    have w := fold_prt k fs (.bin (kindOf k) g f)
    rw [prt_bin] at w
    rw [List.foldl_cons, w, List.map_cons, List.flatten_cons, List.append_assoc]
theorem fold_lvs (k : Bool) : ∀ (fs : List Fm) (g : Fm), lvs (fs.foldl (fun a b => .bin (kindOf k) a b) g) = lvs g ++ (fs.map lvs).flatten
  | [], g => by simp
  | f :: fs, g => by
    have w := fold_lvs k fs (.bin (kindOf k) g f)
    rw [List.foldl_cons, w, List.map_cons, List.flatten_cons]
    show lvs g ++ lvs f ++ _ = _
    rw [List.append_assoc]
theorem ev_bin (p : Str → Bool) (k : Bool) {g f : Fm} {x y : Bool} (hg : evB p g = b2 x) (hf : evB p f = b2 y) : evB p (.bin (kindOf k) g f) = b2 (if k then x && y else x || y) := by
  cases k
  · show Builtin.bitOr (evB p f) (evB p g) = b2 (x || y)
    rw [hg, hf]
    cases x <;> cases y <;> decide +kernel
  · show Builtin.bitAnd (evB p f) (evB p g) = b2 (x && y)
    rw [hg, hf]
    cases x <;> cases y <;> decide +kernel
theorem fold_ev (p : Str → Bool) (k : Bool) : ∀ (fs : List Fm) (bs : List Bool) (g : Fm) (x : Bool), evB p g = b2 x → fs.map (evB p) = bs.map b2 → evB p (fs.foldl (fun a b => .bin (kindOf k) a b) g) = b2 (foldK k (x :: bs))
  | [], bs, g, x, hg, h => by
    cases bs with
    | nil =>
      rw [foldK_cons, List.foldl_nil, hg]
      cases k <;> cases x <;> rfl
    | cons b bs => simp at h
  | f :: fs, bs, g, x, hg, h => by
    cases bs with
    | nil => simp at h
    | cons b bs =>
      rw [List.map_cons, List.map_cons] at h
      injection h with h1 h2
      have w := fold_ev p k fs bs (.bin (kindOf k) g f) _ (ev_bin p k hg h1) h2
      rw [List.foldl_cons, w, foldK_cons, foldK_cons, foldK_cons]
      cases k <;> cases x <;> cases b <;> rfl
theorem fold_rank (k : Bool) : ∀ (fs : List Fm) (g : Fm), (trT g).2 = rk k → (trT (fs.foldl (fun a b => .bin (kindOf k) a b) g)).2 = rk k
  | [], g, hg => hg
  | f :: fs, g, hg => fold_rank k fs (.bin (kindOf k) g f) (rank_kind k)
theorem fold_oprt {j k : Bool} (h : j ≠ k) : ∀ (fs : List Fm) (s : Fm) (g : Fm), prt k (fs.foldl (fun a b => .bin (kindOf j) a b) (.bin (kindOf j) s g)) = [brk (trT (fs.foldl (fun a b => .bin (kindOf j) a b) (.bin (kindOf j) s g))) (rk k)]
  | [], s, g => by
    have e : (kindOf j == kindOf k) = false := by cases j <;> cases k <;> first | decide +kernel | exact absurd rfl h
    show (if kindOf j == kindOf k then _ else _) = _
    rw [e]
    rfl
  | f :: fs, s, g => fold_oprt h fs (.bin (kindOf j) s g) f
theorem Rel.nary {k : Bool} {ts : List LT} {fs : List Fm} (h : PartsOk k ts fs) (h2 : 2 ≤ fs.length) : Rel (.nary k ts) (foldB k fs) := by
  match fs, h2, h with
  | f :: g :: fs, _, h =>
    have hr : (trT (foldB k (f :: g :: fs))).2 = Fx.rk k := fold_rank k fs (.bin (kindOf k) f g) (rank_kind k)
    have hp : Fx.prt k (foldB k (f :: g :: fs)) = ((f :: g :: fs).map (Fx.prt k)).flatten := by
      show Fx.prt k ((g :: fs).foldl (fun a b => .bin (kindOf k) a b) f) = _
      rw [fold_prt]
      rfl
    have htx : ∀ n, depT (.nary k ts) ≤ n → (trT (foldB k (f :: g :: fs))).1 = txtN n (.nary k ts) := by
      intro n hn
      cases n with
      | zero => exact absurd hn (Nat.not_succ_le_zero _)
      | succ n =>
        have hn2 : depL (flatL k ts) ≤ n := Nat.le_trans (dep_flatL k ts) (Nat.le_of_succ_le_succ hn)
        have w := prt_join k (foldB k (f :: g :: fs))
        rw [brk_hi (by rw [hr]; exact Int.le_refl _), hp, h.prt n hn2] at w
        exact w.symm
    refine ⟨?_, hr, htx, ?_, ?_, ?_⟩
    · exact fold_wf k (g :: fs) f (h.wf f List.mem_cons_self) fun x hx => h.wf x (List.mem_cons_of_mem _ hx)
    · intro j n hn
      by_cases e : k = j
      · subst e
        rw [hp, flat_nary]
        rw [flat_nary] at hn
        exact h.prt n hn
      · exact rel_prt (t := .nary k ts) hr htx j n (fold_oprt e fs f g) (flat_other e ts) hn
    · have w := fold_lvs k (g :: fs) f
      have e := h.lv
      show lvs ((g :: fs).foldl (fun a b => .bin (kindOf k) a b) f) = leavL ts
      rw [w, ← e]
      rfl
    · intro p
      obtain ⟨bs, a1, a2⟩ := h.ev p
      cases bs with
      | nil => simp at a1
      | cons b bs =>
        rw [List.map_cons, List.map_cons (f := b2)] at a1
        injection a1 with b1 b3
        have w := fold_ev p k (g :: fs) bs f b b1 b3
        rw [lt_nary]
        exact w.trans (congrArg b2 a2)
end Fx
set_option maxHeartbeats 2000000
namespace Fx
open PySem PySem.Spec PyProof.Rows L2 TL

/-! ### the texts of a tree are read as formulas that mean the same -/
/-- what the text of one part gives -/
def Read (t : LT) (s : Str) : Prop := ∃ l f, Tok (tl s) l ∧ Cd 1 l f ∧ Rel t f ∧
  (Cd 3 l f ∨ ∃ k ts fs, t = .nary k ts ∧ Chain k l fs ∧ PartOk k t fs ∧ Cd (rk k) l f)
theorem tl_brk (s : Str) : tl (("(" : Str) ++ s ++ (")" : Str)) = 40 :: (tl s ++ [41]) := by
  rw [tl_append, tl_append]
  rfl
theorem Read.wrap {t : LT} {s : Str} (h : Read t s) : ∃ l f, Tok (tl (("(" : Str) ++ s ++ (")" : Str))) l ∧ Cd 3 l f ∧ Rel t f := by
  obtain ⟨l, f, h1, h2, h3, _⟩ := h
  exact ⟨_, f, by rw [tl_brk]; exact h1.wrap, h2.brk 3, h3⟩
theorem read_paren {t : LT} {P : Str → Prop} (h : ∀ c, P c → Read t c) {s : Str} (hs : paren s P) : Read t s := by
  rcases hs with hs | ⟨c, hc, e⟩
  · exact h s hs
  · obtain ⟨l, f, h1, h2, h3⟩ := (h c hc).wrap
    rw [e]
    exact ⟨l, f, h1, h2.weak (by decide), h3, .inl h2⟩
theorem read_part (k : Bool) {t : LT} {u : Str} (h : Read t u) : ∃ l gs, Tok (tl (wrapK k t u)) l ∧ Chain k l gs ∧ PartOk k t gs ∧ 1 ≤ gs.length := by
  have kp := rk_pos k
  unfold wrapK
  split
  · obtain ⟨l, f, h1, h2, h3⟩ := h.wrap
    exact ⟨l, [f], h1, h2.weak (by omega), part_one h3, Nat.le_refl _⟩
  · rename_i hw
    obtain ⟨l, f, h1, h2, h3, h4 | ⟨j, ts, fs, e, h5, h6, h7⟩⟩ := h
    · exact ⟨l, [f], h1, h4.weak (by omega), part_one h3, Nat.le_refl _⟩
    · by_cases q : j = k
      · subst q
        refine ⟨l, fs, h1, h5, h6, ?_⟩
        cases fs with
        | nil => exact h5.elim
        | cons a b => simp
      · subst e
        have w : rk k + 1 ≤ rk j := by
          cases j
          · cases k
            · exact absurd rfl q
            · exact absurd (show ((kindOf false == "or") && true) = true by decide +kernel) hw
          · cases k
            · decide
            · exact absurd rfl q
        exact ⟨l, [f], h1, h7.weak w, part_one h3, Nat.le_refl _⟩
theorem tl_sep (k : Bool) : tl (sepK k) = 32 :: (tl (kindOf k) ++ [32]) := by
  unfold sepK
  rw [tl_append, tl_append]
  rfl
theorem read_parts (k : Bool) : ∀ (ts : List LT) (us : List Str), (∀ t ∈ ts, ∀ u, paren u (Core t) → Read t u) → ts ≠ [] → Cores k ts us →
    ∃ l fs, Tok (tl (Str.join (sepK k) us)) l ∧ Chain k l fs ∧ PartsOk k ts fs ∧ ts.length ≤ fs.length
  | [], _, _, h, _ => absurd rfl h
  | [t], us, h, _, hc => by
    obtain ⟨u, r, e, h1, h2⟩ := hc
    have e2 : r = [] := h2
    subst e2
    subst e
    obtain ⟨l, gs, a1, a2, a3, a4⟩ := read_part k (h t List.mem_cons_self u h1)
    have w := parts_cons a3 (parts_nil k)
    rw [List.append_nil] at w
    exact ⟨l, gs, a1, a2, w, a4⟩
  | t :: t2 :: ts, us, h, _, hc => by
    obtain ⟨u, r, e, h1, h2⟩ := hc
    obtain ⟨l, gs, a1, a2, a3, a4⟩ := read_part k (h t List.mem_cons_self u h1)
    obtain ⟨l2, fs, b1, b2, b3, b4⟩ := read_parts k (t2 :: ts) r (fun x hx => h x (List.mem_cons_of_mem _ hx)) (by simp) h2
    have rne : r ≠ [] := by
      obtain ⟨u2, r2, e2, _⟩ := h2
      rw [e2]
      simp
    subst e
    refine ⟨l ++ kindOf k :: l2, gs ++ fs, ?_, chain_app k gs fs l l2 a2 b2, parts_cons a3 b3, ?_⟩
    · have w := Tok.bin k a1 b1
      have e2 : tl (Str.join (sepK k) (wrapK k t u :: r)) = tl (wrapK k t u) ++ 32 :: (tl (kindOf k) ++ 32 :: tl (Str.join (sepK k) r)) := by
        rw [join_cons _ _ rne, tl_append, tl_append, tl_sep]
        simp
      rw [e2]
      exact w
    · rw [List.length_append]
      simp only [List.length_cons] at b4 ⊢
      omega
theorem tl_not (s : Str) : tl (("not " : Str) ++ s) = 110 :: 111 :: 116 :: 32 :: tl s := by
  rw [tl_append]
  rfl
theorem read_neg {t : LT} {u : Str} (h : Read t u) : Read (.neg t) (wrapN t u) := by
  unfold wrapN
  split
  · obtain ⟨l, f, h1, h2, h3⟩ := h.wrap
    have w := h2.neg
    refine ⟨_, .neg f, ?_, w.weak (by decide), h3.neg, .inl w⟩
    have e : ("not (" : Str) ++ u ++ (")" : Str) = ("not " : Str) ++ (("(" : Str) ++ u ++ (")" : Str)) := by
      have e0 : ("not (" : Str) = ("not " : Str) ++ ("(" : Str) := by decide +kernel
      rw [e0]
      simp only [app_asc]
    rw [e, tl_not]
    exact h1.neg
  · rename_i hw
    obtain ⟨l, f, h1, h2, h3, h4 | ⟨j, ts, fs, e, h5, h6, h7⟩⟩ := h
    · have w := h4.neg
      exact ⟨_, .neg f, by rw [tl_not]; exact h1.neg, w.weak (by decide), h3.neg, .inl w⟩
    · subst e
      exfalso
      refine hw ?_
      show (([("and" : Str), "or"] : List Str).any fun y => y == kindOf j) = true
      cases j <;> decide +kernel
theorem leaf_cst (b : Bool) : LeafOk (cstOf b) := by
  cases b
  · exact ⟨by decide +kernel, by decide +kernel, by decide +kernel, by decide +kernel, by decide +kernel, by decide +kernel, by decide +kernel⟩
  · exact ⟨by decide +kernel, by decide +kernel, by decide +kernel, by decide +kernel, by decide +kernel, by decide +kernel, by decide +kernel⟩
theorem read_core {ws : List Str} (hws : ∀ z ∈ ws, LeafOk z ∧ isConst z = false) : ∀ (d : Nat) (t : LT), LtOk ws d t → ∀ s, Core t s → Read t s := by
  have lw : ∀ z ∈ ws, ∀ s, Core (.word z) s → Read (.word z) s := by
    intro z hz s e
    have e2 : s = z := e
    subst e2
    obtain ⟨h1, h2⟩ := hws s hz
    have c := Cd.leaf h1 3
    exact ⟨[s], .leaf s, Tok.leaf h1, c.weak (by decide), Rel.word h1.op h2, .inl c⟩
  have lc : ∀ b s, Core (.cst b) s → Read (.cst b) s := by
    intro b s e
    have e2 : s = cstOf b := e
    subst e2
    have h1 := leaf_cst b
    have c := Cd.leaf h1 3
    exact ⟨[cstOf b], .leaf (cstOf b), Tok.leaf h1, c.weak (by decide), Rel.cst b, .inl c⟩
  intro d
  induction d with
  | zero =>
    intro t h s hc
    cases t with
    | word z => exact lw z h s hc
    | cst b => exact lc b s hc
    | neg t => exact False.elim h
    | nary k ts => exact False.elim h
  | succ d ih =>
    intro t h s hc
    cases t with
    | word z => exact lw z h s hc
    | cst b => exact lc b s hc
    | neg t =>
      obtain ⟨u, hu, e⟩ := hc
      rw [e]
      exact read_neg (read_paren (ih t h) hu)
    | nary k ts =>
      obtain ⟨us, hu, e⟩ := hc
      obtain ⟨h1, h2⟩ := (show (ts.length = 2 ∨ ts.length = 3) ∧ ∀ t ∈ ts, LtOk ws d t from h)
      obtain ⟨l, fs, a1, a2, a3, a4⟩ := read_parts k ts us (fun t ht u hu => read_paren (ih t (h2 t ht)) hu) (fun e => by rw [e] at h1; rcases h1 with h1 | h1 <;> cases h1) hu
      have c := chain_cd k fs l a2
      rw [e]
      exact ⟨l, foldB k fs, a1, c.weak (rk_pos k).1, Rel.nary a3 (by omega), .inr ⟨k, ts, fs, rfl, a2, part_chain a3, c⟩⟩
end Fx
set_option maxHeartbeats 2000000
namespace Fx
open PySem PySem.Spec PyProof.Rows L2 TL

theorem swp (a b : Str) : (a == b) = (b == a) := by
  by_cases e : a = b
  · rw [e]
  · rw [beq_eq_false_iff_ne.mpr e, beq_eq_false_iff_ne.mpr (Ne.symm e)]
/-! ### a tree's own text is one of its texts -/
theorem flat_mem_dep {k : Bool} {ts : List LT} {x : LT} (h : x ∈ flatL k ts) : depT x ≤ depL ts := by
  obtain ⟨i, hi⟩ := List.mem_iff_getElem?.mp h
  exact Nat.le_trans (depL_mem hi) (dep_flatL k ts)
theorem txt_stable : ∀ (n m : Nat) (t : LT), depT t ≤ n → depT t ≤ m → txtN n t = txtN m t
  | n, m, .word z, _, _ => by cases n <;> cases m <;> rfl
  | n, m, .cst b, _, _ => by cases n <;> cases m <;> rfl
  | 0, _, .neg t, h, _ => absurd h (Nat.not_succ_le_zero _)
  | _, 0, .neg t, _, h => absurd h (Nat.not_succ_le_zero _)
  | n + 1, m + 1, .neg t, h1, h2 => by
    show ("not " : Str) ++ clo ["and", "or"] t (txtN n t) = ("not " : Str) ++ clo ["and", "or"] t (txtN m t)
    rw [txt_stable n m t (Nat.le_of_succ_le_succ h1) (Nat.le_of_succ_le_succ h2)]
  | 0, _, .nary k ts, h, _ => absurd h (Nat.not_succ_le_zero _)
  | _, 0, .nary k ts, _, h => absurd h (Nat.not_succ_le_zero _)
  | n + 1, m + 1, .nary k ts, h1, h2 => by
    show Str.join (sepK k) ((flatL k ts).map fun t => clo (kindsOf k) t (txtN n t)) = Str.join (sepK k) ((flatL k ts).map fun t => clo (kindsOf k) t (txtN m t))
    congr 1
    refine List.map_congr_left fun x hx => ?_
    have w := flat_mem_dep hx
    rw [txt_stable n m x (Nat.le_trans w (Nat.le_of_succ_le_succ h1)) (Nat.le_trans w (Nat.le_of_succ_le_succ h2))]
theorem flat_ne {ws : List Str} (k : Bool) : ∀ (d : Nat) (t : LT), LtOk ws d t → flat1 k t ≠ [] := by
  intro d
  induction d with
  | zero =>
    intro t h
    cases t with
    | word z => simp [flat1]
    | cst b => simp [flat1]
    | neg t => exact False.elim h
    | nary j ts => exact False.elim h
  | succ d ih =>
    intro t h
    cases t with
    | word z => simp [flat1]
    | cst b => simp [flat1]
    | neg t => simp [flat1]
    | nary j ts =>
      obtain ⟨h1, h2⟩ := (show (ts.length = 2 ∨ ts.length = 3) ∧ ∀ t ∈ ts, LtOk ws d t from h)
      by_cases e : j = k
      · subst e
        rw [flat_nary]
        cases ts with
        | nil => rcases h1 with w | w <;> cases w
        | cons x ts =>
          intro q
          have q2 : flat1 j x ++ flatL j ts = [] := q
          exact ih x (h2 x List.mem_cons_self) (List.append_eq_nil_iff.mp q2).1
      · rw [flat_other e]
        simp
theorem clo_wrap (k : Bool) (t : LT) (u : Str) : clo (kindsOf k) t u = wrapK k t u := by
  unfold clo wrapK
  cases k
  · rw [Bool.and_false]
    rfl
  · rw [Bool.and_true]
    have e : ((kindsOf true).any fun y => y == headOf t) = (headOf t == "or") := by
      show (("or" : Str) == headOf t || false) = _
      rw [Bool.or_false, swp]
    rw [e]
theorem part_join {ws : List Str} (k : Bool) (d n : Nat) (t : LT) (h : LtOk ws d t) (hn : depT t ≤ n) : Str.join (sepK k) ((flat1 k t).map (partT k n)) = wrapK k t (txtN n t) := by
  rw [← clo_wrap]
  cases t with
  | word z => rfl
  | cst b => rfl
  | neg t => rfl
  | nary j ts =>
    by_cases e : j = k
    · subst e
      rw [flat_nary, clo_no (by rw [head_nary]; cases j <;> rfl)]
      cases n with
      | zero => exact absurd hn (Nat.not_succ_le_zero _)
      | succ n =>
        show _ = Str.join (sepK j) ((flatL j ts).map fun t => clo (kindsOf j) t (txtN n t))
        congr 1
        refine List.map_congr_left fun x hx => ?_
        have w := flat_mem_dep hx
        unfold partT
        rw [txt_stable (n + 1) n x (Nat.le_trans w (Nat.le_of_succ_le hn)) (Nat.le_trans w (Nat.le_of_succ_le_succ hn))]
    · rw [flat_other e]
      rfl
theorem parts_join {ws : List Str} (k : Bool) (d n : Nat) : ∀ (ts : List LT), (∀ t ∈ ts, LtOk ws d t) → depL ts ≤ n → ts ≠ [] → Str.join (sepK k) ((flatL k ts).map (partT k n)) = Str.join (sepK k) (ts.map fun t => wrapK k t (txtN n t))
  | [], _, _, h => absurd rfl h
  | [t], h, hn, _ => by
    have e : flatL k [t] = flat1 k t := List.append_nil _
    rw [e, part_join k d n t (h t List.mem_cons_self) (Nat.le_trans (Nat.le_max_left _ _) hn)]
    rfl
  | t :: t2 :: ts, h, hn, _ => by
    have e : flatL k (t :: t2 :: ts) = flat1 k t ++ flatL k (t2 :: ts) := rfl
    have n1 : (flat1 k t).map (partT k n) ≠ [] := fun q => flat_ne k d t (h t List.mem_cons_self) (List.map_eq_nil_iff.mp q)
    have n2 : (flatL k (t2 :: ts)).map (partT k n) ≠ [] := fun q => by
      have q2 : flat1 k t2 ++ flatL k ts = [] := List.map_eq_nil_iff.mp q
      exact flat_ne k d t2 (h t2 (List.mem_cons_of_mem _ List.mem_cons_self)) (List.append_eq_nil_iff.mp q2).1
    rw [e, List.map_append, join_app _ _ _ n1 n2, part_join k d n t (h t List.mem_cons_self) (Nat.le_trans (Nat.le_max_left _ _) hn),
      parts_join k d n (t2 :: ts) (fun x hx => h x (List.mem_cons_of_mem _ hx)) (Nat.le_trans (Nat.le_max_right _ _) hn) (by simp)]
    rfl
theorem cores_map (k : Bool) (u : LT → Str) : ∀ ts : List LT, (∀ t ∈ ts, paren (u t) (Core t)) → Cores k ts (ts.map fun t => wrapK k t (u t))
  | [], _ => rfl
  | t :: ts, h => ⟨u t, _, rfl, h t List.mem_cons_self, cores_map k u ts fun x hx => h x (List.mem_cons_of_mem _ hx)⟩
theorem dep_ok {ws : List Str} : ∀ (d : Nat) (t : LT), LtOk ws d t → depT t ≤ d := by
  intro d
  induction d with
  | zero =>
    intro t h
    cases t with
    | word z => exact Nat.le_refl _
    | cst b => exact Nat.le_refl _
    | neg t => exact False.elim h
    | nary j ts => exact False.elim h
  | succ d ih =>
    intro t h
    cases t with
    | word z => exact Nat.zero_le _
    | cst b => exact Nat.zero_le _
    | neg t => exact Nat.succ_le_succ (ih t h)
    | nary j ts =>
      obtain ⟨h1, h2⟩ := (show (ts.length = 2 ∨ ts.length = 3) ∧ ∀ t ∈ ts, LtOk ws d t from h)
      refine Nat.succ_le_succ ?_
      clear h1 h
      induction ts with
      | nil => exact Nat.zero_le _
      | cons x ts ih2 => exact Nat.max_le.mpr ⟨ih x (h2 x List.mem_cons_self), ih2 fun y hy => h2 y (List.mem_cons_of_mem _ hy)⟩
theorem core_txt {ws : List Str} : ∀ (d : Nat) (t : LT), LtOk ws d t → ∀ n, depT t ≤ n → Core t (txtN n t) := by
  intro d
  induction d with
  | zero =>
    intro t h n hn
    cases t with
    | word z => cases n <;> rfl
    | cst b => cases n <;> rfl
    | neg t => exact False.elim h
    | nary j ts => exact False.elim h
  | succ d ih =>
    intro t h n hn
    cases t with
    | word z => cases n <;> rfl
    | cst b => cases n <;> rfl
    | neg t =>
      cases n with
      | zero => exact absurd hn (Nat.not_succ_le_zero _)
      | succ n =>
        refine ⟨txtN n t, .inl (ih t h n (Nat.le_of_succ_le_succ hn)), ?_⟩
        show ("not " : Str) ++ clo ["and", "or"] t (txtN n t) = wrapN t (txtN n t)
        unfold clo wrapN
        split
        · have e0 : ("not (" : Str) = ("not " : Str) ++ ("(" : Str) := by decide +kernel
          rw [e0]
          simp only [app_asc]
        · rfl
    | nary k ts =>
      obtain ⟨h1, h2⟩ := (show (ts.length = 2 ∨ ts.length = 3) ∧ ∀ t ∈ ts, LtOk ws d t from h)
      cases n with
      | zero => exact absurd hn (Nat.not_succ_le_zero _)
      | succ n =>
        have hn2 : depL ts ≤ n := Nat.le_of_succ_le_succ hn
        refine ⟨_, cores_map k (txtN n) ts fun t ht => .inl (ih t (h2 t ht) n ?_), ?_⟩
        · obtain ⟨i, hi⟩ := List.mem_iff_getElem?.mp ht
          exact Nat.le_trans (depL_mem hi) hn2
        · have w := parts_join k d n ts h2 hn2 (fun e => by rw [e] at h1; rcases h1 with q | q <;> cases q)
          exact w
def midK (k : Bool) : Str := if k then ") and (" else ") or ("
theorem core_bin (k : Bool) {t1 t2 : LT} {u1 u2 : Str} (h1 : Core t1 u1) (h2 : Core t2 u2) : Core (.nary k [t1, t2]) (binText (midK k) u1 u2) := by
  have one : ∀ (t : LT) (u : Str), Core t u → ∃ v, paren v (Core t) ∧ wrapK k t v = "(" ++ u ++ ")" := by
    intro t u h
    by_cases w : ((headOf t == "or") && k) = true
    · refine ⟨u, .inl h, ?_⟩
      unfold wrapK
      rw [w]
      rfl
    · refine ⟨"(" ++ u ++ ")", .inr ⟨u, h, rfl⟩, ?_⟩
      unfold wrapK
      rw [Bool.not_eq_true] at w
      rw [w]
      rfl
  obtain ⟨v1, p1, e1⟩ := one t1 u1 h1
  obtain ⟨v2, p2, e2⟩ := one t2 u2 h2
  refine ⟨[wrapK k t1 v1, wrapK k t2 v2], ⟨v1, _, rfl, p1, v2, _, rfl, p2, rfl⟩, ?_⟩
  rw [e1, e2]
  show _ = ("(" ++ u1 ++ ")" : Str) ++ (" " ++ kindOf k ++ " ") ++ ("(" ++ u2 ++ ")")
  have em : midK k = ")" ++ (" " ++ kindOf k ++ " ") ++ "(" := by cases k <;> decide +kernel
  unfold binText
  rw [em, emp_app]
  simp only [app_asc]
theorem core_neg {t : LT} {u : Str} (h : Core t u) : Core (.neg t) (negText u) := by
  by_cases w : ((["and", "or"] : List Str).any fun y => y == headOf t) = true
  · refine ⟨u, .inl h, ?_⟩
    unfold wrapN negText
    rw [w, emp_app]
    rfl
  · refine ⟨"(" ++ u ++ ")", .inr ⟨u, h, rfl⟩, ?_⟩
    unfold wrapN negText
    rw [Bool.not_eq_true] at w
    rw [w, emp_app, if_neg Bool.false_ne_true]
    have e0 : ("not (" : Str) = ("not " : Str) ++ ("(" : Str) := by decide +kernel
    rw [e0]
    simp only [app_asc]
/-! ### Formula objects of a tree -/
def IsF (H : Hp) (C a : Addr) (t : LT) : Prop := ∃ f, Rel t f ∧ FmAt H C a (post f) ∧ wt (post f) ≤ 4000000 ∧ ∀ s ∈ post f, PyData.strOk s = true
theorem IsF.same {H G : Hp} {C a : Addr} {t : LT} (s : Same H G) (h : IsF H C a t) : IsF G C a t := by
  obtain ⟨f, h1, h2, h3⟩ := h
  exact ⟨f, h1, h2.same s, h3⟩
theorem read_fm {t : LT} {s : Str} (h : Read t s) (hl : s.length ≤ 3900) : signsOf s ≠ [] ∧ ∀ (G : Hp) (C a : Addr), FmAt G C a (codeOf (signsOf s)) → IsF G C a t := by
  obtain ⟨l, f, h1, h2, h3, _⟩ := h
  rw [h1.signs]
  refine ⟨h1.ne, fun G C a g => ⟨f, h3, by rw [← h2.code]; exact g, ?_, fun x hx => h1.ok x (h2.sub x hx)⟩⟩
  have w1 := h1.wl
  have w2 := h2.wl
  rw [← len_tl] at w1
  omega
theorem read_text {ws : List Str} (hws : ∀ z ∈ ws, LeafOk z ∧ isConst z = false) {d n : Nat} {t : LT} (h : LtOk ws d t) (hn : depT t ≤ n) : Read t (txtN n t) := read_core hws d t h _ (core_txt d t h n hn)
/-- words, each once -/
def addU (acc : List Str) (s : Str) : List Str := if (acc.any fun y => y == s) then acc else acc ++ [s]
def uniq (l : List Str) : List Str := l.foldl addU []
theorem words_lvs : ∀ (f : Fm) (acc : List Str), WF f → (post f).foldl addWord acc = (lvs f).foldl addU acc
  | .leaf s, acc, h => by
    show addWord acc s = (if isConst s then [] else [s]).foldl addU acc
    unfold addWord
    rw [show isOper s = false from h]
    cases isConst s with
    | true => rfl
    | false =>
      show (if (!(acc.any fun y => y == s)) = true then acc ++ [s] else acc) = (if (acc.any fun y => y == s) = true then acc else acc ++ [s])
      cases (acc.any fun y => y == s) <;> rfl
  | .neg t, acc, h => by
    show (post t ++ [("not" : Str)]).foldl addWord acc = (lvs t).foldl addU acc
    rw [List.foldl_append, words_lvs t acc h]
    rfl
  | .bin s a b, acc, h => by
    obtain ⟨hs, ha, hb⟩ := h
    show (post a ++ post b ++ [s]).foldl addWord acc = (lvs a ++ lvs b).foldl addU acc
    rw [List.foldl_append, List.foldl_append, words_lvs a acc ha, words_lvs b _ hb, List.foldl_append]
    show addWord _ s = _
    unfold addWord
    rw [show isOper s = true from (not_bin hs).1]
    rfl
theorem words_rel {t : LT} {f : Fm} (h : Rel t f) : wordsOf (post f) = uniq (leavT t) := by
  unfold wordsOf uniq
  rw [words_lvs f [] h.wf, h.lv]
end Fx
set_option maxHeartbeats 2000000
namespace Fx
open PySem PySem.Spec PyProof.Rows L2 TL

/-! ### column: which choices have a word -/
def colI (a : Nat) : Nat → Nat
  | 0 => (2 ^ 2 ^ a - 1) * 2 ^ 2 ^ a
  | i + 1 => colI a i ||| colI a i * 2 ^ 2 ^ (a + 1 + i)
def colN (a many : Nat) : Nat := colI a (many - (a + 1))
theorem pow_two (w : Nat) : (2 : Nat) ^ (w * 2) = 2 ^ w * 2 ^ w := by rw [Nat.mul_two, Nat.pow_add]
theorem mul_lt {x w : Nat} (h : x < 2 ^ w) : x * 2 ^ w < 2 ^ (w * 2) := by
  rw [pow_two]
  exact Nat.mul_lt_mul_of_pos_right h (Nat.two_pow_pos w)
theorem col_lt (a : Nat) : ∀ i, colI a i < 2 ^ 2 ^ (a + 1 + i)
  | 0 => by
    have e : 2 ^ (a + 1 + 0) = 2 ^ a * 2 := Nat.pow_succ ..
    rw [e]
    exact mul_lt (by have := Nat.two_pow_pos (2 ^ a); omega)
  | i + 1 => by
    have e : 2 ^ (a + 1 + (i + 1)) = 2 ^ (a + 1 + i) * 2 := Nat.pow_succ ..
    have ih := col_lt a i
    rw [e]
    refine Nat.or_lt_two_pow (Nat.lt_of_lt_of_le ih (Nat.pow_le_pow_right (by decide) (by omega))) (mul_lt ih)
theorem col_bit (a : Nat) : ∀ i j, j < 2 ^ (a + 1 + i) → (colI a i).testBit j = j.testBit a
  | 0, j, h => by
    have e : 2 ^ (a + 1 + 0) = 2 ^ a * 2 := Nat.pow_succ ..
    rw [e] at h
    show ((2 ^ 2 ^ a - 1) * 2 ^ 2 ^ a).testBit j = _
    rw [Nat.testBit_mul_two_pow, Nat.testBit_two_pow_sub_one, Nat.testBit_eq_decide_div_mod_eq]
    have hp := Nat.two_pow_pos a
    by_cases c : 2 ^ a ≤ j
    · have e1 : j / 2 ^ a = 1 := Nat.div_eq_of_lt_le (by omega) (by omega)
      rw [e1, decide_eq_true c, decide_eq_true (show j - 2 ^ a < 2 ^ a by omega)]
      rfl
    · have e1 : j / 2 ^ a = 0 := Nat.div_eq_of_lt (by omega)
      rw [e1, decide_eq_false c]
      rfl
  | i + 1, j, h => by
    have e : 2 ^ (a + 1 + (i + 1)) = 2 ^ (a + 1 + i) * 2 := Nat.pow_succ ..
    rw [e] at h
    have lt := col_lt a i
    show (colI a i ||| colI a i * 2 ^ 2 ^ (a + 1 + i)).testBit j = _
    rw [Nat.testBit_or, Nat.testBit_mul_two_pow]
    by_cases c : 2 ^ (a + 1 + i) ≤ j
    · have z : (colI a i).testBit j = false := Nat.testBit_lt_two_pow (Nat.lt_of_lt_of_le lt (Nat.pow_le_pow_right (by decide) c))
      have ih := col_bit a i (j - 2 ^ (a + 1 + i)) (by omega)
      rw [z, decide_eq_true c, ih, Bool.false_or, Bool.true_and]
      have e2 : j = 2 ^ (a + 1 + i) + (j - 2 ^ (a + 1 + i)) := by omega
      generalize j - 2 ^ (a + 1 + i) = k at e2
      rw [e2, Nat.testBit_two_pow_add_gt (by omega)]
    · rw [decide_eq_false c, Bool.false_and, Bool.or_false]
      exact col_bit a i j (by omega)
theorem colN_lt {a n : Nat} (h : a < n) : colN a n < 2 ^ 2 ^ n := by
  have w := col_lt a (n - (a + 1))
  rw [show a + 1 + (n - (a + 1)) = n by omega] at w
  exact w
theorem colN_bit {a n j : Nat} (h : a < n) (hj : j < 2 ^ n) : (colN a n).testBit j = j.testBit a := by
  have w := col_bit a (n - (a + 1)) j
  rw [show a + 1 + (n - (a + 1)) = n by omega] at w
  exact w hj
theorem shlN {x k n : Nat} (h : x < 2 ^ n) (hn : n + k ≤ 134217728) : CShl (x : Int) (k : Int) := shl_ok (n := n) (by rw [Int.natAbs_natCast]; exact h) hn
theorem castShl (x k : Nat) : (x : Int) * 2 ^ ((k : Int)).toNat = ((x * 2 ^ k : Nat) : Int) := by
  rw [Int.toNat_natCast, Int.natCast_mul, Int.natCast_pow] <;> rfl
theorem castOr (x y : Nat) : Builtin.bitOr (x : Int) (y : Int) = ((x ||| y : Nat) : Int) := by
  rw [Bits.bitOr_pp (Int.natCast_nonneg _) (Int.natCast_nonneg _), Int.toNat_natCast, Int.toNat_natCast]
section
variable {P : Program} {w : World} {K : PySem.W.Frag} {mg : Str → Option Value} {base : Heap} {f : Addr} {fd : FuncData}
theorem castXor (x y : Nat) : Builtin.bitXor (x : Int) (y : Int) = ((x ^^^ y : Nat) : Int) := by
  rw [Bits.bitXor_pp (Int.natCast_nonneg _) (Int.natCast_nonneg _), Int.toNat_natCast, Int.toNat_natCast]
theorem castAnd (x y : Nat) : Builtin.bitAnd (x : Int) (y : Int) = ((x &&& y : Nat) : Int) := by
  rw [bitAnd_pp (Int.natCast_nonneg _) (Int.natCast_nonneg _), Int.toNat_natCast, Int.toNat_natCast]
theorem op_shlU {X : Cx} : OpR X (binaryOp .LShift) (fun x y H Q => ∃ a k n : Nat, x = .int (a : Int) ∧ y = .int (k : Int) ∧ a < 2 ^ n ∧ n + k ≤ 134217728 ∧ Q (.int ((a * 2 ^ k : Nat) : Int)) H) := by
  intro pins s σ H x y v u Q I rx ry h
  obtain ⟨a, k, n, e1, e2, h1, h2, q⟩ := h
  refine op_shlW pins s σ H x y v u Q I rx ry ⟨(a : Int), (k : Int), e1, e2, shlN h1 h2, ?_⟩
  show Q (.int ((a : Int) * 2 ^ ((k : Int)).toNat)) H
  rw [castShl]
  exact q
theorem op_orU {X : Cx} : OpR X (binaryOp .BitOr) (fun x y H Q => ∃ a b : Nat, x = .int (a : Int) ∧ y = .int (b : Int) ∧ Q (.int ((a ||| b : Nat) : Int)) H) := by
  intro pins s σ H x y v u Q I rx ry h
  obtain ⟨a, b, e1, e2, q⟩ := h
  refine op_or pins s σ H x y v u Q I rx ry ⟨(a : Int), (b : Int), e1, e2, ?_⟩
  show Q (.int (Builtin.bitOr (a : Int) (b : Int))) H
  rw [castOr]
  exact q
theorem op_xorU {X : Cx} : OpR X (binaryOp .BitXor) (fun x y H Q => ∃ a b : Nat, x = .int (a : Int) ∧ y = .int (b : Int) ∧ Q (.int ((a ^^^ b : Nat) : Int)) H) := by
  intro pins s σ H x y v u Q I rx ry h
  obtain ⟨a, b, e1, e2, q⟩ := h
  refine op_xor pins s σ H x y v u Q I rx ry ⟨(a : Int), (b : Int), e1, e2, ?_⟩
  show Q (.int (Builtin.bitXor (a : Int) (b : Int))) H
  rw [castXor]
  exact q
def spColumn : Sp := fun vs H Q _ => ∃ a n : Nat, vs = [.int a, .int n] ∧ a < n ∧ n ≤ 16 ∧ ∀ G, Same H G → Q (.int (colN a n : Nat)) G
theorem sc_column : FnScope ["at", "many", "width", "bits", "place"] ["at", "many"] (defScope (tp 24)) := ⟨rfl, rfl, rfl, by decide +kernel, rfl, by decide +kernel, by decide +kernel⟩
theorem ok_column (F : FnT K "column" 24 f fd) (T : LTxt mg) : FnOk P w K mg base CX0 1 f fd ["at", "many"] spColumn := by
  refine F.ok sc_column (fun vs H Q E h => ?_) (fun cdv A outer s H vs Q E hr h => ⟨_, PSs.nox (
    pss_cons (ps_set (i := 2) sc_column.nd rfl (Or.inl rfl) (pe_op op_shlU pe_int (pv 0)))
    (pss_cons (ps_set (i := 3) sc_column.nd rfl (Or.inl rfl) (pe_op op_shlU (pe_op op_subN (pe_op op_shlU pe_int (pv 2)) pe_int) (pv 2)))
    (pss_cons (ps_for PassesOwn.never rfl (pi_range2 rfl T.range (pa_cons (pe_op op_add (pv 0) pe_int) (pa_cons (pv 1) pa_nil))) (pg_name (i := 4) sc_column.nd rfl (Or.inl rfl))
      (pss_one (ps_set (i := 3) sc_column.nd rfl (Or.inl rfl) (pe_op op_orU (pv 3) (pe_op op_shlU (pv 3) (pe_op op_shlU pe_int (pv 4)))))))
    (pss_one (ps_ret (pv 3)))))), ?_⟩)
  · obtain ⟨a, n, rfl, _⟩ := h
    rfl
  · obtain ⟨a, n, rfl, h1, h2, q⟩ := h
    have p1 : 2 ^ a ≤ 65536 := Nat.le_trans (Nat.pow_le_pow_right (by decide) (show a ≤ 16 by omega)) (by decide)
    have hp : 1 ≤ 2 ^ 2 ^ a := Nat.two_pow_pos _
    refine ⟨_, rfl, 1, a, 1, rfl, rfl, by decide, by omega, ?_⟩
    rw [Nat.one_mul]
    refine ⟨_, rfl, 1, 2 ^ a, 1, rfl, rfl, by decide, by omega, 2 ^ 2 ^ a, 1, by rw [Nat.one_mul], rfl, hp, ?_⟩
    refine ⟨_, rfl, 2 ^ 2 ^ a - 1, 2 ^ a, 2 ^ a, rfl, rfl, by omega, by omega, ?_⟩
    refine ⟨_, rfl, _, _, rfl, rfl, _, rfl, (a : Int) + 1, (n : Int), rfl, ⟨by omega, by omega, by omega, by omega⟩, ?_⟩
    refine for_range (lo := (a : Int) + 1) (n := ((n : Int) - ((a : Int) + 1)).toNat) (fun i σ G => ∃ o4, σ = [some (.int (a : Int)), some (.int (n : Int)), some (.int ((2 ^ a : Nat) : Int)), some (.int (colI a i : Nat)), o4] ∧ Same H G) ⟨none, rfl, Same.refl H⟩ ?_ ?_
    · rintro i σ G hi ⟨o4, rfl, s1⟩
      have hin : a + 1 + i < n := by omega
      have ep : (a : Int) + 1 + (i : Int) = ((a + 1 + i : Nat) : Int) := by omega
      have p2 : 2 ^ (a + 1 + i) ≤ 65536 := Nat.le_trans (Nat.pow_le_pow_right (by decide) (show a + 1 + i ≤ 16 by omega)) (by decide)
      rw [ep]
      refine ⟨_, rfl, _, rfl, _, rfl, 1, a + 1 + i, 1, rfl, rfl, by decide, by omega, colI a i, 2 ^ (a + 1 + i), 2 ^ (a + 1 + i), rfl, by rw [Nat.one_mul], col_lt a i, by omega, colI a i, colI a i * 2 ^ 2 ^ (a + 1 + i), rfl, rfl, ?_⟩
      exact ⟨_, rfl, s1⟩
    · rintro σ G ⟨o4, rfl, s1⟩
      have en : ((n : Int) - ((a : Int) + 1)).toNat = n - (a + 1) := by omega
      rw [en]
      exact ⟨_, rfl, q G s1⟩
end
end Fx
set_option maxHeartbeats 2000000
namespace Fx
open PySem PySem.Spec PyProof.Rows L2 TL

/-! ### name = {..} -/
theorem ps_setDc {X : Cx} {i : Nat} {y : Str} {py : Pos} {kx vx tg iter : Expr} {ifs : List Expr} {scope : Scope} {own : List (Str × Nat)} {pos spos : Pos} {wi : TI} {g : TG} {tt : TT} {tk tv : TE} (hc : X.calm = true) (hN : X.N.Nodup) (hy : X.N[i]? = some y) (hyl : X.env.scope.names.lookup y = some .local)
    (hsw : swapsWith (.DictComp kx vx [⟨tg, iter, ifs, 0⟩] scope pos) (some (.Name y py)) spos.line X.env = pure true) (hi : PI X tg iter wi) (ok : BlkOk X.N X.env.scope scope own)
    (hg : ∀ (s : Shared) (H : Hp) (C : Addr) (cl : List (Str × Addr)) (fp : List Addr), PG (X.blk s H scope (compEnvC scope cl C X.env) fp) tg g) (ht : ∀ (s : Shared) (H : Hp) (C : Addr) (cl : List (Str × Addr)) (fp : List Addr), PTs (X.blk s H scope (compEnvC scope cl C X.env) fp) ifs tt)
    (hk : ∀ (s : Shared) (H : Hp) (C : Addr) (cl : List (Str × Addr)) (fp : List Addr), PE (X.blk s H scope (compEnvC scope cl C X.env) fp) kx tk)
    (he : ∀ (s : Shared) (H : Hp) (C : Addr) (cl : List (Str × Addr)) (fp : List Addr), PE (X.blk s H scope (compEnvC scope cl C X.env) fp) vx tv) (hs : ∀ x, foldedSetIterable iter X.env x = pure x := by intro _; rfl) :
    PS X (.Assign [.Name y py] (.DictComp kx vx [⟨tg, iter, ifs, 0⟩] scope pos) spos) (tAsg (tDc wi g tt tk tv (own.map (·.2))) (gName i)) := by
  refine ⟨fun pins s σ H D I h => ?_⟩
  rw [exec_Assign_Name_used _ _ _ _ hsw]
  refine wpAny_bind (wpAny_standAt (wpAny_bind ?_))
  show wpAny _ X.A (do let _ ← comprehension (.DictComp kx vx [⟨tg, iter, ifs, 0⟩] scope pos) scope X.env (firstIterPos [⟨tg, iter, ifs, 0⟩] pos) newDict false (eval iter X.env) (some (assign (.Name y py) X.env))) _ _ s
  have h : tDc wi g tt tk tv (own.map (·.2)) σ H (fun x H1 => gName i x σ H1 D.nx) := h
  refine wpAny_bind (thn (dc_core (Qf := fun _ s' => SP X pins D .next s') hc hN I hi ok hg ht hk he hs h fun L C s' m H' I' q hn f => ?_) fun _ s' hq => wpAny_pure (wpAny_pure hq))
  show wpAny _ _ (assign (.Name y py) X.env (.ref L)) _ _ _
  refine wpAny_assign_Name (store_ok2 (v := V.ref L) I' hN hy (.inl hyl) rfl (fun s2 I2 ⟨a, sb, ha⟩ => ?_) (.inr hyl))
  obtain ⟨f0, f1, f2, f3, f4, f5⟩ := f
  have haC : C ≠ a := by
    rcases ha with z | z
    · rw [z]; exact f1
    · exact fun e => f4 y a z e.symm
  refine ⟨m, hn.sameBut sb haC, fun h3 sb3 => ?_⟩
  exact ⟨_, H', I2.turned (t' := s2.toks) (fun b o hb e => (sb3.2 b hb).trans e) f0 f1 f3 f4 f5, q⟩
theorem sw_trueD {kx vx : Expr} {gs : List Comprehension} {scope : Scope} {pos py : Pos} {y : Str} {l : Nat} {env : Env} (hk : env.scope.kind = .function) (hy : env.scope.names.lookup y = some .local) (hl : (py.line == pos.line) = true)
    (ha : (scope.names.any fun (n, k) => n == y && (k == .local || k == .cell)) = false) : swapsWith (.DictComp kx vx gs scope pos) (some (.Name y py)) l env = pure true := by
  have ky : env.kindOf y = some .local := hy
  have hb : env.blockKind = .function := by unfold Env.blockKind; rw [hk]; rfl
  unfold swapsWith
  simp only [hb, ky, ha, Expr.pos, hl]
  rfl
/-- a dict's comprehension over whatever is walked -/
theorem dc_it {J : It} {n : Nat} {G : Hp → Prop} {Y : Nat → Hp → V → Hp → Prop} (w : Walk J n G Y) {g : TG} {tt : TT} {tk tv : TE} {vs : List Nat} {σ : L2.St} {H1 : Hp} {D : Addr} {Qd : Hp → Prop} (Pv : Nat → Hp → Prop) (h0 : Pv 0 (upd H1 D (.dK []))) (hG : ∀ i H, i ≤ n → Pv i H → G H)
    (hs : ∀ i x H H', i < n → Pv i H → Y i H x H' → g x (wipe σ vs) H' fun σ2 H2 => wipe σ2 vs = wipe σ vs ∧ tt σ2 H2 fun b H3 =>
      if b = true then tk σ2 H3 fun y H4 => tv σ2 H4 fun z H5 => ∃ kvs k, y = kV k ∧ H5 D = some (.dK kvs) ∧ kvs.length < sizeLine ∧ Pv (i + 1) (upd H5 D (.dK (putK kvs k z))) else Pv (i + 1) H3) (hd : ∀ H, Pv n H → Qd H) :
    ∃ W : Nat → Nat → Hp → Prop, (∃ m, W 0 m (upd H1 D (.dK []))) ∧ ∀ i m H, W i m H →
      (J.stop i H ∧ Qd H) ∨ (J.go i H ∧ ∃ Nx : Hp → Prop, (∀ H', Nx H' → ∃ m', m' < m ∧ W (i + 1) m' H') ∧ ∀ x H', J.yld i H x H' → g x (wipe σ vs) H' fun σ2 H2 => wipe σ2 vs = wipe σ vs ∧ tt σ2 H2 fun b H3 =>
        if b = true then tk σ2 H3 fun y H4 => tv σ2 H4 fun z H5 => ∃ kvs k, y = kV k ∧ H5 D = some (.dK kvs) ∧ kvs.length < sizeLine ∧ Nx (upd H5 D (.dK (putK kvs k z))) else Nx H3) := by
  refine ⟨fun i m H => m = n - i ∧ i ≤ n ∧ Pv i H, ⟨n, by simp, Nat.zero_le _, h0⟩, ?_⟩
  rintro i m H ⟨rfl, hi, p⟩
  have q := hG i H hi p
  by_cases hlt : i < n
  · exact .inr ⟨w.goes i H hlt q, Pv (i + 1), fun H' p' => ⟨n - (i + 1), by omega, rfl, hlt, p'⟩, fun x H' y => hs i x H H' hlt p (w.yields i H x H' hlt q y)⟩
  · have e : i = n := by omega
    subst e
    exact .inl ⟨w.stops H q, hd H p⟩
/-! ### the place of a word -/
def ixS : List Str → Str → Nat
  | [], _ => 0
  | x :: l, s => if x == s then 0 else ixS l s + 1
theorem ixS_lt : ∀ {l : List Str} {s : Str}, s ∈ l → ixS l s < l.length
  | x :: l, s, h => by
    unfold ixS
    split
    · exact Nat.succ_pos _
    · rename_i n
      rcases List.mem_cons.mp h with e | e
      · exact absurd (by rw [e]; exact beq_self_eq_true x) n
      · exact Nat.succ_lt_succ (ixS_lt e)
theorem ixS_at : ∀ {l : List Str} {i : Nat} {s : Str}, l.Nodup → l[i]? = some s → ixS l s = i
  | x :: l, 0, s, _, e => by
    have e2 : x = s := by simpa using e
    unfold ixS
    rw [e2, beq_self_eq_true, if_pos rfl]
  | x :: l, i + 1, s, nd, e => by
    have e2 : l[i]? = some s := by simpa using e
    have ne : ¬ (x == s) = true := fun z => by
      have z2 := eq_of_beq z
      subst z2
      exact (List.nodup_cons.mp nd).1 (List.mem_of_getElem? e2)
    unfold ixS
    rw [if_neg ne, ixS_at (List.nodup_cons.mp nd).2 e2]
theorem ixS_get : ∀ {l : List Str} {s : Str}, s ∈ l → l[ixS l s]? = some s
  | x :: l, s, h => by
    unfold ixS
    split
    · rename_i e
      rw [eq_of_beq e]
      rfl
    · rename_i n
      rcases List.mem_cons.mp h with e | e
      · exact absurd (by rw [e]; exact beq_self_eq_true x) n
      · exact ixS_get e
theorem addWord_nodup {acc : List Str} {s : Str} (h : acc.Nodup) : (addWord acc s).Nodup := by
  unfold addWord
  split
  · rename_i c
    simp only [Bool.and_eq_true, Bool.not_eq_true'] at c
    rw [List.nodup_append]
    refine ⟨h, by simp, fun a ha b hb e => ?_⟩
    rw [List.mem_singleton.mp hb] at e
    subst e
    have := List.any_eq_false.mp c.2.2 a ha
    rw [beq_self_eq_true] at this
    exact this rfl
  · exact h
theorem words_nodup : ∀ (l acc : List Str), acc.Nodup → (l.foldl addWord acc).Nodup
  | [], _, h => h
  | s :: l, acc, h => words_nodup l _ (addWord_nodup h)
/-! ### the worth of a formula for all choices at once -/
def evN (col : Str → Nat) (full : Nat) : Fm → Nat
  | .leaf s => if isConst s then (if s == "all" then full else 0) else col s
  | .neg t => full ^^^ evN col full t
  | .bin s a b => if s == "and" then evN col full b &&& evN col full a else evN col full b ||| evN col full a
def evP (p : Str → Bool) : Fm → Bool
  | .leaf s => if isConst s then s == "all" else p s
  | .neg t => !evP p t
  | .bin s a b => if s == "and" then evP p b && evP p a else evP p b || evP p a
theorem evT_N (col : Str → Nat) (full : Nat) : ∀ f : Fm, evalT (fun s => (col s : Int)) (full : Int) f = (evN col full f : Int)
  | .leaf s => by
    show (if isConst s then (if s == "all" then (full : Int) else 0) else (col s : Int)) = ((if isConst s then (if s == "all" then full else 0) else col s : Nat) : Int)
    cases isConst s <;> cases (s == ("all" : Str)) <;> rfl
  | .neg t => by
    show Builtin.bitXor (full : Int) (evalT _ _ t) = _
    rw [evT_N col full t, castXor] <;> rfl
  | .bin s a b => by
    show (if s == "and" then Builtin.bitAnd (evalT _ _ b) (evalT _ _ a) else Builtin.bitOr (evalT _ _ b) (evalT _ _ a)) = ((if s == "and" then evN col full b &&& evN col full a else evN col full b ||| evN col full a : Nat) : Int)
    rw [evT_N col full a, evT_N col full b, castAnd, castOr]
    cases (s == ("and" : Str)) <;> rfl
theorem evN_bit {col : Str → Nat} {full j : Nat} (h : full.testBit j = true) : ∀ f : Fm, (evN col full f).testBit j = evP (fun s => (col s).testBit j) f
  | .leaf s => by
    show (if isConst s then (if s == "all" then full else 0) else col s : Nat).testBit j = (if isConst s then s == "all" else (col s).testBit j)
    cases isConst s
    · rfl
    · cases (s == ("all" : Str))
      · exact Nat.zero_testBit j
      · exact h
  | .neg t => by
    show (full ^^^ evN col full t).testBit j = _
    rw [Nat.testBit_xor, h, evN_bit h t, Bool.true_xor] <;> rfl
  | .bin s a b => by
    show (if s == "and" then evN col full b &&& evN col full a else evN col full b ||| evN col full a : Nat).testBit j = (if s == "and" then evP _ b && evP _ a else evP _ b || evP _ a)
    cases (s == ("and" : Str))
    · show (evN col full b ||| evN col full a).testBit j = _
      rw [Nat.testBit_or, evN_bit h a, evN_bit h b] <;> rfl
    · show (evN col full b &&& evN col full a).testBit j = _
      rw [Nat.testBit_and, evN_bit h a, evN_bit h b] <;> rfl
/-- the words of a formula that are no constants -/
def lvsF : Fm → List Str
  | .leaf s => if isConst s then [] else [s]
  | .neg t => lvsF t
  | .bin _ a b => lvsF a ++ lvsF b
theorem evN_lt {col : Str → Nat} {full m : Nat} (hf : full < 2 ^ m) : ∀ f : Fm, (∀ s ∈ lvsF f, col s < 2 ^ m) → evN col full f < 2 ^ m
  | .leaf s, h => by
    show (if isConst s then (if s == "all" then full else 0) else col s : Nat) < _
    have h2 : ∀ x ∈ (if isConst s then [] else [s] : List Str), col x < 2 ^ m := h
    cases hc : isConst s
    · rw [hc] at h2
      exact h2 s List.mem_cons_self
    · cases (s == ("all" : Str))
      · exact Nat.two_pow_pos m
      · exact hf
  | .neg t, h => Nat.xor_lt_two_pow hf (evN_lt hf t h)
  | .bin s a b, h => by
    have ha := evN_lt hf a fun s hs => h s (List.mem_append_left _ hs)
    have hb := evN_lt hf b fun s hs => h s (List.mem_append_right _ hs)
    show (if s == "and" then evN col full b &&& evN col full a else evN col full b ||| evN col full a : Nat) < _
    cases (s == ("and" : Str))
    · exact Nat.or_lt_two_pow hb ha
    · exact Nat.and_lt_two_pow _ ha
theorem lvsF_post : ∀ (f : Fm), WF f → ∀ s ∈ lvsF f, s ∈ post f ∧ isOper s = false ∧ isConst s = false
  | .leaf x, h, s, hs => by
    have hs2 : s ∈ (if isConst x then [] else [x] : List Str) := hs
    cases hc : isConst x
    · rw [hc] at hs2
      have e : s = x := by simpa using hs2
      subst e
      exact ⟨List.mem_cons_self, h, hc⟩
    · rw [hc] at hs2
      cases hs2
  | .neg t, h, s, hs => by
    obtain ⟨a, b⟩ := lvsF_post t h s hs
    exact ⟨List.mem_append_left _ a, b⟩
  | .bin x a b, h, s, hs => by
    obtain ⟨_, ha, hb⟩ := h
    rcases List.mem_append.mp hs with z | z
    · obtain ⟨c, d⟩ := lvsF_post a ha s z
      exact ⟨List.mem_append_left _ (List.mem_append_left _ c), d⟩
    · obtain ⟨c, d⟩ := lvsF_post b hb s z
      exact ⟨List.mem_append_left _ (List.mem_append_right _ c), d⟩
def wordsBoth (f g : Fm) : List Str := wordsOf (post f ++ post g)
def fullN (n : Nat) : Nat := 2 ^ 2 ^ n - 1
def diffN (f g : Fm) : Nat := evN (fun s => colN (ixS (wordsBoth f g) s) (wordsBoth f g).length) (fullN (wordsBoth f g).length) f ^^^ evN (fun s => colN (ixS (wordsBoth f g) s) (wordsBoth f g).length) (fullN (wordsBoth f g).length) g
theorem mem_both {f g : Fm} {s : Str} (h : s ∈ post f ∨ s ∈ post g) (ho : isOper s = false) (hc : isConst s = false) : s ∈ wordsBoth f g :=
  mem_words (post f ++ post g) [] s ho hc (.inl (List.mem_append.mpr h))
theorem diff_lt {f g : Fm} (hf : WF f) (hg : WF g) : diffN f g < 2 ^ 2 ^ (wordsBoth f g).length := by
  have full : fullN (wordsBoth f g).length < 2 ^ 2 ^ (wordsBoth f g).length := by
    have := Nat.two_pow_pos (2 ^ (wordsBoth f g).length)
    unfold fullN
    omega
  refine Nat.xor_lt_two_pow (evN_lt full f fun s hs => ?_) (evN_lt full g fun s hs => ?_)
  · obtain ⟨a, b, c⟩ := lvsF_post f hf s hs
    exact colN_lt (ixS_lt (mem_both (.inl a) b c))
  · obtain ⟨a, b, c⟩ := lvsF_post g hg s hs
    exact colN_lt (ixS_lt (mem_both (.inr a) b c))
theorem evP_congr {p q : Str → Bool} : ∀ f : Fm, (∀ s ∈ lvsF f, p s = q s) → evP p f = evP q f
  | .leaf s, h => by
    have h2 : ∀ x ∈ (if isConst s then [] else [s] : List Str), p x = q x := h
    show (if isConst s then s == "all" else p s) = (if isConst s then s == "all" else q s)
    cases hc : isConst s
    · rw [hc] at h2
      exact h2 s List.mem_cons_self
    · rfl
  | .neg t, h => by
    show (!evP p t) = !evP q t
    rw [evP_congr t h]
  | .bin s a b, h => by
    show (if s == "and" then evP p b && evP p a else evP p b || evP p a) = (if s == "and" then evP q b && evP q a else evP q b || evP q a)
    rw [evP_congr a fun s hs => h s (List.mem_append_left _ hs), evP_congr b fun s hs => h s (List.mem_append_right _ hs)]
/-- bit j of the difference: whether just one holds if the words are those whose places are bits of j -/
theorem diff_bit {f g : Fm} (hf : WF f) (hg : WF g) {j : Nat} (hj : j < 2 ^ (wordsBoth f g).length) :
    (diffN f g).testBit j = (evP (fun s => j.testBit (ixS (wordsBoth f g) s)) f ^^ evP (fun s => j.testBit (ixS (wordsBoth f g) s)) g) := by
  have full : (fullN (wordsBoth f g).length).testBit j = true := by
    unfold fullN
    rw [Nat.testBit_two_pow_sub_one, decide_eq_true hj]
  unfold diffN
  rw [Nat.testBit_xor, evN_bit full, evN_bit full]
  congr 1
  · refine evP_congr f fun s hs => ?_
    obtain ⟨a, b, c⟩ := lvsF_post f hf s hs
    exact colN_bit (ixS_lt (mem_both (.inl a) b c)) hj
  · refine evP_congr g fun s hs => ?_
    obtain ⟨a, b, c⟩ := lvsF_post g hg s hs
    exact colN_bit (ixS_lt (mem_both (.inr a) b c)) hj
end Fx
set_option maxHeartbeats 2000000
namespace Fx
open PySem PySem.Spec PyProof.Rows L2 TL
section
variable {P : Program} {w : World} {K : PySem.W.Frag} {mg : Str → Option Value} {base : Heap} {f C fW fX fC fT : Addr} {fd fdW fdX fdC fdT : FuncData}
/-! ### table_of, differing -/
def spTable (C : Addr) : Sp := fun vs H Q _ => ∃ (a wd : Addr) (f : Fm) (ws : List Str), vs = [.ref a, .ref wd] ∧ FmAt H C a (post f) ∧ H wd = some (.lst (ws.map V.str)) ∧ WF f ∧ (post f).length ≤ 4000000 ∧ ws.length ≤ 16 ∧ ws.Nodup ∧
  (∀ x, x ∈ post f → isOper x = false → isConst x = false → x ∈ ws) ∧ ∀ G, Same H G → Q (.int (evN (fun s => colN (ixS ws s) ws.length) (fullN ws.length) f : Nat)) G
def spDiff (C : Addr) : Sp := fun vs H Q _ => ∃ (a b : Addr) (f g : Fm), vs = [.ref a, .ref b] ∧ FmAt H C a (post f) ∧ FmAt H C b (post g) ∧ WF f ∧ WF g ∧ (post f).length + (post g).length ≤ 4000000 ∧ (wordsBoth f g).length ≤ 16 ∧
  ∀ G, Same H G → Q (.int (diffN f g : Nat)) G
theorem sc_table : FnScope ["formula", "words", "columns", "at", "word"] ["formula", "words"] (defScope (tp 300)) := ⟨rfl, rfl, rfl, by decide +kernel, rfl, by decide +kernel, by decide +kernel⟩
theorem sc_diff : FnScope ["one", "other", "words"] ["one", "other"] (defScope (tp 23)) := ⟨rfl, rfl, rfl, by decide +kernel, rfl, by decide +kernel, by decide +kernel⟩
theorem str_at {ws : List Str} {i : Nat} {x : V} (hi : (ws.map V.str)[i]? = some x) : ∃ y, ws[i]? = some y ∧ x = V.str y := by
  rw [List.getElem?_map] at hi
  cases e : ws[i]? with
  | none =>
    rw [e] at hi
    cases hi
  | some y =>
    rw [e] at hi
    exact ⟨y, rfl, (Option.some.inj hi).symm⟩
theorem putK_len {kvs : List (Key × V)} {k : Key} {v : V} {n : Nat} (h : kvs.length ≤ n) : (putK kvs k v).length ≤ n + 1 := by
  unfold putK
  split
  · rw [List.length_map]
    omega
  · rw [List.length_append, List.length_singleton]
    omega
theorem ok_table (F : FnT K "table_of" 300 f fd) (X : FCls K C) (T : LTxt mg) (gE : mg "enumerate" = none) (GW : FnOk P w K mg base CX0 1 fW fdW ["code", "columns", "full"] (spWorth K)) (FW : FnT K "worth" 22 fW fdW) (gW : mg "worth" = some (.ref fW))
    (FC : FnT K "column" 24 fC fdC) (gC : mg "column" = some (.ref fC)) : FnOk P w K mg base CX0 2 f fd ["formula", "words"] (spTable C) := by
  have GC : FnOk P w K mg base CX0 1 fC fdC ["at", "many"] spColumn := ok_column FC T
  have bW : L2.Binds K fdW ["code", "columns", "full"] [] := FW.bindsN fun _ _ _ _ _ _ us hl => match us, hl with | [_, _, _], _ => rfl
  have bC : L2.Binds K fdC ["at", "many"] [] := FC.bindsN fun _ _ _ _ _ _ us hl => match us, hl with | [_, _], _ => rfl
  refine F.ok sc_table (fun vs H Q E h => ?_) (fun cdv A outer s H vs Q E hr h => ⟨_, PSs.nox (
    pss_cons (ps_setDc (i := 2) (own := [("at", 3), ("word", 4)]) (g := gTup K 2 (gCons (gName 3) (gCons (gName 4) gNil))) (tt := tYes) (tk := tVar 4) (tv := tCall spColumn [] E0 (tCons (tVar 3) (tCons (tCB (fun xs H Q => ∃ x n, xs = [x] ∧ LenV K x H n ∧ Q (.int (n : Nat)) H) (tCons (tVar 1) tNil)) tNil))) rfl sc_table.nd rfl rfl (sw_trueD rfl rfl rfl (by decide +kernel)) (pi_enum rfl gE (pa_cons (pv 1) pa_nil)) (blkOk_by (N := ["formula", "words", "columns", "at", "word"]) (sc := defScope (tp 300)) (by decide +kernel))
      (fun _ _ _ _ _ => pg_tup rfl (pgs_cons (pg_name (i := 3) sc_table.nd rfl (Or.inl rfl)) (pgs_cons (pg_name (i := 4) sc_table.nd rfl (Or.inl rfl)) pgs_nil))) (fun _ _ _ _ _ => pts_nil) (fun _ _ _ _ _ => pv 4)
      (fun _ _ _ _ _ => pe_call GC hr rfl gC FC.kp bC .nil pass0 (pa_cons (pv 3) (pa_cons (pe_callB call_len rfl T.len boot_len (pa_cons (pv 1) pa_nil)) pa_nil))))
    (pss_one (ps_ret (pe_call GW hr rfl gW FW.kp bW .nil pass0 (pa_cons (pe_fld (pv 0) rfl) (pa_cons (pv 2) (pa_cons (pe_op op_subN (pe_op op_shlU pe_int (pe_op op_shlU pe_int (pe_callB call_len rfl T.len boot_len (pa_cons (pv 1) pa_nil)))) pe_int) pa_nil))))))), ?_⟩)
  · obtain ⟨a, wd, f, ws, rfl, _⟩ := h
    rfl
  · obtain ⟨a, wd, f, ws, rfl, ⟨dx, p, h1, h2⟩, gwd, wf, hl, h16, nd, mem, q⟩ := h
    have line : (4000010 : Nat) ≤ sizeLine := by decide
    refine ⟨_, rfl, wd, ws.map V.str, rfl, SqL.of gwd, fun D hD => ?_⟩
    refine dc_it (walk_enum (K := K) (a := wd) (xs := ws.map V.str)) (fun i G2 => Same H G2 ∧ ∃ kvs, G2 D = some (.dK kvs) ∧ kvs.length ≤ i ∧ ∀ x ∈ ws.take i, valV kvs (Sum.inr x) = some (.int (colN (ixS ws x) ws.length : Nat)))
      ⟨same_new hD, [], upd_same, Nat.le_refl _, fun x hx => by cases hx⟩ (fun i G2 _ h => SqL.of (h.1 _ _ gwd)) ?_ ?_
    · rintro i x G2 G3 hi ⟨s3, kvs, hk, hkl, hkv⟩ ⟨T0, x0, y0, rfl, hT, rfl, e0, hy0⟩
      cases Option.some.inj e0
      obtain ⟨y, hy, rfl⟩ := str_at hy0
      have hlt := (List.getElem?_eq_some_iff.mp hy).1
      have nT : D ≠ T0 := ne_of_none hk hT
      have s4 := same_new hT (u := .tup [.int (i : Nat), .str y])
      refine ⟨T0, _, rfl, SqT.of upd_same, rfl, _, _, rfl, _, _, rfl, rfl, rfl, ?_⟩
      dsimp only [tYes]
      rw [if_pos rfl]
      refine ⟨_, rfl, _, rfl, _, rfl, _, ws.length, rfl, .inl ⟨_, SqL.of ((s3.trans s4) _ _ gwd), by rw [List.length_map]⟩, i, ws.length, rfl, hlt, h16, fun G4 s5 => ?_⟩
      have s35 := (s3.trans s4).trans s5
      have hk4 : G4 D = some (.dK kvs) := s5 _ _ (s4 _ _ hk)
      refine ⟨kvs, Sum.inr y, rfl, hk4, by omega, ?_, _, upd_same, putK_len hkl, ?_⟩
      · intro b o hb
        rw [upd_ne (ne_of_none hb hD)]
        exact s35 _ _ hb
      · intro x hx
        rw [take_snoc hy] at hx
        rw [valV_put]
        by_cases e : x = y
        · subst e
          rw [if_pos rfl, ixS_at nd hy]
        · rw [if_neg (fun z => e (Sum.inr.inj z))]
          rcases List.mem_append.mp hx with w1 | w1
          · exact hkv x w1
          · exact absurd (List.mem_singleton.mp w1) e
    · rintro G2 ⟨s3, kvs, hk, hkl, hkv⟩
      rw [List.length_map, List.take_length] at hkv
      have p1 : 2 ^ ws.length ≤ 65536 := Nat.le_trans (Nat.pow_le_pow_right (by decide) h16) (by decide)
      refine ⟨_, rfl, a, C, dx, _, _, rfl, s3 _ _ h1, X.cl, X.nc, rfl, _, rfl, _, rfl, _, ws.length, rfl, .inl ⟨_, SqL.of (s3 _ _ gwd), by rw [List.length_map]⟩, 1, ws.length, 1, rfl, rfl, by decide, by omega, 1, 2 ^ ws.length, 1, rfl, by rw [Nat.one_mul], by decide, by omega, 2 ^ 2 ^ ws.length, 1, by rw [Nat.one_mul], rfl, Nat.two_pow_pos _, ?_⟩
      refine ⟨p, D, ((fullN ws.length : Nat) : Int), f, kvs, fun x => (colN (ixS ws x) ws.length : Nat), rfl, SqT.of (s3 _ _ h2), wf, by omega, hk, fun x h5 h3 h4 => hkv x (mem x h5 h3 h4), fun G3 s4 => ?_⟩
      rw [evT_N]
      exact q G3 (s3.trans s4)
theorem ok_diff (F : FnT K "differing" 23 f fd) (GT : FnOk P w K mg base CX0 2 fT fdT ["formula", "words"] (spTable C)) (FT : FnT K "table_of" 300 fT fdT) (gT : mg "table_of" = some (.ref fT))
    (GX : FnOk P w K mg base CX0 1 fX fdX ["formulas"] (spWords K C)) (FX : FnT K "words_of" 21 fX fdX) (gX : mg "words_of" = some (.ref fX)) : FnOk P w K mg base CX0 3 f fd ["one", "other"] (spDiff C) := by
  have bT : L2.Binds K fdT ["formula", "words"] [] := FT.bindsN fun _ _ _ _ _ _ us hl => match us, hl with | [_, _], _ => rfl
  have bX : L2.Binds K fdX ["formulas"] [] := FX.bindsN fun _ _ _ _ _ _ us hl => match us, hl with | [_], _ => rfl
  refine F.ok sc_diff (fun vs H Q E h => ?_) (fun cdv A outer s H vs Q E hr h => ⟨_, PSs.nox (
    pss_cons (ps_set (i := 2) sc_diff.nd rfl (Or.inl rfl) (pe_call GX (hr.mono (by decide)) rfl gX FX.kp bX .nil pass0 (pa_cons (pe_lst (pa_cons (pv 0) (pa_cons (pv 1) pa_nil))) pa_nil)))
    (pss_one (ps_ret (pe_op op_xorU (pe_call GT hr rfl gT FT.kp bT .nil pass0 (pa_cons (pv 0) (pa_cons (pv 2) pa_nil))) (pe_call GT hr rfl gT FT.kp bT .nil pass0 (pa_cons (pv 1) (pa_cons (pv 2) pa_nil))))))), ?_⟩)
  · obtain ⟨a, b, f, g, rfl, _⟩ := h
    rfl
  · obtain ⟨a, b, f, g, rfl, fa, fb, wf, wg, hl, h16, q⟩ := h
    obtain ⟨dx, p, h1, h2⟩ := id fa
    obtain ⟨dy, r, k1, k2⟩ := id fb
    have line : (4000010 : Nat) ≤ sizeLine := by decide
    refine ⟨_, rfl, _, rfl, (by show 2 ≤ sizeLine; decide), fun l hl0 => ?_⟩
    have s1 := same_new hl0 (u := .lst [.ref a, .ref b])
    have e1 : ([post f, post g] : List (List Str)).flatten = post f ++ post g := by simp
    refine ⟨l, _, [post f, post g], rfl, SqL.of upd_same, ⟨⟨a, rfl, dx, p, s1 _ _ h1, s1 _ _ h2⟩, ⟨b, rfl, dy, r, s1 _ _ k1, s1 _ _ k2⟩, trivial⟩, by rw [e1, List.length_append]; exact hl, fun wd G s2 hwd gwd => ?_⟩
    rw [e1] at gwd
    have s12 := s1.trans s2
    have nd : (wordsBoth f g).Nodup := words_nodup _ [] List.nodup_nil
    have ew : wordsOf (post f ++ post g) = wordsBoth f g := rfl
    rw [ew] at gwd
    refine ⟨_, rfl, _, rfl, a, wd, f, wordsBoth f g, rfl, fa.same s12, gwd, wf, by omega, h16, nd, fun x h ho hc => mem_both (.inl h) ho hc, fun G2 s3 => ?_⟩
    have s13 := s12.trans s3
    refine ⟨_, rfl, _, rfl, b, wd, g, wordsBoth f g, rfl, fb.same s13, s3 _ _ gwd, wg, by omega, h16, nd, fun x h ho hc => mem_both (.inr h) ho hc, fun G3 s4 => ?_⟩
    exact ⟨_, _, rfl, rfl, q G3 (s13.trans s4)⟩
end
end Fx
set_option maxHeartbeats 2000000
namespace Fx
/-! ### choices of places, shorter ones first, of as many by their places -/
def startR (r : List Nat) : Nat := match r.getLast? with
  | none => 0
  | some k => k + 1
def kidsR (n : Nat) (r : List Nat) : List (List Nat) := (List.range' (startR r) (n - startR r)).map fun k => r ++ [k]
def nextR (n : Nat) (rs : List (List Nat)) : List (List Nat) := rs.flatMap (kidsR n)
def wR (n : Nat) (rs : List (List Nat)) : Nat := (rs.map fun r => 2 ^ (n - startR r)).sum
theorem startR_snoc (r : List Nat) (k : Nat) : startR (r ++ [k]) = k + 1 := by simp [startR]
theorem startR_nil : startR [] = 0 := rfl
theorem w_range (n : Nat) : ∀ m s, s + m = n → ((List.range' s m).map fun k => 2 ^ (n - (k + 1))).sum + 1 = 2 ^ m
  | 0, _, _ => rfl
  | m + 1, s, h => by
    have ih := w_range n m (s + 1) (by omega)
    rw [List.range'_succ, List.map_cons, List.sum_cons]
    have e : n - (s + 1) = m := by omega
    rw [e, Nat.pow_succ]
    omega
theorem wR_kids (n : Nat) (r : List Nat) : wR n (kidsR n r) + 1 = 2 ^ (n - startR r) := by
  unfold wR kidsR
  rw [List.map_map]
  have e : ((fun r => 2 ^ (n - startR r)) ∘ fun k => r ++ [k]) = fun k => 2 ^ (n - (k + 1)) := funext fun k => by
    show 2 ^ (n - startR (r ++ [k])) = _
    rw [startR_snoc]
  rw [e]
  by_cases h : startR r ≤ n
  · exact w_range n _ _ (by omega)
  · rw [show n - startR r = 0 by omega] <;> rfl
theorem wR_app (n : Nat) (a b : List (List Nat)) : wR n (a ++ b) = wR n a + wR n b := by
  unfold wR
  rw [List.map_append, List.sum_append]
theorem wR_next (n : Nat) : ∀ rs, wR n (nextR n rs) + rs.length = wR n rs
  | [] => rfl
  | r :: rs => by
    have ih := wR_next n rs
    have hk := wR_kids n r
    have e : nextR n (r :: rs) = kidsR n r ++ nextR n rs := rfl
    have e2 : wR n (r :: rs) = 2 ^ (n - startR r) + wR n rs := rfl
    rw [e, wR_app, e2, List.length_cons]
    omega
theorem len_wR (n : Nat) : ∀ rs : List (List Nat), rs.length ≤ wR n rs
  | [] => Nat.le_refl _
  | r :: rs => by
    have ih := len_wR n rs
    have hp := Nat.two_pow_pos (n - startR r)
    have e2 : wR n (r :: rs) = 2 ^ (n - startR r) + wR n rs := rfl
    rw [e2, List.length_cons]
    omega
def subsF (n : Nat) : Nat → List (List Nat) → List (List Nat)
  | 0, _ => []
  | m + 1, rs => rs ++ subsF n m (nextR n rs)
theorem subsF_nil (n : Nat) : ∀ m, subsF n m [] = []
  | 0 => rfl
  | m + 1 => by
    show [] ++ subsF n m (nextR n []) = []
    rw [List.nil_append]
    exact subsF_nil n m
def subsI (n : Nat) : List (List Nat) := subsF n (2 ^ n) [[]]
/-! ### their order -/
def lexB : List Nat → List Nat → Bool
  | [], [] => false
  | [], _ :: _ => true
  | _ :: _, [] => false
  | x :: xs, y :: ys => if x = y then lexB xs ys else decide (x < y)
def lt2 (a b : List Nat) : Bool := if a.length = b.length then lexB a b else decide (a.length < b.length)
theorem lexB_irr : ∀ a, lexB a a = false
  | [] => rfl
  | x :: xs => by
    show (if x = x then lexB xs xs else _) = false
    rw [if_pos rfl, lexB_irr xs]
theorem lexB_trans : ∀ a b c, lexB a b = true → lexB b c = true → lexB a c = true
  | [], [], _, h, _ => by cases h
  | [], _ :: _, [], _, h => by cases h
  | [], _ :: _, _ :: _, _, _ => rfl
  | _ :: _, [], _, h, _ => by cases h
  | _ :: _, _ :: _, [], _, h => by cases h
  | x :: xs, y :: ys, z :: zs, h1, h2 => by
    have h1' : (if x = y then lexB xs ys else decide (x < y)) = true := h1
    have h2' : (if y = z then lexB ys zs else decide (y < z)) = true := h2
    show (if x = z then lexB xs zs else decide (x < z)) = true
    by_cases e1 : x = y
    · rw [if_pos e1] at h1'
      subst e1
      by_cases e2 : x = z
      · rw [if_pos e2] at h2' ⊢
        exact lexB_trans xs ys zs h1' h2'
      · rw [if_neg e2] at h2' ⊢
        exact h2'
    · rw [if_neg e1] at h1'
      have l1 := of_decide_eq_true h1'
      by_cases e2 : y = z
      · subst e2
        rw [if_neg e1]
        exact h1'
      · rw [if_neg e2] at h2'
        have l2 := of_decide_eq_true h2'
        rw [if_neg (by omega)]
        exact decide_eq_true (by omega)
theorem lt2_irr (a : List Nat) : lt2 a a = false := by
  unfold lt2
  rw [if_pos rfl]
  exact lexB_irr a
theorem lt2_trans {a b c : List Nat} (h1 : lt2 a b = true) (h2 : lt2 b c = true) : lt2 a c = true := by
  unfold lt2 at *
  by_cases e1 : a.length = b.length
  · rw [if_pos e1] at h1
    by_cases e2 : b.length = c.length
    · rw [if_pos e2] at h2
      rw [if_pos (e1.trans e2)]
      exact lexB_trans a b c h1 h2
    · rw [if_neg e2] at h2
      have l2 := of_decide_eq_true h2
      rw [if_neg (by omega)]
      exact decide_eq_true (by omega)
  · rw [if_neg e1] at h1
    have l1 := of_decide_eq_true h1
    by_cases e2 : b.length = c.length
    · rw [if_neg (by omega)]
      exact decide_eq_true (by omega)
    · rw [if_neg e2] at h2
      have l2 := of_decide_eq_true h2
      rw [if_neg (by omega)]
      exact decide_eq_true (by omega)
theorem lexB_same : ∀ (r : List Nat) (a b : Nat), a < b → lexB (r ++ [a]) (r ++ [b]) = true
  | [], a, b, h => by
    show (if a = b then _ else decide (a < b)) = true
    rw [if_neg (by omega)]
    exact decide_eq_true h
  | x :: r, a, b, h => by
    show (if x = x then lexB (r ++ [a]) (r ++ [b]) else _) = true
    rw [if_pos rfl]
    exact lexB_same r a b h
theorem lexB_more : ∀ (r q : List Nat) (a b : Nat), r.length = q.length → lexB r q = true → lexB (r ++ [a]) (q ++ [b]) = true
  | [], [], _, _, _, h => by cases h
  | [], _ :: _, _, _, h, _ => by cases h
  | _ :: _, [], _, _, h, _ => by cases h
  | x :: r, y :: q, a, b, hl, h => by
    have h' : (if x = y then lexB r q else decide (x < y)) = true := h
    show (if x = y then lexB (r ++ [a]) (q ++ [b]) else decide (x < y)) = true
    by_cases e : x = y
    · rw [if_pos e] at h' ⊢
      exact lexB_more r q a b (by simpa using hl) h'
    · rw [if_neg e] at h' ⊢
      exact h'
def AscN (n : Nat) (r : List Nat) : Prop := r.Pairwise (· < ·) ∧ ∀ x ∈ r, x < n
theorem asc_nil (n : Nat) : AscN n [] := ⟨.nil, fun _ h => by cases h⟩
theorem asc_start {n : Nat} {r : List Nat} (h : AscN n r) : ∀ x ∈ r, x < startR r := by
  intro x hx
  cases e : r.getLast? with
  | none =>
    rw [List.getLast?_eq_none_iff] at e
    rw [e] at hx
    cases hx
  | some k =>
    obtain ⟨p, hp⟩ := List.getLast?_eq_some_iff.mp e
    rw [hp] at hx h ⊢
    rw [startR_snoc]
    rcases List.mem_append.mp hx with z | z
    · have w := (List.pairwise_append.mp h.1).2.2 x z k (List.mem_singleton.mpr rfl)
      omega
    · rw [List.mem_singleton.mp z]
      exact Nat.lt_succ_self k
theorem asc_snoc {n : Nat} {r : List Nat} {k : Nat} (h : AscN n r) (h1 : startR r ≤ k) (h2 : k < n) : AscN n (r ++ [k]) := by
  refine ⟨List.pairwise_append.mpr ⟨h.1, List.pairwise_singleton .., fun a ha b hb => ?_⟩, fun x hx => ?_⟩
  · rw [List.mem_singleton.mp hb]
    exact Nat.lt_of_lt_of_le (asc_start h a ha) h1
  · rcases List.mem_append.mp hx with z | z
    · exact h.2 x z
    · rw [List.mem_singleton.mp z]
      exact h2
theorem asc_front {n : Nat} {p q : List Nat} (h : AscN n (p ++ q)) : AscN n p := ⟨(List.pairwise_append.mp h.1).1, fun x hx => h.2 x (List.mem_append_left _ hx)⟩
theorem asc_start_le {n : Nat} {p q : List Nat} {k : Nat} (h : AscN n (p ++ k :: q)) : startR p ≤ k := by
  cases e : p.getLast? with
  | none =>
    rw [List.getLast?_eq_none_iff] at e
    rw [e]
    exact Nat.zero_le _
  | some j =>
    obtain ⟨p0, hp⟩ := List.getLast?_eq_some_iff.mp e
    rw [hp, startR_snoc]
    rw [hp] at h
    exact (List.pairwise_append.mp h.1).2.2 j (List.mem_append_right _ (List.mem_singleton.mpr rfl)) k List.mem_cons_self
theorem startR_le {n : Nat} {r : List Nat} (h : AscN n r) : startR r ≤ n := by
  cases e : r.getLast? with
  | none =>
    rw [List.getLast?_eq_none_iff] at e
    rw [e]
    exact Nat.zero_le _
  | some j =>
    obtain ⟨p0, hp⟩ := List.getLast?_eq_some_iff.mp e
    rw [hp, startR_snoc]
    exact h.2 j (by rw [hp]; exact List.mem_append_right _ (List.mem_singleton.mpr rfl))
/-- by the last item -/
theorem snoc_ind {C : List Nat → Prop} (h0 : C []) (h1 : ∀ r k, C r → C (r ++ [k])) (r : List Nat) : C r := by
  have w : ∀ q : List Nat, C q.reverse := fun q => by
    induction q with
    | nil => exact h0
    | cons a q ih =>
      rw [List.reverse_cons]
      exact h1 _ a ih
  have z := w r.reverse
  rwa [List.reverse_reverse] at z
theorem len_start {n : Nat} (r : List Nat) : AscN n r → r.length ≤ startR r := by
  refine snoc_ind (C := fun r => AscN n r → r.length ≤ startR r) (fun _ => Nat.le_refl _) (fun r k ih h => ?_) r
  have w1 := ih (asc_front h)
  have w2 := asc_start_le h
  rw [startR_snoc, List.length_append, List.length_singleton]
  omega
structure Lvl (n k : Nat) (rs : List (List Nat)) : Prop where
  len : ∀ r ∈ rs, r.length = k
  asc : ∀ r ∈ rs, AscN n r
  srt : rs.Pairwise fun a b => lexB a b = true
theorem kids_mem {n : Nat} {r q : List Nat} : q ∈ kidsR n r ↔ ∃ k, startR r ≤ k ∧ k < n ∧ q = r ++ [k] := by
  unfold kidsR
  rw [List.mem_map]
  constructor
  · rintro ⟨k, hk, e⟩
    rw [List.mem_range'_1] at hk
    exact ⟨k, hk.1, by omega, e.symm⟩
  · rintro ⟨k, h1, h2, e⟩
    exact ⟨k, by rw [List.mem_range'_1]; omega, e.symm⟩
theorem Lvl.next {n k : Nat} {rs : List (List Nat)} (h : Lvl n k rs) : Lvl n (k + 1) (nextR n rs) := by
  refine ⟨fun q hq => ?_, fun q hq => ?_, ?_⟩
  · obtain ⟨r, hr, hq⟩ := List.mem_flatMap.mp hq
    obtain ⟨a, _, _, e⟩ := kids_mem.mp hq
    rw [e, List.length_append, h.len r hr] <;> rfl
  · obtain ⟨r, hr, hq⟩ := List.mem_flatMap.mp hq
    obtain ⟨a, h1, h2, e⟩ := kids_mem.mp hq
    rw [e]
    exact asc_snoc (h.asc r hr) h1 h2
  · unfold nextR
    rw [List.pairwise_flatMap]
    refine ⟨fun r hr => ?_, ?_⟩
    · unfold kidsR
      rw [List.pairwise_map]
      exact (List.pairwise_lt_range' ..).imp fun {a b} hab => lexB_same r a b hab
    · refine List.Pairwise.imp_of_mem (fun {a b} ha hb hab x hx y hy => ?_) h.srt
      obtain ⟨i, _, _, e1⟩ := kids_mem.mp hx
      obtain ⟨j, _, _, e2⟩ := kids_mem.mp hy
      rw [e1, e2]
      exact lexB_more a b i j ((h.len a ha).trans (h.len b hb).symm) hab
theorem subs_sorted (n : Nat) : ∀ (m k : Nat) (rs : List (List Nat)), Lvl n k rs → (subsF n m rs).Pairwise (fun a b => lt2 a b = true) ∧ ∀ r ∈ subsF n m rs, k ≤ r.length ∧ AscN n r
  | 0, _, _, _ => ⟨.nil, fun _ h => by cases h⟩
  | m + 1, k, rs, h => by
    obtain ⟨w1, w2⟩ := subs_sorted n m (k + 1) (nextR n rs) h.next
    refine ⟨List.pairwise_append.mpr ⟨?_, w1, fun a ha b hb => ?_⟩, fun r hr => ?_⟩
    · refine List.Pairwise.imp_of_mem (fun {a b} ha hb hab => ?_) h.srt
      unfold lt2
      rw [if_pos ((h.len a ha).trans (h.len b hb).symm)]
      exact hab
    · have l1 := h.len a ha
      have l2 := (w2 b hb).1
      unfold lt2
      rw [if_neg (by omega)]
      exact decide_eq_true (by omega)
    · rcases List.mem_append.mp hr with z | z
      · exact ⟨by rw [h.len r z]; exact Nat.le_refl _, h.asc r z⟩
      · exact ⟨by have := (w2 r z).1; omega, (w2 r z).2⟩
theorem lvl_one (n : Nat) : Lvl n 0 [[]] := ⟨fun r h => by rw [List.mem_singleton.mp h]; rfl, fun r h => by rw [List.mem_singleton.mp h]; exact asc_nil n, List.pairwise_singleton ..⟩
theorem subs_all (n : Nat) : ∀ (m : Nat) (rs : List (List Nat)) (p q : List Nat), p ∈ rs → AscN n (p ++ q) → q.length < m → p ++ q ∈ subsF n m rs
  | 0, _, _, _, _, _, h => absurd h (Nat.not_lt_zero _)
  | m + 1, rs, p, [], hp, _, _ => by
    rw [List.append_nil]
    exact List.mem_append_left _ hp
  | m + 1, rs, p, a :: q, hp, ha, hl => by
    have h1 := asc_start_le ha
    have h2 : a < n := ha.2 a (List.mem_append_right _ List.mem_cons_self)
    have e : p ++ a :: q = (p ++ [a]) ++ q := by simp
    rw [e] at ha ⊢
    exact List.mem_append_right _ (subs_all n m (nextR n rs) (p ++ [a]) q (List.mem_flatMap.mpr ⟨p, hp, kids_mem.mpr ⟨a, h1, h2, rfl⟩⟩) ha (by rw [List.length_cons] at hl; omega))
theorem subsI_mem {n : Nat} {r : List Nat} : r ∈ subsI n ↔ AscN n r := by
  constructor
  · intro h
    exact ((subs_sorted n (2 ^ n) 0 [[]] (lvl_one n)).2 r h).2
  · intro h
    have w := subs_all n (2 ^ n) [[]] [] r List.mem_cons_self (by rw [List.nil_append]; exact h) (by
      have l1 := len_start r h
      have l2 := startR_le h
      exact Nat.lt_of_le_of_lt (Nat.le_trans l1 l2) Nat.lt_two_pow_self)
    rw [List.nil_append] at w
    exact w
theorem subsI_srt (n : Nat) : (subsI n).Pairwise (fun a b => lt2 a b = true) := (subs_sorted n (2 ^ n) 0 [[]] (lvl_one n)).1
/-! ### their bits -/
def bitsR (r : List Nat) : Nat := (r.map fun k => 2 ^ k).sum
theorem bits_snoc (r : List Nat) (k : Nat) : bitsR (r ++ [k]) = 2 ^ k + bitsR r := by
  unfold bitsR
  rw [List.map_append, List.sum_append]
  show _ + (2 ^ k + 0) = _
  omega
theorem bits_lt {n : Nat} (r : List Nat) : AscN n r → bitsR r < 2 ^ startR r := by
  refine snoc_ind (C := fun r => AscN n r → bitsR r < 2 ^ startR r) (fun _ => by decide) (fun r k ih h => ?_) r
  have w1 := ih (asc_front h)
  have w2 := Nat.pow_le_pow_right (show 0 < 2 by decide) (asc_start_le h)
  rw [bits_snoc, startR_snoc, Nat.pow_succ]
  omega
theorem bits_bit {n : Nat} (i : Nat) (r : List Nat) : AscN n r → (bitsR r).testBit i = decide (i ∈ r) := by
  refine snoc_ind (C := fun r => AscN n r → (bitsR r).testBit i = decide (i ∈ r)) (fun _ => by simp [bitsR]) (fun r k ih h => ?_) r
  have w1 := ih (asc_front h)
  have lt : bitsR r < 2 ^ k := Nat.lt_of_lt_of_le (bits_lt r (asc_front h)) (Nat.pow_le_pow_right (by decide) (asc_start_le h))
  rw [bits_snoc]
  by_cases e : i = k
  · subst e
    rw [Nat.testBit_two_pow_add_eq, Nat.testBit_lt_two_pow lt]
    simp
  · have e2 : decide (i ∈ r ++ [k]) = decide (i ∈ r) := by simp [e]
    rw [e2, ← w1]
    by_cases c : i < k
    · exact Nat.testBit_two_pow_add_gt c _
    · have l1 : bitsR r < 2 ^ i := Nat.lt_of_lt_of_le lt (Nat.pow_le_pow_right (by decide) (by omega))
      have l2 : 2 ^ k + bitsR r < 2 ^ i := by
        have := Nat.pow_le_pow_right (show 0 < 2 by decide) (show k + 1 ≤ i by omega)
        rw [Nat.pow_succ] at this
        omega
      rw [Nat.testBit_lt_two_pow l1, Nat.testBit_lt_two_pow l2]
theorem bits_lt2 {n : Nat} {r : List Nat} (h : AscN n r) : bitsR r < 2 ^ n := Nat.lt_of_lt_of_le (bits_lt r h) (Nat.pow_le_pow_right (by decide) (startR_le h))
/-! ### the law's choices -/
def chs : Nat → List (List Nat)
  | 0 => [[]]
  | k + 1 => chs k ++ (chs k).map fun r => r ++ [k]
theorem chs_len : ∀ n, (chs n).length = 2 ^ n
  | 0 => rfl
  | n + 1 => by
    show (chs n ++ (chs n).map fun r => r ++ [n]).length = _
    rw [List.length_append, List.length_map, chs_len n, Nat.pow_succ]
    omega
theorem asc_mono {n m : Nat} {r : List Nat} (h : AscN n r) (l : n ≤ m) : AscN m r := ⟨h.1, fun x hx => Nat.lt_of_lt_of_le (h.2 x hx) l⟩
theorem chs_mem : ∀ {n : Nat} {r : List Nat}, r ∈ chs n ↔ AscN n r
  | 0, r => by
    constructor
    · intro h
      rw [List.mem_singleton.mp h]
      exact asc_nil 0
    · intro h
      cases r with
      | nil => exact List.mem_cons_self
      | cons x r => exact absurd (h.2 x List.mem_cons_self) (Nat.not_lt_zero _)
  | n + 1, r => by
    show r ∈ chs n ++ (chs n).map (fun r => r ++ [n]) ↔ _
    rw [List.mem_append, List.mem_map]
    constructor
    · rintro (h | ⟨q, hq, e⟩)
      · exact asc_mono (chs_mem.mp h) (Nat.le_succ n)
      · have a := chs_mem.mp hq
        rw [← e]
        exact asc_snoc (asc_mono a (Nat.le_succ n)) (startR_le a) (Nat.lt_succ_self n)
    · intro h
      cases e : r.getLast? with
      | none =>
        rw [List.getLast?_eq_none_iff] at e
        rw [e]
        exact .inl (chs_mem.mpr (asc_nil n))
      | some j =>
        obtain ⟨p, hp⟩ := List.getLast?_eq_some_iff.mp e
        subst hp
        have hj : j < n + 1 := h.2 j (List.mem_append_right _ (List.mem_singleton.mpr rfl))
        have below : ∀ x ∈ p, x < j := fun x hx => (List.pairwise_append.mp h.1).2.2 x hx j (List.mem_singleton.mpr rfl)
        by_cases c : j = n
        · subst c
          exact .inr ⟨p, chs_mem.mpr ⟨(asc_front h).1, below⟩, rfl⟩
        · refine .inl (chs_mem.mpr ⟨h.1, fun x hx => ?_⟩)
          rcases List.mem_append.mp hx with z | z
          · have := below x z
            omega
          · rw [List.mem_singleton.mp z]
            omega
def beats : Option (List Nat) → List Nat → Bool
  | none, _ => true
  | some b, r => lt2 r b
def stepB (P : List Nat → Bool) (best : Option (List Nat)) (r : List Nat) : Option (List Nat) := if (P r && beats best r) = true then some r else best
theorem pick_none {P : List Nat → Bool} : ∀ (l : List (List Nat)) (o : Option (List Nat)), l.foldl (stepB P) o = none → o = none ∧ ∀ r ∈ l, P r = false
  | [], o, h => ⟨h, fun _ z => by cases z⟩
  | r :: l, o, h => by
    obtain ⟨h1, h2⟩ := pick_none l (stepB P o r) h
    unfold stepB at h1
    split at h1
    · cases h1
    · rename_i c
      subst h1
      refine ⟨rfl, fun q hq => ?_⟩
      rcases List.mem_cons.mp hq with z | z
      · rw [z]
        have c2 : ¬ (P r && true) = true := c
        rw [Bool.and_true] at c2
        simpa using c2
      · exact h2 q z
theorem pick_some {P : List Nat → Bool} : ∀ (l : List (List Nat)) (o : Option (List Nat)) (b : List Nat), l.foldl (stepB P) o = some b →
    (o = some b ∨ (b ∈ l ∧ P b = true)) ∧ (∀ a, o = some a → a = b ∨ lt2 b a = true) ∧ ∀ r ∈ l, P r = true → lt2 r b = false
  | [], o, b, h => ⟨.inl h, fun a e => .inl (by rw [show o = some b from h] at e; exact (Option.some.inj e).symm), fun _ z => by cases z⟩
  | r :: l, o, b, h => by
    obtain ⟨h1, h2, h3⟩ := pick_some l (stepB P o r) b h
    unfold stepB at h1 h2
    split at h1
    · rename_i c
      rw [if_pos c] at h2
      simp only [Bool.and_eq_true] at c
      have rb : r = b ∨ lt2 b r = true := h2 r rfl
      refine ⟨?_, fun a e => ?_, fun q hq hP => ?_⟩
      · rcases h1 with z | z
        · cases z
          exact .inr ⟨List.mem_cons_self, c.1⟩
        · exact .inr ⟨List.mem_cons_of_mem _ z.1, z.2⟩
      · rw [e] at c
        have lt : lt2 r a = true := c.2
        rcases rb with z | z
        · rw [← z]
          exact .inr lt
        · exact .inr (lt2_trans z lt)
      · rcases List.mem_cons.mp hq with z | z
        · rw [z]
          rcases rb with w | w
          · rw [w]
            exact lt2_irr b
          · cases e : lt2 r b with
            | false => rfl
            | true =>
              have := lt2_trans e w
              rw [lt2_irr] at this
              cases this
        · exact h3 q z hP
    · rename_i c
      rw [if_neg c] at h2
      refine ⟨?_, h2, fun q hq hP => ?_⟩
      · rcases h1 with z | z
        · exact .inl z
        · exact .inr ⟨List.mem_cons_of_mem _ z.1, z.2⟩
      · rcases List.mem_cons.mp hq with z | z
        · rw [z] at hP ⊢
          rw [hP, Bool.true_and] at c
          cases o with
          | none => exact absurd rfl c
          | some a =>
            have nl : lt2 r a = false := by
              have c2 : ¬ lt2 r a = true := c
              simpa using c2
            rcases h2 a rfl with w | w
            · rw [← w]
              exact nl
            · cases e : lt2 r b with
              | false => rfl
              | true =>
                rw [lt2_trans e w] at nl
                cases nl
        · exact h3 q z hP
theorem find_pick {P : List Nat → Bool} {l1 l2 : List (List Nat)} (hs : l1.Pairwise fun a b => lt2 a b = true) (hm : ∀ r, r ∈ l1 ↔ r ∈ l2) : l1.find? P = l2.foldl (stepB P) none := by
  cases e : l2.foldl (stepB P) none with
  | none =>
    obtain ⟨_, h⟩ := pick_none l2 none e
    rw [List.find?_eq_none]
    intro r hr
    rw [h r ((hm r).mp hr)]
    exact Bool.false_ne_true
  | some b =>
    obtain ⟨h1, _, h3⟩ := pick_some l2 none b e
    rcases h1 with z | ⟨hb, hP⟩
    · cases z
    · have hb1 := (hm b).mpr hb
      cases e2 : l1.find? P with
      | none =>
        rw [List.find?_eq_none] at e2
        exact absurd hP (e2 b hb1)
      | some a =>
        obtain ⟨hPa, as, bs, el, hno⟩ := List.find?_eq_some_iff_append.mp e2
        have ha : a ∈ l1 := List.mem_of_find?_eq_some e2
        congr 1
        rw [el] at hb1 hs
        rcases List.mem_append.mp hb1 with w | w
        · have := hno b w
          rw [hP] at this
          cases this
        · rcases List.mem_cons.mp w with w | w
          · exact w.symm
          · have lt := (List.pairwise_cons.mp (List.pairwise_append.mp hs).2.1).1 b w
            have := h3 a ((hm a).mp ha) hPa
            rw [lt] at this
            cases this
theorem choice_law (n : Nat) (P : List Nat → Bool) : (subsI n).find? P = (chs n).foldl (stepB P) none := find_pick (subsI_srt n) fun r => subsI_mem.trans chs_mem.symm
end Fx
set_option maxHeartbeats 2000000
namespace Fx
open PySem PySem.Spec PyProof.Rows L2 TL

/-! ### lists of tuples -/
def TupsAt (G : Hp) (us : List V) (ls : List (List V)) : Prop := us.length = ls.length ∧ ∀ (i : Nat) (u : V) (l : List V), us[i]? = some u → ls[i]? = some l → ∃ q, u = .ref q ∧ G q = some (.tup l)
theorem TupsAt.same {G G' : Hp} {us : List V} {ls : List (List V)} (s : Same G G') (h : TupsAt G us ls) : TupsAt G' us ls := ⟨h.1, fun i u l h1 h2 => by
  obtain ⟨q, e, g⟩ := h.2 i u l h1 h2
  exact ⟨q, e, s _ _ g⟩⟩
theorem TupsAt.keep {G G' : Hp} {us : List V} {ls : List (List V)} {D : Addr} {xs : List V} (hD : G D = some (.lst xs)) (s : ∀ b, b ≠ D → G' b = G b) (h : TupsAt G us ls) : TupsAt G' us ls := ⟨h.1, fun i u l h1 h2 => by
  obtain ⟨q, e, g⟩ := h.2 i u l h1 h2
  refine ⟨q, e, ?_⟩
  rw [s q (ne_of g hD (by intro z; cases z))]
  exact g⟩
theorem TupsAt.nil {G : Hp} : TupsAt G [] [] := ⟨rfl, fun i u l h => by simp at h⟩
theorem TupsAt.snoc {G : Hp} {us : List V} {ls : List (List V)} {q : Addr} {l : List V} (h : TupsAt G us ls) (g : G q = some (.tup l)) : TupsAt G (us ++ [.ref q]) (ls ++ [l]) := by
  refine ⟨by rw [List.length_append, List.length_append, h.1] <;> rfl, fun i u m h1 h2 => ?_⟩
  by_cases c : i < us.length
  · rw [List.getElem?_append_left c] at h1
    rw [List.getElem?_append_left (by rw [← h.1]; exact c)] at h2
    exact h.2 i u m h1 h2
  · rw [List.getElem?_append_right (by omega)] at h1
    rw [List.getElem?_append_right (by rw [← h.1]; omega), ← h.1] at h2
    cases e : i - us.length with
    | zero =>
      rw [e] at h1 h2
      cases h1
      cases h2
      exact ⟨q, rfl, g⟩
    | succ j =>
      rw [e] at h1
      simp at h1
theorem TupsAt.app {G : Hp} {us vs : List V} {ls ms : List (List V)} (h : TupsAt G us ls) (h2 : TupsAt G vs ms) : TupsAt G (us ++ vs) (ls ++ ms) := by
  refine ⟨by rw [List.length_append, List.length_append, h.1, h2.1], fun i u m e1 e2 => ?_⟩
  by_cases c : i < us.length
  · rw [List.getElem?_append_left c] at e1
    rw [List.getElem?_append_left (by rw [← h.1]; exact c)] at e2
    exact h.2 i u m e1 e2
  · rw [List.getElem?_append_right (by omega)] at e1
    rw [List.getElem?_append_right (by rw [← h.1]; omega), ← h.1] at e2
    exact h2.2 _ u m e1 e2
theorem TupsAt.at {G : Hp} {us : List V} {ls : List (List V)} {i : Nat} {u : V} (h : TupsAt G us ls) (e : us[i]? = some u) : ∃ l q, ls[i]? = some l ∧ u = .ref q ∧ G q = some (.tup l) := by
  have lt := (List.getElem?_eq_some_iff.mp e).1
  have lt2 : i < ls.length := by rw [← h.1]; exact lt
  obtain ⟨q, e1, g⟩ := h.2 i u _ e (List.getElem?_eq_getElem lt2)
  exact ⟨_, q, List.getElem?_eq_getElem lt2, e1, g⟩
def intT (r : List Nat) : List V := r.map fun k => .int (k : Nat)
def strT (ws : List Str) (r : List Nat) : List V := (r.map fun k => ws.getD k "").map V.str
def SqA (K : PySem.W.Frag) (H : Hp) (a : Addr) (xs : List V) : Prop := SqL K H a xs ∨ SqT K H a xs
theorem SqA.same {K : PySem.W.Frag} {G G' : Hp} {a : Addr} {xs : List V} (s : Same G G') (h : SqA K G a xs) : SqA K G' a xs := by
  rcases h with h | h
  · exact .inl (s.seq h)
  · exact .inr (sqT_same s h)
theorem SqA.len {K : PySem.W.Frag} {G : Hp} {a : Addr} {xs : List V} (h : SqA K G a xs) : LenV K (.ref a) G xs.length := by
  rcases h with h | h
  · exact .inl ⟨_, h, rfl⟩
  · exact .inr ⟨_, h, rfl⟩
theorem SqA.ix {K : PySem.W.Frag} {G : Hp} {a : Addr} {xs : List V} {k : Nat} {v : V} {Q : VK} (h : SqA K G a xs) (e : xs[k]? = some v) (q : Q v G) : rIx K (.ref a) (.int (k : Nat)) G Q := by
  rcases h with h | h
  · exact .inl ⟨a, xs, (k : Int), v, rfl, rfl, h, atI_nat e, q⟩
  · exact .inr (.inl ⟨a, xs, (k : Int), v, rfl, rfl, h, atI_nat e, q⟩)
/-! ### comprehensions of two clauses -/
theorem lc_at {J : It} {n : Nat} {G : Hp → Prop} {Y : Nat → Hp → V → Hp → Prop} (w : Walk J n G Y) {g : TG} {tt : TT} {te : TE} {vs : List Nat} {σ : L2.St} {H0 : Hp} {D : Addr} {Qd : Hp → Prop} (Pv : Nat → Hp → Prop) (h0 : Pv 0 H0) (hG : ∀ i H, i ≤ n → Pv i H → G H)
    (hs : ∀ i x H H', i < n → Pv i H → Y i H x H' → g x (wipe σ vs) H' fun σ2 H2 => wipe σ2 vs = wipe σ vs ∧ tt σ2 H2 fun b H3 =>
      if b = true then te σ2 H3 fun y H4 => ∃ acc, H4 D = some (.lst acc) ∧ acc.length < sizeLine ∧ Pv (i + 1) (upd H4 D (.lst (acc ++ [y]))) else Pv (i + 1) H3) (hd : ∀ H, Pv n H → Qd H) :
    ∃ W : Nat → Nat → Hp → Prop, (∃ m, W 0 m H0) ∧ ∀ i m H, W i m H →
      (J.stop i H ∧ Qd H) ∨ (J.go i H ∧ ∃ Nx : Hp → Prop, (∀ H', Nx H' → ∃ m', m' < m ∧ W (i + 1) m' H') ∧ ∀ x H', J.yld i H x H' → g x (wipe σ vs) H' fun σ2 H2 => wipe σ2 vs = wipe σ vs ∧ tt σ2 H2 fun b H3 =>
        if b = true then te σ2 H3 fun y H4 => ∃ acc, H4 D = some (.lst acc) ∧ acc.length < sizeLine ∧ Nx (upd H4 D (.lst (acc ++ [y]))) else Nx H3) := by
  refine ⟨fun i m H => m = n - i ∧ i ≤ n ∧ Pv i H, ⟨n, by simp, Nat.zero_le _, h0⟩, ?_⟩
  rintro i m H ⟨rfl, hi, p⟩
  have q := hG i H hi p
  by_cases hlt : i < n
  · exact .inr ⟨w.goes i H hlt q, Pv (i + 1), fun H' p' => ⟨n - (i + 1), by omega, rfl, hlt, p'⟩, fun x H' y => hs i x H H' hlt p (w.yields i H x H' hlt q y)⟩
  · have e : i = n := by omega
    subst e
    exact .inl ⟨w.stops H q, hd H p⟩
/-- the outer clause; what the inner one does with a turn's row is B -/
theorem lc_out {J : It} {n : Nat} {G : Hp → Prop} {Y : Nat → Hp → V → Hp → Prop} (w : Walk J n G Y) {g : TG} {tt : TT} {B : L2.St → Hp → (Hp → Prop) → Prop} {vs : List Nat} {σ : L2.St} {H0 : Hp} {Qd : Hp → Prop} (Pv : Nat → Hp → Prop) (h0 : Pv 0 H0) (hG : ∀ i H, i ≤ n → Pv i H → G H)
    (hs : ∀ i x H H', i < n → Pv i H → Y i H x H' → g x (wipe σ vs) H' fun σ2 H2 => wipe σ2 vs = wipe σ vs ∧ tt σ2 H2 fun b H3 => if b = true then B σ2 H3 (Pv (i + 1)) else Pv (i + 1) H3) (hd : ∀ H, Pv n H → Qd H) :
    ∃ W : Nat → Nat → Hp → Prop, (∃ m, W 0 m H0) ∧ ∀ i m H, W i m H →
      (J.stop i H ∧ Qd H) ∨ (J.go i H ∧ ∃ Nx : Hp → Prop, (∀ H', Nx H' → ∃ m', m' < m ∧ W (i + 1) m' H') ∧ ∀ x H', J.yld i H x H' → g x (wipe σ vs) H' fun σ2 H2 => wipe σ2 vs = wipe σ vs ∧ tt σ2 H2 fun b H3 => if b = true then B σ2 H3 Nx else Nx H3) := by
  refine ⟨fun i m H => m = n - i ∧ i ≤ n ∧ Pv i H, ⟨n, by simp, Nat.zero_le _, h0⟩, ?_⟩
  rintro i m H ⟨rfl, hi, p⟩
  have q := hG i H hi p
  by_cases hlt : i < n
  · exact .inr ⟨w.goes i H hlt q, Pv (i + 1), fun H' p' => ⟨n - (i + 1), by omega, rfl, hlt, p'⟩, fun x H' y => hs i x H H' hlt p (w.yields i H x H' hlt q y)⟩
  · have e : i = n := by omega
    subst e
    exact .inl ⟨w.stops H q, hd H p⟩
theorem kids_at {n j : Nat} {r : List Nat} (h : startR r + j < n) : (kidsR n r)[j]? = some (r ++ [startR r + j]) := by
  unfold kidsR
  rw [List.getElem?_map, List.getElem?_range' (by omega)]
  simp
theorem kids_len (n : Nat) (r : List Nat) : (kidsR n r).length = n - startR r := by
  unfold kidsR
  rw [List.length_map, List.length_range']
theorem next_snoc {n i : Nat} {rs : List (List Nat)} {r : List Nat} (h : rs[i]? = some r) : nextR n (rs.take (i + 1)) = nextR n (rs.take i) ++ kidsR n r := by
  unfold nextR
  rw [take_snoc h, List.flatMap_append] <;> simp
theorem next_len {n i : Nat} {rs : List (List Nat)} {r : List Nat} (h : rs[i]? = some r) : (nextR n (rs.take i)).length + (kidsR n r).length ≤ wR n rs := by
  have e : nextR n rs = nextR n (rs.take (i + 1)) ++ nextR n (rs.drop (i + 1)) := by
    unfold nextR
    rw [← List.flatMap_append, List.take_append_drop]
  have w1 := congrArg List.length e
  rw [next_snoc h, List.length_append, List.length_append] at w1
  have w2 := len_wR n (nextR n rs)
  have w3 := wR_next n rs
  omega
theorem atI_lastV {xs : List V} {v : V} (h : xs.getLast? = some v) : atI xs (-1) = some v := by
  obtain ⟨p, e⟩ := List.getLast?_eq_some_iff.mp h
  rw [e]
  exact atI_last p v
section
variable {P : Program} {w : World} {K : PySem.W.Frag} {mg : Str → Option Value} {base : Heap} {f C : Addr} {fd : FuncData}
def spSubs (K : PySem.W.Frag) : Sp := fun vs H Q _ => ∃ (a : Addr) (ws : List Str), vs = [.ref a] ∧ SqA K H a (ws.map V.str) ∧ ws.length ≤ 16 ∧
  ∀ p G us, Same H G → H p = none → G p = some (.lst us) → TupsAt G us ((subsI ws.length).map (strT ws)) → Q (.ref p) G
def subsN : List Str := ["things", "told", "rows", "row", "at"]
theorem sc_subs : FnScope ["things", "told", "rows", "row", "at"] ["things"] (defScope (tp 109)) := ⟨rfl, rfl, rfl, by decide +kernel, rfl, by decide +kernel, by decide +kernel⟩
/-- what the while of subsets keeps -/
def subsInv (a T0 : Addr) (n : Nat) (H : Hp) (m : Nat) (σ : L2.St) (G : Hp) : Prop :=
  ∃ rs td us vs R o3 o4 k lv, m = wR n rs ∧ σ = [some (.ref a), some (.ref T0), some (.ref R), o3, o4] ∧ Same H G ∧ G T0 = some (.lst us) ∧ TupsAt G us (td.map intT) ∧
    H R = none ∧ R ≠ T0 ∧ G R = some (.lst vs) ∧ TupsAt G vs (rs.map intT) ∧ td.length + wR n rs = 2 ^ n ∧ wR n rs ≤ k ∧ td ++ subsF n k rs = subsI n ∧ Lvl n lv rs
theorem intT_at {r : List Nat} {j : Nat} {x : V} (h : (intT r)[j]? = some x) : ∃ k, r[j]? = some k ∧ x = .int (k : Nat) := by
  unfold intT at h
  rw [List.getElem?_map] at h
  cases e : r[j]? with
  | none =>
    rw [e] at h
    cases h
  | some k =>
    rw [e] at h
    exact ⟨k, rfl, (Option.some.inj h).symm⟩
theorem map_at {α β : Type} {f : α → β} {l : List α} {i : Nat} {y : β} (h : (l.map f)[i]? = some y) : ∃ x, l[i]? = some x ∧ y = f x := by
  rw [List.getElem?_map] at h
  cases e : l[i]? with
  | none =>
    rw [e] at h
    cases h
  | some k =>
    rw [e] at h
    exact ⟨k, rfl, (Option.some.inj h).symm⟩
theorem strT_snoc {ws : List Str} {r : List Nat} {k : Nat} : strT ws (r ++ [k]) = strT ws r ++ [.str (ws.getD k "")] := by
  unfold strT
  rw [List.map_append, List.map_append] <;> rfl
theorem intT_snoc {r : List Nat} {k : Nat} : intT (r ++ [k]) = intT r ++ [.int (k : Nat)] := by
  unfold intT
  rw [List.map_append] <;> rfl
theorem word_at {ws : List Str} {k : Nat} (h : k < ws.length) : (ws.map V.str)[k]? = some (.str (ws.getD k "")) := by
  rw [List.getElem?_map, List.getElem?_eq_getElem h, List.getD_eq_getElem?_getD, List.getElem?_eq_getElem h] <;> rfl
theorem yes_ite {σ : L2.St} {H : Hp} {A B : Hp → Prop} (h : A H) : tYes σ H fun b H3 => if b = true then A H3 else B H3 := by
  dsimp only [tYes]
  rw [if_pos rfl]
  exact h
theorem rd_start {K : PySem.W.Frag} {σ : L2.St} {G : Hp} {Q : VK} {r : List Nat} {q0 : Addr} (hσ : σ[3]? = some (some (.ref q0))) (gq : G q0 = some (.tup (intT r))) (h : Q (.int (startR r : Nat)) G) :
    tIf (fun σ H Q => tVar 3 σ H fun x H' => ∃ k, TruV K x H' k ∧ Q k H') (tOp (rI0 fun i j => .int (i + j)) (tOp (rIxT K) (tVar 3) (tUn (rU fun i => .int (-i)) (tC (.int 1)))) (tC (.int 1))) (tC (.int 0)) σ G Q := by
  refine ⟨_, hσ, !(intT r).isEmpty, .inr (.inl ⟨_, SqT.of gq, rfl⟩), ?_⟩
  cases e : r.getLast? with
  | none =>
    rw [List.getLast?_eq_none_iff] at e
    subst e
    exact iteF h
  | some k =>
    obtain ⟨p, hp⟩ := List.getLast?_eq_some_iff.mp e
    have ne : (!(intT r).isEmpty) = true := by
      rw [hp, intT_snoc]
      simp
    rw [ne]
    have hl : (intT r).getLast? = some (.int (k : Nat)) := by
      rw [hp, intT_snoc]
      simp
    refine iteT ⟨_, hσ, 1, rfl, q0, intT r, -1, .int (k : Nat), rfl, rfl, SqT.of gq, atI_lastV hl, (k : Int), 1, rfl, rfl, ?_⟩
    rw [hp, startR_snoc] at h
    exact h
theorem ok_subs (F : FnT K "subsets" 109 f fd) (T : LTxt mg) (gT : mg "tuple" = none) : FnOk P w K mg base CX0 1 f fd ["things"] (spSubs K) := by
  refine F.ok sc_subs (fun vs H Q E h => ?_) (fun cdv A outer s H vs Q E hr h => ⟨_, PSs.nox (
    pss_cons (ps_set (i := 1) sc_subs.nd rfl (Or.inl rfl) (pe_lst pa_nil))
    (pss_cons (ps_set (i := 2) sc_subs.nd rfl (Or.inl rfl) (pe_lst (pa_cons (pe_tup pa_nil) pa_nil)))
    (pss_cons (ps_while PassesOwn.never (pt_truth (pv 2) (by intro _; rfl))
      (pss_cons (ps_expr (pe_bm PySem.F.plainAttrs_list PySem.F.slot_list_extend PySem.F.type_list_extend mt_extend (pv 1) (pa_cons (pv 2) pa_nil)))
      (pss_one (ps_setLc2 (i := 2) (own := [("row", 3), ("at", 4)]) (vs1 := [4]) (g := gName 3) (tt := tYes) (g1 := gName 4) (tt1 := tYes)
        (te := tOp (rCatA K) (tVar 3) (tTup (tCons (tVar 4) tNil))) (wi1 := iRng2 (tCons (tIf (fun σ H Q => tVar 3 σ H fun x H' => ∃ k, TruV K x H' k ∧ Q k H') (tOp (rI0 fun i j => .int (i + j)) (tOp (rIxT K) (tVar 3) (tUn (rU fun i => .int (-i)) (tC (.int 1)))) (tC (.int 1))) (tC (.int 0))) (tCons (tCB (fun xs H Q => ∃ x n, xs = [x] ∧ LenV K x H n ∧ Q (.int (n : Nat)) H) (tCons (tVar 0) tNil)) tNil)))
        rfl sc_subs.nd rfl rfl (sw_true rfl rfl rfl (by decide +kernel)) (pi_list (pv 2)) (blkOk_by (N := subsN) (sc := defScope (tp 109)) (by decide +kernel)) (by intro i hi; rw [List.mem_singleton.mp hi]; decide)
        (fun _ _ _ _ _ => pg_name (i := 3) sc_subs.nd rfl (Or.inl rfl)) (fun _ _ _ _ _ => pts_nil)
        (fun _ _ _ _ _ => pi_range2 rfl T.range (pa_cons (pe_ifExp (pt_truth (pv 3) (by intro _; rfl)) (pe_op op_add (pe_ix ix_tup (pv 3) (pe_un un_neg pe_int) (fun _ _ => rfl)) pe_int) pe_int) (pa_cons (pe_callB call_len rfl T.len boot_len (pa_cons (pv 0) pa_nil)) pa_nil)))
        (fun _ _ _ _ _ => pg_name (i := 4) sc_subs.nd rfl (Or.inl rfl)) (fun _ _ _ _ _ => pts_nil)
        (fun _ _ _ _ _ => pe_op op_catA (pv 3) (pe_tup (pa_cons (pv 4) pa_nil)))))))
    (pss_one (ps_ret (pe_lc (own := [("row", 3)]) (g := gName 3) (tt := tYes) (te := tCB (fun xs H Q => ∃ p ys, xs = [.ref p] ∧ ((SqL K H p ys ∧ ∀ l, H l = none → Q (.ref l) (upd H l (.tup ys))) ∨ (SqT K H p ys ∧ Q (.ref p) H))) (tCons (tLc (iTup K (tVar 3)) (gName 4) tYes (tOp (rIx K) (tVar 0) (tVar 4)) [4]) tNil)) rfl sc_subs.nd (pi_list (pv 1)) (blkOk_by (N := subsN) (sc := defScope (tp 109)) (by decide +kernel))
      (fun _ _ _ _ _ => pg_name (i := 3) sc_subs.nd rfl (Or.inl rfl)) (fun _ _ _ _ _ => pts_nil)
      (fun _ _ _ _ _ => pe_callTy call_tuple_of rfl gT (by decide +kernel) (pa_cons
        (pe_lc (own := [("at", 4)]) (g := gName 4) (tt := tYes) rfl sc_subs.nd (pi_tup (pv 3)) (blkOk_by (by rfl))
          (fun _ _ _ _ _ => pg_name (i := 4) sc_subs.nd rfl (Or.inl rfl)) (fun _ _ _ _ _ => pts_nil)
          (fun _ _ _ _ _ => pe_ix ix_seq (pv 0) (pv 4) (fun _ _ => rfl))) pa_nil)))))))), ?_⟩)
  · obtain ⟨a, ws, rfl, _⟩ := h
    rfl
  · obtain ⟨a, ws, rfl, hs, h16, q⟩ := h
    have line : (100000 : Nat) ≤ sizeLine := by decide
    have p16 : 2 ^ ws.length ≤ 65536 := Nat.le_trans (Nat.pow_le_pow_right (by decide) h16) (by decide)
    refine ⟨Nat.zero_le _, fun T0 hT => ?_⟩
    have s1 := same_new hT (u := .lst [])
    refine ⟨Nat.zero_le _, fun t0 ht => ⟨by show 1 ≤ sizeLine; decide, fun R0 hR => ?_⟩⟩
    have s2 := s1.trans (same_new ht (u := .tup []))
    have s3 := s2.trans (same_new hR (u := .lst [.ref t0]))
    have nTt : T0 ≠ t0 := fun z => by rw [z, upd_same] at ht; cases ht
    have nRT : R0 ≠ T0 := fun e => by rw [e, upd_ne nTt, upd_same] at hR; cases hR
    have nRt : R0 ≠ t0 := fun e => by rw [e, upd_same] at hR; cases hR
    have gT0 : upd (upd (upd H T0 (.lst [])) t0 (.tup [])) R0 (.lst [.ref t0]) T0 = some (.lst []) := by
      rw [upd_ne nRT.symm, upd_ne nTt, upd_same]
    have gt0 : upd (upd (upd H T0 (.lst [])) t0 (.tup [])) R0 (.lst [.ref t0]) t0 = some (.tup []) := by
      rw [upd_ne nRt.symm, upd_same]
    have w0 : wR ws.length [[]] = 2 ^ ws.length := by
      show 2 ^ (ws.length - 0) + 0 = _
      rw [Nat.sub_zero]
      omega
    refine ⟨subsInv a T0 ws.length H, ⟨_, [[]], [], [], [.ref t0], R0, none, none, 2 ^ ws.length, 0, rfl, rfl, s3, gT0, TupsAt.nil, s2.free hR, nRT, upd_same, (TupsAt.nil (G := _)).snoc gt0, by rw [w0]; exact Nat.zero_add _, by rw [w0]; exact Nat.le_refl _, rfl, lvl_one _⟩, ?_⟩
    rintro m σ G ⟨rs, td, us, vs, R, o3, o4, k, lv, rfl, rfl, sm, g1, t1, hRn, hne, g2, t2, hlen, hk, hsub, hlv⟩
    refine ⟨_, rfl, !vs.isEmpty, .inl ⟨_, SqL.of g2, rfl⟩, ?_⟩
    have hvl : vs.length = rs.length := by rw [t2.1, List.length_map]
    have hul : us.length = td.length := by rw [t1.1, List.length_map]
    have hrl := len_wR ws.length rs
    by_cases hrs : rs = []
    · have ev : vs = [] := List.length_eq_zero_iff.mp (by rw [hvl, hrs] <;> rfl)
      rw [ev]
      refine iteF ?_
      rw [hrs, subsF_nil, List.append_nil] at hsub
      subst hsub
      refine ⟨_, rfl, T0, rfl, ⟨_, SqL.of g1⟩, fun D hD => ?_⟩
      refine lc_list (K := K) (a := T0) (xs := us) (fun i G2 => Same G G2 ∧ ∃ zs, G2 D = some (.lst zs) ∧ TupsAt G2 zs (((subsI ws.length).take i).map (strT ws))) ⟨same_new hD, [], upd_same, TupsAt.nil⟩ (fun i G2 _ h => SqL.of (h.1 _ _ g1)) ?_ ?_
      · rintro i x G2 hi ⟨s4, zs, gz, tz⟩
        obtain ⟨l, q0, hl0, rfl, gq⟩ := (t1.same s4).at hi
        obtain ⟨r, hr, rfl⟩ := map_at hl0
        have hasc := subsI_mem.mp (List.mem_of_getElem? hr)
        have hrlen := Nat.le_trans (len_start r hasc) (startR_le hasc)
        have hzl : zs.length ≤ 65536 := by
          rw [tz.1, List.length_map]
          have w1 := List.length_take_le' i (subsI ws.length)
          omega
        refine ⟨rfl, ?_⟩
        dsimp only [tYes]
        rw [if_pos rfl]
        refine ⟨_, rfl, q0, rfl, ⟨_, SqT.of gq⟩, fun L hL => ?_⟩
        refine lc_tup (K := K) (a := q0) (xs := intT r) (fun j G3 => Same G2 G3 ∧ G3 L = some (.lst (strT ws (r.take j)))) ⟨same_new hL, upd_same⟩ (fun j G3 _ h => SqT.of (h.1 _ _ gq)) ?_ ?_
        · rintro j x G3 hj ⟨s6, gL⟩
          obtain ⟨k2, hk2, rfl⟩ := intT_at hj
          have lt := hasc.2 k2 (List.mem_of_getElem? hk2)
          have hjl := (List.getElem?_eq_some_iff.mp hk2).1
          refine ⟨rfl, ?_⟩
          dsimp only [tYes]
          rw [if_pos rfl]
          refine ⟨_, rfl, _, rfl, (hs.same (sm.trans (s4.trans s6))).ix (word_at lt) ⟨_, gL, ?_, ?_, ?_⟩⟩
          · unfold strT
            rw [List.length_map, List.length_map]
            have := List.length_take_le j r
            have := List.length_take_le' j r
            omega
          · intro b o hb
            rw [upd_ne (ne_of_none hb hL)]
            exact s6 b o hb
          · rw [upd_same, take_snoc hk2, strT_snoc]
        · rintro G3 ⟨s6, gL⟩
          have ef : r.take (intT r).length = r := by
            unfold intT
            rw [List.length_map, List.take_length]
          rw [ef] at gL
          refine ⟨L, strT ws r, rfl, .inl ⟨SqL.of gL, fun l hl => ?_⟩⟩
          have s7 := s6.trans (same_new hl (u := .tup (strT ws r)))
          have gz3 := s7 _ _ gz
          refine ⟨zs, gz3, by omega, ?_, _, upd_same, ?_⟩
          · intro b o hb
            rw [upd_ne (ne_of_none hb hD)]
            exact s7 _ _ (s4 _ _ hb)
          · rw [take_snoc hr, List.map_append]
            have nl : l ≠ D := fun e => by
              rw [e] at hl
              rw [s6 _ _ gz] at hl
              cases hl
            refine ((tz.same s7).keep gz3 fun b hb => upd_ne hb).snoc (q := l) ?_
            rw [upd_ne nl, upd_same]
      · rintro G2 ⟨s4, zs, gz, tz⟩
        have ef : (subsI ws.length).take us.length = subsI ws.length := by rw [hul, List.take_length]
        rw [ef] at tz
        exact q D G2 zs (sm.trans s4) (sm.free hD) gz tz
    · have ev : (!vs.isEmpty) = true := by
        cases vs with
        | nil => exact absurd (List.length_eq_zero_iff.mp hvl.symm) hrs
        | cons _ _ => rfl
      rw [ev]
      have hpos : 1 ≤ rs.length := List.length_pos_iff.mpr hrs
      refine iteT ⟨fun σ' H' => ∃ m', m' < wR ws.length rs ∧ subsInv a T0 ws.length H m' σ' H', fun _ _ z => z, ?_⟩
      refine ⟨_, rfl, .inl ⟨rfl, _, SqL.of g1⟩, _, rfl, T0, R, us, vs, rfl, rfl, g1, g2, by omega, ?_⟩
      have k1 : ∀ b, b ≠ T0 → upd G T0 (.lst (us ++ vs)) b = G b := fun b hb => upd_ne hb
      have gT1 : upd G T0 (.lst (us ++ vs)) T0 = some (.lst (us ++ vs)) := upd_same
      have gR1 : upd G T0 (.lst (us ++ vs)) R = some (.lst vs) := by rw [upd_ne hne]; exact g2
      have tT1 : TupsAt (upd G T0 (.lst (us ++ vs))) (us ++ vs) ((td ++ rs).map intT) := by
        rw [List.map_append]
        exact (t1.keep g1 k1).app (t2.keep g1 k1)
      have tR1 := t2.keep g1 k1
      have sm1 : Same H (upd G T0 (.lst (us ++ vs))) := fun b o hb => by
        rw [upd_ne (ne_of_none hb hT)]
        exact sm b o hb
      generalize upd G T0 (.lst (us ++ vs)) = G1 at gT1 gR1 tT1 tR1 sm1 ⊢
      refine ⟨_, rfl, R, rfl, ⟨_, SqL.of gR1⟩, fun D hD => ?_⟩
      refine lc_out (walk_list (K := K) (a := R) (xs := vs)) (fun i G2 => Same G1 G2 ∧ ∃ zs, G2 D = some (.lst zs) ∧ TupsAt G2 zs ((nextR ws.length (rs.take i)).map intT)) ⟨same_new hD, [], upd_same, TupsAt.nil⟩ (fun i G2 _ h => SqL.of (h.1 _ _ gR1)) ?_ ?_
      · rintro i x G2 G2' hi ⟨s4, zs, gz, tz⟩ ⟨rfl, hx⟩
        obtain ⟨l, q0, hl0, rfl, gq1⟩ := tR1.at hx
        obtain ⟨r, hr, rfl⟩ := map_at hl0
        have hasc := hlv.asc r (List.mem_of_getElem? hr)
        have hsr := startR_le hasc
        have hrlen := Nat.le_trans (len_start r hasc) hsr
        have hnl := next_len (n := ws.length) hr
        refine ⟨rfl, yes_ite ?_⟩
        refine rd_start rfl (s4 _ _ gq1) ?_
        refine ⟨_, rfl, _, (ws.map V.str).length, rfl, (hs.same (sm1.trans s4)).len, (startR r : Int), ((ws.map V.str).length : Nat), rfl, ⟨by omega, by omega, by omega, by rw [List.length_map]; omega⟩, ?_⟩
        have en : (((ws.map V.str).length : Nat) - (startR r : Int)).toNat = ws.length - startR r := by
          rw [List.length_map]
          omega
        rw [en]
        refine lc_at (g := gName 4) (tt := tYes) (te := tOp (rCatA K) (tVar 3) (tTup (tCons (tVar 4) tNil))) (vs := [4]) (walk_range (lo := (startR r : Int)) (n := ws.length - startR r)) (fun j G3 => Same G1 G3 ∧ ∃ zs, G3 D = some (.lst zs) ∧ TupsAt G3 zs ((nextR ws.length (rs.take i) ++ (kidsR ws.length r).take j).map intT)) ⟨s4, zs, gz, by rw [List.take_zero, List.append_nil]; exact tz⟩ (fun _ _ _ _ => trivial) ?_ ?_
        · rintro j x G9 G3 hj ⟨s5, zs3, gz3, tz3⟩ ⟨rfl, hx3⟩
          have hkj := kids_at (n := ws.length) (r := r) (j := j) (by omega)
          have hz3 : zs3.length ≤ 65536 := by
            rw [tz3.1, List.length_map, List.length_append]
            have := List.length_take_le' j (kidsR ws.length r)
            omega
          have ei : (startR r : Int) + (j : Int) = ((startR r + j : Nat) : Int) := by omega
          have ex : x = V.int ((startR r + j : Nat) : Int) := by
            rw [hx3, ← ei]
          subst ex
          have fin : ∀ (p : Addr) (G4 : Hp), Same G3 G4 → G4 p = some (.tup (intT (r ++ [startR r + j]))) → ∃ acc, G4 D = some (.lst acc) ∧ acc.length < sizeLine ∧ (Same G1 (upd G4 D (.lst (acc ++ [.ref p]))) ∧ ∃ zs, upd G4 D (.lst (acc ++ [.ref p])) D = some (.lst zs) ∧ TupsAt (upd G4 D (.lst (acc ++ [.ref p]))) zs ((nextR ws.length (rs.take i) ++ (kidsR ws.length r).take (j + 1)).map intT)) := by
            intro p G4 s6 gp
            refine ⟨zs3, s6 _ _ gz3, by omega, ?_, _, upd_same, ?_⟩
            · intro b o hb
              rw [upd_ne (ne_of_none hb hD)]
              exact s6 _ _ (s5 _ _ hb)
            · rw [take_snoc hkj, ← List.append_assoc, List.map_append]
              have np : p ≠ D := ne_of gp (s6 _ _ gz3) (by intro z; cases z)
              refine ((tz3.same s6).keep (s6 _ _ gz3) fun b hb => upd_ne hb).snoc (q := p) ?_
              rw [upd_ne np]
              exact gp
          refine ⟨rfl, ?_⟩
          dsimp only [tYes]
          rw [if_pos rfl]
          refine ⟨_, rfl, _, rfl, (by show 1 ≤ sizeLine; decide), fun t ht => ?_⟩
          have s6 := same_new ht (u := .tup [.int ((startR r + j : Nat) : Int)])
          refine ⟨q0, t, intT r, [.int ((startR r + j : Nat) : Int)], rfl, rfl, SqT.of (s6 _ _ (s5 _ _ gq1)), SqT.of upd_same, ?_, fun e => ?_, fun _ e => (by cases e), fun _ _ p hp => ?_⟩
          · have : (intT r).length = r.length := by unfold intT; rw [List.length_map]
            show (intT r).length + 1 ≤ sizeLine
            omega
          · refine fin t _ s6 ?_
            rw [upd_same, intT_snoc, e] <;> rfl
          · refine fin p _ (s6.trans (same_new hp)) ?_
            rw [upd_same, intT_snoc]
        · rintro G3 ⟨s5, zs3, gz3, tz3⟩
          refine ⟨s5, zs3, gz3, ?_⟩
          have e1 : (kidsR ws.length r).take (ws.length - startR r) = kidsR ws.length r := by rw [← kids_len, List.take_length]
          rw [e1] at tz3
          rw [next_snoc hr]
          exact tz3
      · rintro G2 ⟨s4, zs, gz, tz⟩
        have e1 : rs.take vs.length = rs := by rw [hvl, List.take_length]
        rw [e1] at tz
        have hw := wR_next ws.length rs
        have hkp : 1 ≤ k := by omega
        obtain ⟨k', rfl⟩ : ∃ k', k = k' + 1 := ⟨k - 1, by omega⟩
        refine ⟨wR ws.length (nextR ws.length rs), by omega, nextR ws.length rs, td ++ rs, us ++ vs, zs, D, _, _, k', lv + 1, rfl, rfl, sm1.trans s4, s4 _ _ gT1, tT1.same s4, sm1.free hD, fun e => ?_, gz, tz, ?_, by omega, ?_, hlv.next⟩
        · rw [e, gT1] at hD
          cases hD
        · rw [List.length_append]
          omega
        · rw [List.append_assoc]
          exact hsub
end
end Fx
set_option maxHeartbeats 2000000
namespace Fx
open PySem PySem.Spec PyProof.Rows L2 TL
/-- no Formula -/
def NotF (K : PySem.W.Frag) (C : Addr) (H : Hp) (v : V) : Prop := ∃ t, TyX K H v t ∧ PySem.W.kitOne K t (.ref C) = some false
/-- stands for the formula f -/
def ArgF (H : Hp) (C : Addr) (v : V) (f : Fm) : Prop := (∃ a, v = .ref a ∧ FmAt H C a (post f)) ∨ ∃ z : Str, v = .str z ∧ z.length ≤ 3900 ∧ signsOf z ≠ [] ∧ codeOf (signsOf z) = post f
/-- stands for none -/
def BadArg (K : PySem.W.Frag) (C : Addr) (H : Hp) (v : V) : Prop := (∀ G, Same H G → NotF K C G v ∧ Any K G v) ∧ (∀ z, v = .str z → z.length ≤ 3900) ∧ signsV v = []
theorem ArgF.same {H G : Hp} {C : Addr} {v : V} {f : Fm} (s : Same H G) (h : ArgF H C v f) : ArgF G C v f := by
  rcases h with ⟨a, e, h⟩ | h
  · exact .inl ⟨a, e, h.same s⟩
  · exact .inr h
theorem BadArg.same {K : PySem.W.Frag} {H G : Hp} {C : Addr} {v : V} (s : Same H G) (h : BadArg K C H v) : BadArg K C G v := ⟨fun G2 s2 => h.1 G2 (s.trans s2), h.2⟩
section
variable {P : Program} {w : World} {K : PySem.W.Frag} {mg : Str → Option Value} {base : Heap} {f C CB fB fS fC fW fT fI fA fD fX : Addr} {fd fdB fdS fdC fdW fdT fdI fdA fdD fdX : FuncData}
/-! ### as_formula, of anything -/
def spAsX (K : PySem.W.Frag) (C CB : Addr) : Sp := fun vs H Q E => ∃ v, vs = [v] ∧ ((∃ (a : Addr) (l : List Str), v = .ref a ∧ FmAt H C a l ∧ Q (.ref a) H) ∨
  ((∀ G, Same H G → NotF K C G v ∧ Any K G v) ∧ (∀ z, v = .str z → z.length ≤ 3900) ∧ (signsV v = [] → ∀ d G, Same H G → H d = none → G d = some (.xd [("text", v)]) → E (.ref CB) (some d) G) ∧
    (signsV v ≠ [] → ∀ a G, Same H G → H a = none → FmAt G C a (codeOf (signsV v)) → Q (.ref a) G)))
theorem ok_asX (F : FnT K "as_formula" 14 f fd) (T : CTxt K w mg) (X : FCls K C) (M : MTxt K mg C fI) (GI : FnOk P w K mg base (L2.CX P w) 5 fI fdI ["self", "text"] (spInitF K C CB)) (FI : FnI K "Formula.__init__" "__init__" 13 0 fI fdI) :
    FnOk P w K mg base (L2.CX P w) 7 f fd ["thing"] (spAsX K C CB) := by
  have bI : L2.Binds K fdI ["self", "text"] [] := FI.bindsN fun _ _ _ _ _ _ us hl => match us, hl with | [_, _], _ => rfl
  have gF := M.g
  have MF := M.mkr
  refine F.ok sc_as (fun vs H Q E h => ?_) (fun cdv A outer s H vs Q E hr h => ⟨_, (pss_one (ps_ret (pe_ifExp (pt_val (pe_callB call_isi rfl T.n.isi (by decide +kernel) (pa_cons (pv 0) (pa_cons (pe_glob (v := .ref C) rfl gF rfl) pa_nil)))) (pv 0) (pe_make MF GI (hr.mono (by decide)) rfl gF bI .nil (passes_call (E := E) (takes_of rfl rfl rfl rfl) (fun _ _ _ _ h => h)) (pa_cons (pv 0) pa_nil))))), ?_⟩)
  · obtain ⟨v, rfl, _⟩ := h
    rfl
  · obtain ⟨v, rfl, ⟨a, l, rfl, ⟨dx, p, h1, h2⟩, q⟩ | ⟨st, hz, qe, qn⟩⟩ := h
    · have kb : PySem.W.kitOne K (.ref C) (.ref C) = some true := by
        unfold PySem.W.kitOne
        rw [if_pos (by simp)]
      refine ⟨_, rfl, .ref a, .ref C, .ref C, .ref C, true, rfl, .own C, .base (.ins h1 X.cl M.ca M.sg M.tk M.mr), kb, true, rfl, ?_⟩
      exact iteT ⟨_, rfl, q⟩
    · obtain ⟨t, ty, kb⟩ := (st H (Same.refl H)).1
      refine ⟨_, rfl, v, .ref C, t, .ref C, false, rfl, .own C, ty, kb, false, rfl, ?_⟩
      refine iteF ⟨_, rfl, ?_⟩
      intro x dx hx hd ne
      have s1 := same_new hd (u := .own x)
      have hx1 : upd H dx (.own x) x = none := by
        rw [upd_ne ne.symm]
        exact hx
      have s2 := s1.trans (same_new hx1 (u := .ins C dx []))
      refine ⟨x, dx, v, rfl, upd_same, (st _ s2).2, hz, fun e d G s hd2 g => qe e d G (s2.trans s) (s2.free hd2) g, fun e p G k1 k2 k3 k4 => ⟨rfl, qn e x G ?_ hx ⟨dx, p, k2, k4⟩⟩⟩
      intro b o hb
      exact k1 b o (ne_of_none hb hx) (s2 _ _ hb)
/-! ### == of Formula objects -/
def spFEq (K : PySem.W.Frag) (C : Addr) : Sp := fun vs H Q _ => ∃ (a : Addr) (v : V) (f : Fm), vs = [.ref a, v] ∧ FmAt H C a (post f) ∧ WF f ∧
  ((∃ b g, v = .ref b ∧ FmAt H C b (post g) ∧ WF g ∧ (post f).length + (post g).length ≤ 4000000 ∧ (wordsBoth f g).length ≤ 16 ∧ ∀ G, Same H G → Q (.bl (diffN f g == 0)) G) ∨ (NotF K C H v ∧ Q (.bl false) H))
theorem sc_feq : FnScope ["self", "other"] ["self", "other"] (defScope (inClass (tp 13) 6)) := ⟨rfl, rfl, rfl, by decide +kernel, rfl, by decide +kernel, by decide +kernel⟩
theorem ok_feq (F : FnI K "Formula.__eq__" "__eq__" 13 6 f fd) (T : CTxt K w mg) (X : FCls K C) (M : MTxt K mg C fI) (GD : FnOk P w K mg base CX0 3 fD fdD ["one", "other"] (spDiff C)) (FD : FnT K "differing" 23 fD fdD) (gD : mg "differing" = some (.ref fD)) :
    FnOk P w K mg base CX0 4 f fd ["self", "other"] (spFEq K C) := by
  have bD : L2.Binds K fdD ["one", "other"] [] := FD.bindsN fun _ _ _ _ _ _ us hl => match us, hl with | [_, _], _ => rfl
  have gF := M.g
  refine F.ok sc_feq (fun vs H Q E h => ?_) (fun cdv A outer s H vs Q E hr h => ⟨_, PSs.nox (pss_one (ps_ret (pe_and (pe_callB call_isi rfl T.n.isi (by decide +kernel) (pa_cons (pv 1) (pa_cons (pe_glob (v := .ref C) rfl gF rfl) pa_nil)))
      (pe_one (pe_cmpR op_eq (pe_call GD hr rfl gD FD.kp bD .nil pass0 (pa_cons (pv 0) (pa_cons (pv 1) pa_nil))) pe_int (nomark _)))))), ?_⟩)
  · obtain ⟨a, v, f, rfl, _⟩ := h
    rfl
  · obtain ⟨a, v, f, rfl, fa, wf, ⟨b, g, rfl, fb, wg, hl, h16, q⟩ | ⟨⟨t, ty, kb⟩, q⟩⟩ := h
    · have kb : PySem.W.kitOne K (.ref C) (.ref C) = some true := by
        unfold PySem.W.kitOne
        rw [if_pos (by simp)]
      obtain ⟨dx, p, h1, h2⟩ := id fb
      refine ⟨_, rfl, .ref b, .ref C, .ref C, .ref C, true, rfl, .own C, .base (.ins h1 X.cl M.ca M.sg M.tk M.mr), kb, true, rfl, iteT ?_⟩
      refine ⟨_, rfl, _, rfl, a, b, f, g, rfl, fa, fb, wf, wg, hl, h16, fun G s1 => ⟨rfl, ?_⟩⟩
      have w1 := q G s1
      rw [dec_int]
      have e : (((diffN f g : Nat) : Int) == 0) = (diffN f g == 0) := by
        cases diffN f g with
        | zero => rfl
        | succ n => rfl
      rw [e]
      exact w1
    · exact ⟨_, rfl, v, .ref C, t, .ref C, false, rfl, .own C, ty, kb, false, rfl, iteF q⟩
end
end Fx
set_option maxHeartbeats 2000000
namespace Fx
open PySem PySem.Spec PyProof.Rows L2 TL
/-! ### own == and !=; < of data -/
def rLtD (K : PySem.W.Frag) : R2 := fun x y H Q => ∃ d e, Dp K H x d ∧ Dp K H y e ∧ PySem.W.alike d e = true ∧ d ≠ .none ∧ d.depth ≤ 64 ∧ Q (.bl (PySem.W.dataLt d e)) H
theorem op_ltD {X : Cx} (hu : X.A.units + 64 < cLine) : OpR X (compareOp .Lt) (rLtD X.K) := by
  intro pins s σ H x y v u Q I rx ry h
  obtain ⟨d, e, hd, he, al, nn, dp, q⟩ := h
  obtain ⟨as, r1⟩ := Dp.reads I d x v hd rx
  obtain ⟨bs, r2⟩ := Dp.reads I e y u he ry
  exact PySem.W.lt_data r1 r2 al nn (by omega) ⟨.bl _, H, I, rfl, q⟩
section
variable {M : Model} {prog : Program} {w : World} {A : Around} {E : Value → Shared → Prop} {s : Shared} {K : PySem.W.Frag} {x C L f : Addr} {h₀ : Heap} {m : Str → Option Value} {ox : Obj} {od : Option Obj} {name : Str} {b tb : Value}
theorem ifBound_B {id : String} {args : List Value} {Q : Option Value → Shared → Prop} (X : K.In s.heap) (I : PySem.W.InstAt s.heap x ox C od) (hs : PySem.W.findIn K (.ref C) name = some (some (.builtin id))) (hb : ∀ self, bindSpecial (.builtin id) self = pure (.builtin id, [self]))
    (h : wpAny M A (call (.builtin id) (.ref x :: args)) (fun v => Q (some v)) E s) : wpAny M A (callSpecialIfBound? (.ref x) name args) Q E s := by
  simp only [callSpecialIfBound?, bindSpecialIfBound?]
  refine wpAny_holding (wpAny_bind (wpAny_bind (wpAny_bind (I.type.here ((PySem.W.looks_findIn X hs).here ?_)))))
  refine wpAny_bind (wpAny_askSetting (wpAny_ite ?_))
  have fin : wpAny M A (call (.builtin id) ([.ref x] ++ args) >>= fun v => pure (some v)) Q E s := wpAny_bind (wpAny_mono h (fun v s' h' => wpAny_pure h') fun _ _ h' => h')
  split
  · exact wpAny_bind ((PySem.W.Looks.of_pure (hb _)).here (wpAny_pure (by exact fin)))
  · exact wpAny_tryCatch (wpAny_bind ((PySem.W.Looks.of_pure (hb _)).here (wpAny_pure (by exact fin))))
open Builtin in
theorem ne_call {Q : Value → Shared → Prop} (hu : A.in1.units < cLine) (X : K.In s.heap) (I : PySem.W.InstAt s.heap x ox C od) (hm : PySem.W.mroIn K C (.type "object") = some true) (hr : PySem.W.findIn K (.ref C) "__eq__" = some (some (.ref f))) (hf : PySem.W.isFn K (.ref f) = true)
    (h : wpAny (model prog w) A.in1 (call (.ref f) [.ref x, b]) (fun v s' => ∃ c, v = .bool c ∧ Q (.bool (!c)) s') E s) : wpAny (model prog w) A (call (.builtin "object.__ne__") [.ref x, b]) Q E s := by
  refine wpAny_call (codeAny_call_builtin PySem.F.cmp_object.ne.plain PySem.F.cmpEntry_ne (PySem.W.check_slot (i := "object.__ne__") (owner := "object") (n := "__ne__") (by decide +kernel) (by decide +kernel) (I.type.andThen (PySem.W.looks_mroIn X hm)) (PySem.F.cmpArgs_ne _ _) ?_))
  unfold Builtin.«object.__ne__»
  refine wpAny_bind (m := slotArgs "__ne__" 1 _) (wpAny_pure ?_)
  refine wpAny_bind (m := cRoomFor _ _) (wpAny_cRoomFor hu ?_)
  refine wpAny_bind (m := callSpecialIfBound? (.ref x) (Str.ofString "__eq__") _) (PySem.W.ifBound_K X I hr hf (wpAny_mono h (fun r s' hq => ?_) fun _ _ y => y))
  obtain ⟨c, rfl, q⟩ := hq
  refine wpAny_bind (m := truthy (.bool c)) (wpAny_truthy_bool ?_)
  exact wpAny_pure q
theorem ne_K {Q : Value → Shared → Prop} (hu : A.units < cLine) (hu1 : A.in1.units < cLine) (F : Fr h₀ L s.heap m) (X₀ : K.In h₀) (I : PySem.W.InstAt s.heap x ox C od) (hb : PySem.W.Looks (model prog w) s.heap (typeOf b) tb) (hn : PySem.W.notFirst K C tb = true)
    (hne : PySem.W.findIn K (.ref C) "__ne__" = some (some (.builtin "object.__ne__"))) (hm : PySem.W.mroIn K C (.type "object") = some true) (hr : PySem.W.findIn K (.ref C) "__eq__" = some (some (.ref f))) (hf : PySem.W.isFn K (.ref f) = true)
    (h : wpAny (model prog w) A.in1 (call (.ref f) [.ref x, b]) (fun v s' => ∃ c, v = .bool c ∧ Q (.bool (!c)) s') E s) : wpAny (model prog w) A (richCompare .NotEq (.ref x) b) Q E s := by
  have X := X₀.keeps F.keep
  have one : wpAny (model prog w) A (tryCompare (.ref x) (cmpInfo .NotEq).2.1 b) (fun r s' => ∃ v, r = some v ∧ Q v s') E s := by
    unfold tryCompare
    refine wpAny_bind (ifBound_B X I hne PySem.F.cmp_object.ne.bind (ne_call hu1 X I hm hr hf (wpAny_mono h (fun v s' hv => ?_) fun _ _ e => e)))
    obtain ⟨c, rfl, q⟩ := hv
    exact ⟨c, rfl, wpAny_pure ⟨_, rfl, q⟩⟩
  unfold richCompare
  simp only [oneThing_ref]
  refine wpAny_holding (wpAny_bind (wpAny_cRoomFor hu ?_))
  refine wpAny_bind (I.type.here (wpAny_bind (hb.here ?_)))
  split
  · rename_i q
    have e : PySem.W.subIn K tb (.ref C) = some false := by
      rcases Bool.or_eq_true_iff.mp hn with e | e
      · rw [beq_iff_eq.mp e] at q; simp at q
      · exact beq_iff_eq.mp e
    refine wpAny_bind ((PySem.W.looks_subIn X e).here ?_)
    simp only [Bool.false_eq_true, if_false]
    refine wpAny_bind (wpAny_mono one (fun r s' z => ?_) fun _ _ e => e)
    obtain ⟨v, rfl, hq⟩ := z
    exact wpAny_pure hq
  · refine wpAny_bind (wpAny_pure ?_)
    simp only [Bool.false_eq_true, if_false]
    refine wpAny_bind (wpAny_mono one (fun r s' z => ?_) fun _ _ e => e)
    obtain ⟨v, rfl, hq⟩ := z
    exact wpAny_pure hq
end
section
variable {X : Cx} {C f : Addr} {k : Nat} {fd : FuncData} {sp : Sp} {ps : List Str}
theorem run_valsA {A : Around} {pins : List (Addr × Obj)} {σ : L2.St} {H : Hp} {s : Shared} {vs : List V} {us : List Value} {Q : VK} {R : Value → Shared → Prop} {E2 : Value → Shared → Prop} (F : FnOk X.prog X.w X.K X.mg X.base CX0 k f fd ps sp) (hr : Room k A)
    (hE : Env0 X.prog X.w X.K X.mg X.base A X.stack s H) (hb : L2.Binds X.K fd ps []) (I : Inv X pins σ H s) (hv : Vals vs us)
    (h : sp vs H Q E0) (hR : ∀ v u H2 s2, Inv X pins σ H2 s2 → RelV v u → Q v H2 → R u s2) : wpAny (model X.prog X.w) A (call (.ref f) us) R E2 s := by
  have hl : (us ++ []).length = ps.length := by
    rw [List.append_nil, ← hv.length]
    exact F.len _ _ _ _ h
  have hbt := hb s us I.kIn hl
  rw [List.append_nil] at hbt
  refine wpAny_call (codeAny_mono (F.run A X.stack s H ⟨us, []⟩ _ vs Q E0 hr hE hbt hv h) fun r s' hq => ?_)
  cases r with
  | error e => exact hq.elim
  | ok fl =>
    cases fl with
    | ret u =>
      obtain ⟨v, H2, J, rv, q⟩ := I.after hq
      exact hR v u H2 s' J rv q
    | next => exact False.elim hq
    | brk => exact False.elim hq
    | cont => exact False.elim hq
/-- y is of some known class, which does not come first -/
def Beside (K : PySem.W.Frag) (C : Addr) (H : Hp) (y : V) : Prop := ∃ t, TyX K H y t ∧ PySem.W.notFirst K C t = true
theorem op_eqOwn (hs : PySem.W.findIn X.K (.ref C) "__eq__" = some (some (.ref f))) (hf : PySem.W.isFn X.K (.ref f) = true)
    (F : FnOk X.prog X.w X.K X.mg X.base CX0 k f fd ps sp) (hr : Room k X.A) (hb : L2.Binds X.K fd ps []) :
    OpR X (compareOp .Eq) (fun x y H Q => ∃ (a dx : Addr) (fs : List (Str × V)), x = .ref a ∧ H a = some (.ins C dx fs) ∧ Beside X.K C H y ∧ sp [.ref a, y] H (fun v G => ∃ c, v = .bl c ∧ Q (.bl c) G) E0) := by
  intro pins s σ H x y v u Q I rx ry h
  obtain ⟨a, dx, fs, rfl, ha, ⟨t, ty, nf⟩, q⟩ := h
  obtain rfl : v = Value.ref a := rx
  obtain ⟨m, fr⟩ := I.fr
  obtain ⟨_, O, _⟩ := ins_get I.hok ha
  obtain ⟨od, JI, _⟩ := O.look
  obtain ⟨Pk, kx, hP, _⟩ := kit_of I ry ty
  refine PySem.W.cmp_K (op := .Eq) (tb := t) hr.units0 fr I.ok.mod.kin JI (kx.ty _ _ I.kIn hP) nf hs hf (run_vals F hr hb I (show Vals [V.ref a, y] [Value.ref a, u] from .cons rfl (.cons ry .nil)) q fun v u H2 s2 J rv q2 => ?_)
  obtain ⟨c, rfl, q3⟩ := q2
  obtain rfl : u = Value.bool c := rv
  exact ⟨.bl c, H2, J, rfl, q3⟩
theorem op_neOwn (hne : PySem.W.findIn X.K (.ref C) "__ne__" = some (some (.builtin "object.__ne__"))) (hm : PySem.W.mroIn X.K C (.type "object") = some true) (hs : PySem.W.findIn X.K (.ref C) "__eq__" = some (some (.ref f))) (hf : PySem.W.isFn X.K (.ref f) = true)
    (F : FnOk X.prog X.w X.K X.mg X.base CX0 k f fd ps sp) (hr : Room (k + 1) X.A) (hb : L2.Binds X.K fd ps []) :
    OpR X (compareOp .NotEq) (fun x y H Q => ∃ (a dx : Addr) (fs : List (Str × V)), x = .ref a ∧ H a = some (.ins C dx fs) ∧ Beside X.K C H y ∧ sp [.ref a, y] H (fun v G => ∃ c, v = .bl c ∧ Q (.bl (!c)) G) E0) := by
  intro pins s σ H x y v u Q I rx ry h
  obtain ⟨a, dx, fs, rfl, ha, ⟨t, ty, nf⟩, q⟩ := h
  obtain rfl : v = Value.ref a := rx
  obtain ⟨m, fr⟩ := I.fr
  obtain ⟨_, O, _⟩ := ins_get I.hok ha
  obtain ⟨od, JI, _⟩ := O.look
  obtain ⟨Pk, kx, hP, _⟩ := kit_of I ry ty
  refine ne_K (tb := t) hr.units0 hr.in1.units0 fr I.ok.mod.kin JI (kx.ty _ _ I.kIn hP) nf hne hm hs hf (run_valsA F hr.in1 I.env0.in1 hb I (show Vals [V.ref a, y] [Value.ref a, u] from .cons rfl (.cons ry .nil)) q fun v u H2 s2 J rv q2 => ?_)
  obtain ⟨c, rfl, q3⟩ := q2
  obtain rfl : u = Value.bool c := rv
  exact ⟨c, rfl, .bl (!c), H2, J, rfl, q3⟩
end
end Fx
set_option maxHeartbeats 2000000
namespace Fx
open PySem PySem.Spec PyProof.Rows L2 TL
/-! ### choice -/
theorem op_shrU {X : Cx} : OpR X (binaryOp .RShift) (fun x y H Q => ∃ a k : Nat, x = .int (a : Int) ∧ y = .int (k : Int) ∧ Q (.int ((a / 2 ^ k : Nat) : Int)) H) := by
  intro pins s σ H x y v u Q I rx ry h
  obtain ⟨a, k, e1, e2, q⟩ := h
  refine op_shrN pins s σ H x y v u Q I rx ry ⟨(a : Int), k, e1, e2, ?_⟩
  have e : (a : Int) / 2 ^ k = ((a / 2 ^ k : Nat) : Int) := by
    rw [Int.natCast_ediv, Int.natCast_pow] <;> rfl
  rw [e]
  exact q
theorem odd_bit (n s : Nat) : (((n / 2 ^ s % 2 : Nat) : Int) != 0) = n.testBit s := by
  rw [Nat.testBit_eq_decide_div_mod_eq]
  have h := Nat.mod_two_eq_zero_or_one (n / 2 ^ s)
  rcases h with h | h <;> rw [h] <;> rfl
def testR (f g : Fm) (r : List Nat) : Bool := (diffN f g).testBit (bitsR r)
def choiceL (f g : Fm) : Option (List Str) := ((subsI (wordsBoth f g).length).find? (testR f g)).map fun r => r.map fun k => (wordsBoth f g).getD k ""
theorem sum_bits (r : List Nat) : (r.map fun k => ((2 ^ k : Nat) : Int)).sum = (bitsR r : Int) := by
  induction r with
  | nil => rfl
  | cons k r ih =>
    show ((2 ^ k : Nat) : Int) + (r.map fun k => ((2 ^ k : Nat) : Int)).sum = ((2 ^ k + bitsR r : Nat) : Int)
    rw [ih]
    omega
theorem eqV_str (a b : Str) : eqV (.str a) (.str b) = (a == b) := rfl
theorem getD_at {ws : List Str} {k : Nat} (h : k < ws.length) : ws[k]? = some (ws.getD k "") := by
  rw [List.getElem?_eq_getElem h, List.getD_eq_getElem?_getD, List.getElem?_eq_getElem h] <;> rfl
section
variable {P : Program} {w : World} {K : PySem.W.Frag} {mg : Str → Option Value} {base : Heap} {f C CB fA fD fX fS : Addr} {fd fdA fdD fdX fdS : FuncData}
def spChoice (K : PySem.W.Frag) (C CB : Addr) : Sp := fun vs H Q E => ∃ x y : V, vs = [x, y] ∧
  ((∃ f g, ArgF H C x f ∧ ArgF H C y g ∧ WF f ∧ WF g ∧ (post f).length + (post g).length ≤ 4000000 ∧ (wordsBoth f g).length ≤ 16 ∧ (choiceL f g = none → ∀ G, Same H G → Q .non G) ∧
      (∀ l, choiceL f g = some l → ∀ p G, Same H G → H p = none → G p = some (.lst (l.map V.str)) → Q (.ref p) G)) ∨
   (BadArg K C H x ∧ ∀ d G, Same H G → H d = none → G d = some (.xd [("text", x)]) → E (.ref CB) (some d) G) ∨
   (∃ f, ArgF H C x f ∧ BadArg K C H y ∧ ∀ d G, Same H G → H d = none → G d = some (.xd [("text", y)]) → E (.ref CB) (some d) G))
def choiceN : List Str := ["one", "other", "first", "second", "bits", "words", "row", "word"]
theorem sc_choice : FnScope ["one", "other", "first", "second", "bits", "words", "row", "word"] ["one", "other"] (defScope (tp 116)) := ⟨rfl, rfl, rfl, by decide +kernel, rfl, by decide +kernel, by decide +kernel⟩
theorem ok_choice (F : FnT K "choice" 116 f fd) (X : FCls K C) (T : LTxt mg) (strC : PySem.W.kitOne K (.type "str") (.ref C) = some false) (gSum : mg "sum" = none) (gList : mg "list" = none)
    (GA : FnOk P w K mg base (L2.CX P w) 7 fA fdA ["thing"] (spAsX K C CB)) (FA : FnT K "as_formula" 14 fA fdA) (gA : mg "as_formula" = some (.ref fA))
    (GD : FnOk P w K mg base CX0 3 fD fdD ["one", "other"] (spDiff C)) (FD : FnT K "differing" 23 fD fdD) (gD : mg "differing" = some (.ref fD))
    (GX : FnOk P w K mg base CX0 1 fX fdX ["formulas"] (spWords K C)) (FX : FnT K "words_of" 21 fX fdX) (gX : mg "words_of" = some (.ref fX))
    (GS : FnOk P w K mg base CX0 1 fS fdS ["things"] (spSubs K)) (FS : FnT K "subsets" 109 fS fdS) (gS : mg "subsets" = some (.ref fS)) :
    FnOk P w K mg base (L2.CX P w) 8 f fd ["one", "other"] (spChoice K C CB) := by
  have bA : L2.Binds K fdA ["thing"] [] := FA.bindsN fun _ _ _ _ _ _ us hl => match us, hl with | [_], _ => rfl
  have bD : L2.Binds K fdD ["one", "other"] [] := FD.bindsN fun _ _ _ _ _ _ us hl => match us, hl with | [_, _], _ => rfl
  have bX : L2.Binds K fdX ["formulas"] [] := FX.bindsN fun _ _ _ _ _ _ us hl => match us, hl with | [_], _ => rfl
  have bS : L2.Binds K fdS ["things"] [] := FS.bindsN fun _ _ _ _ _ _ us hl => match us, hl with | [_], _ => rfl
  refine F.ok sc_choice (fun vs H Q E h => ?_) (fun cdv A outer s H vs Q E hr h => ⟨_, (
    pss_cons (ps_set (i := 2) sc_choice.nd rfl (Or.inl rfl) (pe_call GA hr rfl gA FA.kp bA .nil (passes_call (E := E) (takes_of rfl rfl rfl rfl) (fun _ _ _ _ h => h)) (pa_cons (pv 0) pa_nil)))
    (pss_cons (ps_set (i := 3) sc_choice.nd rfl (Or.inl rfl) (pe_call GA hr rfl gA FA.kp bA .nil (passes_call (E := E) (takes_of rfl rfl rfl rfl) (fun _ _ _ _ h => h)) (pa_cons (pv 1) pa_nil)))
    (PSs.nox (pss_cons (ps_set (i := 4) sc_choice.nd rfl (Or.inl rfl) (pe_call GD (hr.mono (by decide)) rfl gD FD.kp bD .nil pass0 (pa_cons (pv 2) (pa_cons (pv 3) pa_nil))))
    (pss_cons (ps_set (i := 5) sc_choice.nd rfl (Or.inr rfl) (pe_call GX (hr.mono (by decide)) rfl gX FX.kp bX .nil pass0 (pa_cons (pe_lst (pa_cons (pv 2) (pa_cons (pv 3) pa_nil))) pa_nil)))
    (pss_cons (ps_for PassesOwn.never rfl (pi_list (pe_call GS (hr.mono (by decide)) rfl gS FS.kp bS .nil pass0 (pa_cons (pv 5) pa_nil))) (pg_name (i := 6) sc_choice.nd rfl (Or.inl rfl))
      (pss_one (ps_if (pt_truth (pe_op op_odd (pe_op op_shrU (pv 4) (pe_callB (cr_sum rfl) rfl gSum (by decide +kernel) (pa_cons
          (pe_lc (own := [("word", 7)]) (g := gName 7) (tt := tYes) (te := tOp (fun x y H Q => ∃ a k n : Nat, x = .int (a : Int) ∧ y = .int (k : Int) ∧ a < 2 ^ n ∧ n + k ≤ 134217728 ∧ Q (.int ((a * 2 ^ k : Nat) : Int)) H) (tC (.int 1)) (tBM K "list" (rIndex K) (tVar 5) (tCons (tVar 7) tNil))) rfl sc_choice.nd (pi_tup (pv 6)) (blkOk_by (N := choiceN) (sc := defScope (tp 116)) (by decide +kernel))
            (fun _ _ _ _ _ => pg_name (i := 7) sc_choice.nd rfl (Or.inl rfl)) (fun _ _ _ _ _ => pts_nil)
            (fun _ _ _ _ _ => pe_op op_shlU pe_int (pe_bm PySem.F.plainAttrs_list PySem.F.slot_list_index PySem.F.type_list_index mt_index (pv 5) (pa_cons (pv 7) pa_nil)))) pa_nil))) pe_int) (by intro _; rfl))
        (pss_one (ps_ret (pe_callTy call_list_of rfl gList (by decide +kernel) (pa_cons (pv 6) pa_nil)))) pss_nil)))
    (pss_one (ps_ret pe_non)))))))), ?_⟩)
  · obtain ⟨x, y, rfl, _⟩ := h
    rfl
  · obtain ⟨x, y, rfl, h⟩ := h
    have first : ∀ (G : Hp) (v : V) (f0 : Fm) (Q0 : VK) (E0 : XK), ArgF G C v f0 → (∀ a G2, Same G G2 → FmAt G2 C a (post f0) → Q0 (.ref a) G2) → spAsX K C CB [v] G Q0 E0 := by
      intro G v f0 Q0 E0 ha k0
      rcases ha with ⟨a, rfl, fa⟩ | ⟨z, rfl, hz, hs, hc⟩
      · exact ⟨_, rfl, .inl ⟨a, post f0, rfl, fa, k0 a G (Same.refl G) fa⟩⟩
      · refine ⟨_, rfl, .inr ⟨fun G2 _ => ⟨⟨_, .base (.str z), strC⟩, any_str (Nat.le_trans hz (by decide))⟩, fun y e => by cases e; exact hz, fun e => absurd e hs, fun _ a G2 s2 _ fa => k0 a G2 s2 ?_⟩⟩
        rw [← hc]
        exact fa
    have bad : ∀ (G : Hp) (v : V) (Q0 : VK) (E0 : XK), BadArg K C G v → (∀ d G2, Same G G2 → G d = none → G2 d = some (.xd [("text", v)]) → E0 (.ref CB) (some d) G2) → spAsX K C CB [v] G Q0 E0 := by
      intro G v Q0 E0 hb k0
      exact ⟨_, rfl, .inr ⟨hb.1, hb.2.1, fun _ => k0, fun e => absurd hb.2.2 e⟩⟩
    rcases h with ⟨f0, g0, hx, hy, wf, wg, hl, h16, qn, qs⟩ | ⟨hb, qe⟩ | ⟨f0, hx, hb, qe⟩
    · refine ⟨_, rfl, ?_⟩
      dsimp only [tNil]
      refine first H x f0 _ _ hx fun a G1 s1 fa => ?_
      refine ⟨_, rfl, ?_⟩
      dsimp only [tNil]
      refine first G1 y g0 _ _ (hy.same s1) fun b G2 s2 fb => ?_
      have fa2 := fa.same s2
      refine ⟨_, rfl, _, rfl, a, b, f0, g0, rfl, fa2, fb, wf, wg, hl, h16, fun G3 s3 => ?_⟩
      refine ⟨_, rfl, _, rfl, (by show 2 ≤ sizeLine; decide), fun l hl0 => ?_⟩
      have s4 := same_new hl0 (u := .lst [.ref a, .ref b])
      have e1 : ([post f0, post g0] : List (List Str)).flatten = post f0 ++ post g0 := by simp
      refine ⟨l, _, [post f0, post g0], rfl, SqL.of upd_same, ⟨⟨a, rfl, (fa2.same s3).same s4⟩, ⟨b, rfl, (fb.same s3).same s4⟩, trivial⟩, by rw [e1, List.length_append]; exact hl, fun wd G5 s5 hwd gwd => ?_⟩
      rw [e1] at gwd
      have nd : (wordsBoth f0 g0).Nodup := words_nodup _ [] List.nodup_nil
      have ew : wordsOf (post f0 ++ post g0) = wordsBoth f0 g0 := rfl
      rw [ew] at gwd
      have s05 := ((s1.trans s2).trans (s3.trans s4)).trans s5
      refine ⟨_, rfl, wd, wordsBoth f0 g0, rfl, .inl (SqL.of gwd), h16, fun p G6 us s6 hp gp tp6 => ?_⟩
      have s06 := s05.trans s6
      have hub : us.length = (subsI (wordsBoth f0 g0).length).length := by rw [tp6.1, List.length_map]
      refine ⟨p, rfl, ⟨_, SqL.of gp⟩, ?_⟩
      refine for_list (K := K) (a := p) (xs := us) (fun i σ G => ∃ o6 o7, σ = [some x, some y, some (.ref a), some (.ref b), some (.int (diffN f0 g0 : Nat)), some (.ref wd), o6, o7] ∧ Same G6 G ∧ ∀ r ∈ (subsI (wordsBoth f0 g0).length).take i, testR f0 g0 r = false)
        ⟨none, none, rfl, Same.refl _, fun r hr => by cases hr⟩ (fun i σ G _ h => by
          obtain ⟨_, _, _, h, _⟩ := h
          exact SqL.of (h _ _ gp)) ?_ ?_
      · rintro i u σ G hi ⟨o6, o7, rfl, s7, hno⟩
        obtain ⟨l0, q0, hl0, rfl, gq⟩ := (tp6.same s7).at hi
        obtain ⟨r, hr, rfl⟩ := map_at hl0
        have hasc := subsI_mem.mp (List.mem_of_getElem? hr)
        have hrl := Nat.le_trans (len_start r hasc) (startR_le hasc)
        have gw := (s6.trans s7) _ _ gwd
        refine ⟨_, rfl, _, rfl, q0, rfl, ⟨_, SqT.of gq⟩, fun D hD => ?_⟩
        refine lc_tup (K := K) (a := q0) (xs := strT (wordsBoth f0 g0) r) (fun j G8 => Same G G8 ∧ G8 D = some (.lst (((r.take j).map fun k => ((2 ^ k : Nat) : Int)).map V.int))) ⟨same_new hD, upd_same⟩ (fun j G8 _ h => SqT.of (h.1 _ _ gq)) ?_ ?_
        · rintro j u G8 hj ⟨s8, gD8⟩
          obtain ⟨z, hz, rfl⟩ := str_at hj
          obtain ⟨k, hk, rfl⟩ := map_at hz
          have hkl := hasc.2 k (List.mem_of_getElem? hk)
          refine ⟨rfl, yes_ite ?_⟩
          refine ⟨_, rfl, .inl ⟨rfl, _, SqL.of (s8 _ _ gw)⟩, _, rfl, wd, (wordsBoth f0 g0).map V.str, .str ((wordsBoth f0 g0).getD k ""), k, .str ((wordsBoth f0 g0).getD k ""), rfl, rfl, SqL.of (s8 _ _ gw), rfl, flat_strs _, word_at hkl, by rw [eqV_str, beq_self_eq_true], ?_, ?_⟩
          · intro m z' hm hz'
            obtain ⟨y', hy', rfl⟩ := str_at hz'
            rw [eqV_str]
            refine beq_eq_false_iff_ne.mpr fun e => ?_
            rw [e] at hy'
            have w1 := ixS_at nd hy'
            have w2 := ixS_at nd (getD_at hkl)
            omega
          · refine ⟨1, k, 1, rfl, rfl, by decide, by omega, _, gD8, ?_, ?_, ?_⟩
            · rw [List.length_map, List.length_map]
              have := List.length_take_le' j r
              have line : (4000010 : Nat) ≤ sizeLine := by decide
              omega
            · intro b o hb
              rw [upd_ne (ne_of_none hb hD)]
              exact s8 b o hb
            · rw [upd_same, take_snoc hk, Nat.one_mul, List.map_append, List.map_append] <;> rfl
        · rintro G8 ⟨s8, gD8⟩
          have ef : r.take (strT (wordsBoth f0 g0) r).length = r := by
            unfold strT
            rw [List.length_map, List.length_map, List.take_length]
          rw [ef] at gD8
          have s78 := s7.trans s8
          refine ⟨D, _, rfl, SqL.of gD8, ?_⟩
          rw [sum_bits]
          refine ⟨diffN f0 g0, bitsR r, rfl, rfl, diffN f0 g0 / 2 ^ bitsR r, rfl, rfl, (diffN f0 g0).testBit (bitsR r), (odd_bit _ _).symm, ?_⟩
          cases hb : (diffN f0 g0).testBit (bitsR r) with
          | true =>
            refine iteT ⟨_, rfl, q0, strT (wordsBoth f0 g0) r, rfl, .inr (SqT.of (s8 _ _ gq)), fun l1 hl1 => ?_⟩
            have hfind : (subsI (wordsBoth f0 g0).length).find? (testR f0 g0) = some r := by
              rw [List.find?_eq_some_iff_append]
              have lt := (List.getElem?_eq_some_iff.mp hr).1
              refine ⟨hb, (subsI (wordsBoth f0 g0).length).take i, (subsI (wordsBoth f0 g0).length).drop (i + 1), ?_, fun q hq => by rw [hno q hq]; rfl⟩
              have e2 : (subsI (wordsBoth f0 g0).length).drop i = r :: (subsI (wordsBoth f0 g0).length).drop (i + 1) := by
                rw [List.drop_eq_getElem_cons lt, (List.getElem?_eq_some_iff.mp hr).2]
              rw [← e2, List.take_append_drop]
            have hc : choiceL f0 g0 = some (r.map fun k => (wordsBoth f0 g0).getD k "") := by
              unfold choiceL
              rw [hfind] <;> rfl
            exact qs _ hc l1 _ ((s06.trans s78).trans (same_new hl1)) ((s06.trans s78).free hl1) upd_same
          | false =>
            refine iteF ⟨_, _, rfl, s78, fun q hq => ?_⟩
            rw [take_snoc hr] at hq
            rcases List.mem_append.mp hq with z | z
            · exact hno q z
            · rw [List.mem_singleton.mp z]
              exact hb
      · rintro σ G ⟨o6, o7, rfl, s7, hno⟩
        have ef : (subsI (wordsBoth f0 g0).length).take us.length = subsI (wordsBoth f0 g0).length := by rw [hub, List.take_length]
        rw [ef] at hno
        refine qn ?_ G (s06.trans s7)
        unfold choiceL
        have hfind : (subsI (wordsBoth f0 g0).length).find? (testR f0 g0) = none := by
          rw [List.find?_eq_none]
          intro q hq
          rw [hno q hq]
          exact Bool.false_ne_true
        rw [hfind] <;> rfl
    · refine ⟨_, rfl, ?_⟩
      dsimp only [tNil]
      exact bad H x _ _ hb qe
    · refine ⟨_, rfl, ?_⟩
      dsimp only [tNil]
      refine first H x f0 _ _ hx fun a G1 s1 fa => ?_
      refine ⟨_, rfl, ?_⟩
      dsimp only [tNil]
      exact bad G1 y _ _ (hb.same s1) fun d G2 s2 hd gd => qe d G2 (s1.trans s2) (s1.free hd) gd
end
end Fx
set_option maxHeartbeats 2000000
namespace Fx
open PySem PySem.Spec PyProof.Rows L2 TL
/-! ### the law's words, each once -/
theorem addU_mem {acc : List Str} {s y : Str} : y ∈ addU acc s ↔ y ∈ acc ∨ y = s := by
  unfold addU
  split
  · rename_i h
    obtain ⟨z, hz, e⟩ := List.any_eq_true.mp h
    have e2 := eq_of_beq e
    subst e2
    constructor
    · exact .inl
    · rintro (w | w)
      · exact w
      · rw [w]; exact hz
  · rw [List.mem_append, List.mem_singleton]
theorem uniq_snoc (l : List Str) (x : Str) : uniq (l ++ [x]) = addU (uniq l) x := by
  unfold uniq
  rw [List.foldl_append] <;> rfl
theorem uniq_mem : ∀ (l acc : List Str) (y : Str), y ∈ l.foldl addU acc ↔ y ∈ acc ∨ y ∈ l
  | [], acc, y => by simp
  | x :: l, acc, y => by
    show y ∈ l.foldl addU (addU acc x) ↔ _
    rw [uniq_mem l, addU_mem, List.mem_cons, or_assoc]
theorem any_mem (l : List Str) (s : Str) : (l.any fun y => y == s) = decide (s ∈ l) := by
  by_cases h : s ∈ l
  · rw [decide_eq_true h]
    exact List.any_eq_true.mpr ⟨s, h, beq_self_eq_true s⟩
  · rw [decide_eq_false h]
    cases e : l.any fun y => y == s with
    | false => rfl
    | true =>
      obtain ⟨y, hy, e2⟩ := List.any_eq_true.mp e
      rw [eq_of_beq e2] at hy
      exact absurd hy h
def notIn (acc : List Str) (s : Str) : Bool := !(acc.any fun y => y == s)
theorem snoc_indS {C : List Str → Prop} (h0 : C []) (h1 : ∀ r k, C r → C (r ++ [k])) (r : List Str) : C r := by
  have w : ∀ q : List Str, C q.reverse := fun q => by
    induction q with
    | nil => exact h0
    | cons a q ih =>
      rw [List.reverse_cons]
      exact h1 _ a ih
  have z := w r.reverse
  rwa [List.reverse_reverse] at z
theorem addU_more (acc l : List Str) : l.foldl addU acc = acc ++ (uniq l).filter (notIn acc) := by
  refine snoc_indS (C := fun l => l.foldl addU acc = acc ++ (uniq l).filter (notIn acc)) (by simp [uniq]) (fun l x ih => ?_) l
  rw [List.foldl_append]
  show addU (l.foldl addU acc) x = _
  rw [uniq_snoc, ih]
  have hm : x ∈ acc ++ (uniq l).filter (notIn acc) ↔ x ∈ acc ∨ x ∈ uniq l := by
    rw [List.mem_append, List.mem_filter]
    constructor
    · rintro (h | h)
      · exact .inl h
      · exact .inr h.1
    · rintro (h | h)
      · exact .inl h
      · by_cases c : x ∈ acc
        · exact .inl c
        · refine .inr ⟨h, ?_⟩
          unfold notIn
          rw [any_mem, decide_eq_false c]
          rfl
  unfold addU
  rw [any_mem, any_mem]
  by_cases h1 : x ∈ uniq l
  · rw [decide_eq_true h1, if_pos rfl, decide_eq_true (hm.mpr (.inr h1)), if_pos rfl]
  · rw [decide_eq_false h1, if_neg Bool.false_ne_true, List.filter_append]
    by_cases h2 : x ∈ acc
    · have e : ([x] : List Str).filter (notIn acc) = [] := by
        have n : notIn acc x = false := by
          unfold notIn
          rw [any_mem, decide_eq_true h2]
          rfl
        simp [n]
      rw [decide_eq_true (hm.mpr (.inl h2)), if_pos rfl, e, List.append_nil]
    · have e : ([x] : List Str).filter (notIn acc) = [x] := by
        have n : notIn acc x = true := by
          unfold notIn
          rw [any_mem, decide_eq_false h2]
          rfl
        simp [n]
      have nm : ¬ x ∈ acc ++ (uniq l).filter (notIn acc) := fun z => by
        rcases hm.mp z with z | z
        · exact h2 z
        · exact h1 z
      rw [decide_eq_false nm, if_neg Bool.false_ne_true, e, List.append_assoc]
theorem uniq_len : ∀ (l acc : List Str), (l.foldl addU acc).length ≤ acc.length + l.length
  | [], _ => Nat.le_refl _
  | x :: l, acc => by
    have w1 := uniq_len l (addU acc x)
    have w2 : (addU acc x).length ≤ acc.length + 1 := by
      unfold addU
      split
      · omega
      · rw [List.length_append, List.length_singleton]
        omega
    show (l.foldl addU (addU acc x)).length ≤ acc.length + (l.length + 1)
    omega
theorem kind_word : ∀ k : Bool, (kindOf k == "word") = false := by decide +kernel
theorem kind_not : ∀ k : Bool, (kindOf k == "not") = false := by decide +kernel
theorem in_ao (z : Str) : (if (false : Bool) = true then !inV (.str z) [.str "and", .str "or"] else inV (.str z) [.str "and", .str "or"]) = ((["and", "or"] : List Str).any fun y => y == z) := in_val z ["and", "or"]
theorem filt_snoc {l : List Str} {i : Nat} {x : Str} {p : Str → Bool} (h : l[i]? = some x) : (l.take (i + 1)).filter p = if p x = true then (l.take i).filter p ++ [x] else (l.take i).filter p := by
  rw [take_snoc h, List.filter_append]
  by_cases c : p x = true
  · rw [if_pos c]
    simp [c]
  · rw [if_neg c]
    simp [c]
section
variable {P : Program} {w : World} {K : PySem.W.Frag} {mg : Str → Option Value} {base : Heap} {f : Addr} {fd : FuncData}
def spLWords (n : Nat) : Sp := fun vs H Q _ => ∃ (v : V) (t : LT), vs = [v] ∧ TreeAt H t v ∧ depT t < n ∧ sizT t ≤ 100000 ∧ ∀ p G, Same H G → H p = none → G p = some (.lst ((uniq (leavT t)).map V.str)) → Q (.ref p) G
theorem sc_lwords : FnScope ["_law_tree_here", "_law_out", "_law_part", "_law_word"] ["_law_tree_here"] (defScope (tp 136)) := ⟨rfl, rfl, rfl, by decide +kernel, rfl, by decide +kernel, by decide +kernel⟩
/-- a test of the tree's head -/
theorem rd_head {σ : L2.St} {H : Hp} {Q : Bool → Hp → Prop} {t : LT} {v : V} {z : Str} {b : Bool} (hσ : σ[0]? = some (some v)) (tr : TreeAt H t v) (e : (headOf t == z) = b) (q : Q b H) :
    tTest (tOp rEq (tOp (rIxT K) (tVar 0) (tC (.int 0))) (tC (.str z))) σ H Q := by
  obtain ⟨p, rest, rfl, hp⟩ := treeHead tr
  refine ⟨_, hσ, p, _, 0, .str (headOf t), rfl, rfl, SqT.of hp, atI_zero, rfl, b, ?_, q⟩
  rw [hE t z b e]
theorem base_lwords (F : FnT K "_law_words_of" 136 f fd) : FnOk P w K mg base CX0 1 f fd ["_law_tree_here"] (spLWords 0) := by
  refine F.ok sc_lwords (fun vs H Q E h => ?_) (fun cdv A outer s H vs Q E hr h => ?_)
  · obtain ⟨v, t, rfl, _⟩ := h
    rfl
  · obtain ⟨v, t, rfl, tr, hd, _⟩ := h
    exact absurd hd (Nat.not_lt_zero _)
theorem step_lwords (F : FnT K "_law_words_of" 136 f fd) (gF : mg "_law_words_of" = some (.ref f)) (n : Nat) (IH : FnOk P w K mg base CX0 (n + 1) f fd ["_law_tree_here"] (spLWords n)) : FnOk P w K mg base CX0 (n + 1 + 1) f fd ["_law_tree_here"] (spLWords (n + 1)) := by
  have bF : L2.Binds K fd ["_law_tree_here"] [] := F.bindsN fun _ _ _ _ _ _ us hl => match us, hl with | [_], _ => rfl
  refine F.ok sc_lwords (fun vs H Q E h => ?_) (fun cdv A outer s H vs Q E hr h => ⟨_, PSs.nox (pss_cons (ps_if (pt_cmpR op_eq (pe_ix ix_tup (pv 0) pe_int (fun _ _ => rfl)) pe_str (nomark _)) (pss_one (ps_ret (pe_lst (pa_cons (pe_ix ix_tup (pv 0) pe_int (fun _ _ => rfl)) pa_nil)))) pss_nil)
      (pss_cons (ps_if (pt_cmpR op_eq (pe_ix ix_tup (pv 0) pe_int (fun _ _ => rfl)) pe_str (nomark _)) (pss_one (ps_ret (pe_call IH hr rfl gF F.kp bF .nil pass0 (pa_cons (pe_ix ix_tup (pv 0) pe_int (fun _ _ => rfl)) pa_nil)))) pss_nil)
      (pss_cons (ps_set (i := 1) sc_lwords.nd rfl (Or.inr rfl) (pe_lst pa_nil))
      (pss_cons (ps_for PassesOwn.never rfl (pi_list (pe_ifExp (pt_cmpR op_in_seq (pe_ix ix_tup (pv 0) pe_int (fun _ _ => rfl)) (pe_tup (pa_cons pe_str (pa_cons pe_str pa_nil))) (by rfl)) (pe_ix ix_tup (pv 0) pe_int (fun _ _ => rfl)) (pe_lst pa_nil))) (pg_name (i := 2) sc_lwords.nd rfl (Or.inl rfl))
        (pss_one (ps_expr (pe_bm PySem.F.plainAttrs_list PySem.F.slot_list_extend PySem.F.type_list_extend mt_extend (pv 1) (pa_cons
          (pe_lc (own := [("_law_word", 3)]) (g := gName 3) (tt := tTest (tOp (rIn K true) (tVar 3) (tVar 1))) (te := tVar 3) rfl sc_lwords.nd (pi_list (pe_call IH hr rfl gF F.kp bF .nil pass0 (pa_cons (pv 2) pa_nil))) (blkOk_by (N := ["_law_tree_here", "_law_out", "_law_part", "_law_word"]) (sc := defScope (tp 136)) (by decide +kernel))
            (fun _ _ _ _ _ => pg_name (i := 3) sc_lwords.nd rfl (Or.inl rfl)) (fun _ _ _ _ _ => pts_one (pt_cmpR op_notIn_seq (pv 3) (pv 1) (by rfl))) (fun _ _ _ _ _ => pv 3)) pa_nil)))))
      (pss_one (ps_ret (pv 1))))))), ?_⟩)
  · obtain ⟨v, t, rfl, _⟩ := h
    rfl
  · obtain ⟨v, t, rfl, tr, hd, hs, q⟩ := h
    have line : (200000 : Nat) ≤ sizeLine := by decide
    cases t with
    | word z =>
      refine rd_head rfl tr (show (("word" : Str) == "word") = true by decide +kernel) (iteT ?_)
      obtain ⟨p, rfl, hp⟩ := tr
      exact ⟨_, rfl, p, _, 1, .str z, rfl, rfl, SqT.of hp, rfl, (by show 1 ≤ sizeLine; decide), fun o ho => q o _ (same_new ho) ho upd_same⟩
    | cst b =>
      refine rd_head rfl tr (by cases b <;> decide +kernel) (iteF ?_)
      refine rd_head rfl tr (by cases b <;> decide +kernel) (iteF ?_)
      obtain ⟨p, rfl, hp⟩ := tr
      refine ⟨Nat.zero_le _, fun o ho => ?_⟩
      have so := same_new ho (u := .lst [])
      refine ⟨_, rfl, p, _, 0, .str (cstOf b), rfl, rfl, SqT.of (so _ _ hp), atI_zero, (by show 2 ≤ sizeLine; decide), fun g hg => ⟨g, [.str "and", .str "or"], rfl, .inr (SqT.of upd_same), rfl, rfl, _, rfl, ?_⟩⟩
      rw [in_ao, show ((["and", "or"] : List Str).any fun y => y == cstOf b) = false by cases b <;> decide +kernel]
      have s2 := so.trans (same_new hg (u := .tup [.str "and", .str "or"]))
      have go := (same_new hg (u := .tup [.str "and", .str "or"])) _ _ (upd_same (H := H) (a := o) (o := .lst []))
      refine iteF ⟨Nat.zero_le _, fun e he => ?_⟩
      have se := same_new he (u := .lst [])
      refine ⟨e, rfl, ⟨_, SqL.of upd_same⟩, for_list (K := K) (a := e) (xs := [])
        (fun i σ F => ∃ o2 o3, σ = [some (.ref p), some (.ref o), o2, o3] ∧ Same H F ∧ F o = some (.lst []) ∧ F e = some (.lst []))
        ⟨none, none, rfl, s2.trans se, se _ _ go, upd_same⟩ (fun i σ F _ h => by
          obtain ⟨_, _, _, _, _, h⟩ := h
          exact SqL.of h) ?_ ?_⟩
      · intro i x σ F hi
        simp at hi
      · rintro σ F ⟨o2, o3, rfl, s1, g1, _⟩
        exact ⟨_, rfl, q o F s1 ho g1⟩
    | neg t =>
      refine rd_head rfl tr (show (("not" : Str) == "word") = false by decide +kernel) (iteF ?_)
      refine rd_head rfl tr (show (("not" : Str) == "not") = true by decide +kernel) (iteT ?_)
      obtain ⟨p, u, rfl, hp, tu⟩ := tr
      have w2 : depT (.neg t) = depT t + 1 := rfl
      have w3 : sizT (.neg t) = sizT t + 1 := rfl
      exact ⟨_, rfl, p, _, 1, u, rfl, rfl, SqT.of hp, rfl, u, t, rfl, tu, by omega, by omega, fun p G s n g => q p G s n g⟩
    | nary k ts =>
      refine rd_head rfl tr (kind_word k) (iteF ?_)
      refine rd_head rfl tr (kind_not k) (iteF ?_)
      obtain ⟨p, l2, us, rfl, hp, hl, tus⟩ := tr
      refine ⟨Nat.zero_le _, fun o ho => ?_⟩
      have so := same_new ho (u := .lst [])
      refine ⟨_, rfl, p, _, 0, .str (kindOf k), rfl, rfl, SqT.of (so _ _ hp), atI_zero, (by show 2 ≤ sizeLine; decide), fun g hg => ⟨g, [.str "and", .str "or"], rfl, .inr (SqT.of upd_same), rfl, rfl, _, rfl, ?_⟩⟩
      rw [in_ao, show ((["and", "or"] : List Str).any fun y => y == kindOf k) = true by cases k <;> decide +kernel]
      have s2 := so.trans (same_new hg (u := .tup [.str "and", .str "or"]))
      have go := (same_new hg (u := .tup [.str "and", .str "or"])) _ _ (upd_same (H := H) (a := o) (o := .lst []))
      have w2 : depT (.nary k ts) = depL ts + 1 := rfl
      have w3 : sizT (.nary k ts) = sizL ts + 1 := rfl
      have w4 := tus.len
      refine iteT ⟨_, rfl, p, _, 1, .ref l2, rfl, rfl, SqT.of (s2 _ _ hp), rfl, l2, rfl, ⟨_, SqL.of (s2 _ _ hl)⟩, for_list (K := K) (a := l2) (xs := us)
        (fun i σ F => ∃ o2 o3, σ = [some (.ref p), some (.ref o), o2, o3] ∧ Same H F ∧ F o = some (.lst ((uniq (leavL (ts.take i))).map V.str)))
        ⟨none, none, rfl, s2, go⟩ (fun i σ F _ h => by
          obtain ⟨_, _, _, h, _⟩ := h
          exact SqL.of (h _ _ hl)) ?_ ?_⟩
      · rintro i x σ F hi ⟨o2, o3, rfl, s1, g1⟩
        obtain ⟨t, ht, tx⟩ := tus.at hi
        have w5 := depL_mem ht
        have w6 := sizL_take ht
        have w7 := leavL_len (ts.take i)
        have w8 := leavT_len t
        have w9 := uniq_len (leavL (ts.take i)) []
        have w10 := uniq_len (leavT t) []
        simp only [List.length_nil, Nat.zero_add] at w9 w10
        have en : uniq (leavL (ts.take (i + 1))) = uniq (leavL (ts.take i)) ++ (uniq (leavT t)).filter (notIn (uniq (leavL (ts.take i)))) := by
          rw [take_snoc ht, leavL_app]
          show (leavL (ts.take i) ++ (leavT t ++ [])).foldl addU [] = _
          rw [List.append_nil, List.foldl_append, addU_more] <;> rfl
        have w11 : (uniq (leavL (ts.take i))).length ≤ 100000 := by
          have : (uniq (leavL (ts.take i))).length ≤ (leavL (ts.take i)).length := w9
          omega
        have w12 : (uniq (leavT t)).length ≤ 100000 := by
          have : (uniq (leavT t)).length ≤ (leavT t).length := w10
          omega
        rw [en]
        generalize uniq (leavL (ts.take i)) = acc at g1 w11 ⊢
        refine ⟨_, rfl, .inl ⟨rfl, _, SqL.of g1⟩, ?_⟩
        refine ⟨_, rfl, x, t, rfl, treeAt_same s1 tx, by omega, by omega, fun p3 F3 s3 n3 g3 => ?_⟩
        generalize uniq (leavT t) = ws at g3 w12 ⊢
        refine ⟨p3, rfl, ⟨_, SqL.of g3⟩, fun D hD => ?_⟩
        refine lc_list (K := K) (a := p3) (xs := ws.map V.str) (fun j F4 => Same F3 F4 ∧ F4 D = some (.lst (((ws.take j).filter (notIn acc)).map V.str))) ⟨same_new hD, upd_same⟩ (fun j F4 _ h => SqL.of (h.1 _ _ g3)) ?_ ?_
        · rintro j y F4 hj ⟨s4, gD⟩
          obtain ⟨z, hz, rfl⟩ := str_at hj
          have g14 := s4 _ _ (s3 _ _ g1)
          refine ⟨rfl, _, rfl, _, rfl, o, acc.map V.str, rfl, .inl (SqL.of g14), rfl, flat_strs _, _, rfl, ?_⟩
          rw [notin_val]
          have hf := filt_snoc (p := notIn acc) hz
          cases c : acc.any fun y => y == z with
          | true =>
            have e : notIn acc z = false := by unfold notIn; rw [c] <;> rfl
            rw [e, if_neg Bool.false_ne_true] at hf
            refine iteF ⟨s4, ?_⟩
            rw [hf]
            exact gD
          | false =>
            have e : notIn acc z = true := by unfold notIn; rw [c] <;> rfl
            rw [e, if_pos rfl] at hf
            refine iteT ⟨_, rfl, _, gD, ?_, ?_, ?_⟩
            · rw [List.length_map]
              have a1 := List.length_filter_le (notIn acc) (ws.take j)
              have a2 := List.length_take_le' j ws
              omega
            · intro b u hb
              rw [upd_ne (ne_of_none hb hD)]
              exact s4 b u hb
            · rw [upd_same, hf, List.map_append] <;> rfl
        · rintro F4 ⟨s4, gD⟩
          rw [List.length_map, List.take_length] at gD
          have g14 := s4 _ _ (s3 _ _ g1)
          have a1 := List.length_filter_le (notIn acc) ws
          refine ⟨o, D, _, _, rfl, rfl, g14, gD, by rw [List.length_map, List.length_map]; omega, _, _, rfl, ?_, ?_⟩
          · intro b u hb
            rw [upd_ne (ne_of_none hb ho)]
            exact s4 _ _ (s3 _ _ (s1 _ _ hb))
          · rw [upd_same, List.map_append]
      · rintro σ F ⟨o2, o3, rfl, s1, g1⟩
        rw [w4, List.take_length] at g1
        exact ⟨_, rfl, q o F s1 ho g1⟩
end
end Fx
set_option maxHeartbeats 2000000
namespace Fx
open PySem PySem.Spec PyProof.Rows L2 TL
/-! ### a tree written otherwise -/
mutual
def dmT : LT → LT
  | .nary k ts => .neg (.nary (!k) (dmL ts).reverse)
  | .word z => .word z
  | .cst b => .cst b
  | .neg t => .neg t
def dmL : List LT → List LT
  | [] => []
  | t :: ts => .neg (dmT t) :: dmL ts
end
theorem dmL_map : ∀ ts, dmL ts = ts.map fun t => .neg (dmT t)
  | [] => rfl
  | t :: ts => congrArg (LT.neg (dmT t) :: ·) (dmL_map ts)
def turnT (w : Int) (t : LT) : LT := if w = 0 then .neg (.neg t) else if w = 1 then .nary false [t, .cst false, .nary true [t, .word "extra"]] else dmT t
/-- B2 is B and more, which is new since H -/
structure Grow (B B2 H : Hp) : Prop where
  sm : Same B B2
  old : ∀ b, H b ≠ none → B2 b = B b
theorem Grow.refl (B H : Hp) : Grow B B H := ⟨Same.refl B, fun _ _ => rfl⟩
theorem sub_none {B F : Hp} {p : Addr} (s : Same B F) (h : F p = none) : B p = none := by
  cases e : B p with
  | none => rfl
  | some o =>
    rw [s _ _ e] at h
    cases h
theorem Grow.add {B B2 H F : Hp} {p : Addr} {o : HO} (g : Grow B B2 H) (sF : Same H F) (s2 : Same B2 F) (hp : F p = none) : Grow B (upd B2 p o) H := by
  have h2 := sub_none s2 hp
  refine ⟨fun b u e => ?_, fun b hb => ?_⟩
  · rw [upd_ne (ne_of_none (g.sm _ _ e) h2)]
    exact g.sm _ _ e
  · have ne : b ≠ p := fun e => hb (by rw [e]; exact sub_none sF hp)
    rw [upd_ne ne]
    exact g.old b hb
theorem Grow.trans {B B2 B3 H F : Hp} (g : Grow B B2 H) (sF : Same H F) (g2 : Grow B2 B3 F) : Grow B B3 H := ⟨g.sm.trans g2.sm, fun b hb => by
  have hb2 : F b ≠ none := by
    cases e : H b with
    | none => exact absurd e hb
    | some o =>
      rw [sF _ _ e]
      intro z
      cases z
  rw [g2.old b hb2, g.old b hb]⟩
theorem same_both {B F : Hp} {p : Addr} {o : HO} (s : Same B F) : Same (upd B p o) (upd F p o) := fun b u e => by
  by_cases c : b = p
  · rw [c, upd_same] at e ⊢
    exact e
  · rw [upd_ne c] at e ⊢
    exact s _ _ e
theorem trees_rev {H : Hp} : ∀ {ts : List LT} {us : List V}, TreesAt H ts us → TreesAt H ts.reverse us.reverse
  | [], us, h => by
    have e : us = [] := h
    subst e
    exact rfl
  | t :: ts, _, ⟨u, r, e, h1, h2⟩ => by
    subst e
    rw [List.reverse_cons, List.reverse_cons]
    exact (trees_rev h2).snoc h1
theorem Grow.put {B B2 H : Hp} {p : Addr} {o : HO} (g : Grow B B2 H) (h2 : B2 p = none) (hp : H p = none) : Grow B (upd B2 p o) H := by
  refine ⟨fun b u e => ?_, fun b hb => ?_⟩
  · rw [upd_ne (ne_of_none (g.sm _ _ e) h2)]
    exact g.sm _ _ e
  · have ne : b ≠ p := fun e => hb (by rw [e]; exact hp)
    rw [upd_ne ne]
    exact g.old b hb
/-- where one stands: the heap, and the part that trees may use -/
structure At (B H B2 F : Hp) : Prop where
  sH : Same H F
  s2 : Same B2 F
  g : Grow B B2 H
theorem At.new {B H B2 F : Hp} {p : Addr} {o : HO} (a : At B H B2 F) (hp : F p = none) : At B H (upd B2 p o) (upd F p o) ∧ Same B2 (upd B2 p o) :=
  ⟨⟨a.sH.trans (same_new hp), same_both a.s2, a.g.add a.sH a.s2 hp⟩, same_new (sub_none a.s2 hp)⟩
theorem ite_c {σ : L2.St} {c : Bool} {x y : V} {H : Hp} {Q : VK} (h : Q (if c = true then x else y) H) : if c = true then tC x σ H Q else tC y σ H Q := by
  cases c
  · exact h
  · exact h
section
variable {P : Program} {w : World} {K : PySem.W.Frag} {mg : Str → Option Value} {base : Heap} {f : Addr} {fd : FuncData}
def spTurned (n : Nat) : Sp := fun vs H Q _ => ∃ (v : V) (t : LT) (w : Int) (B : Hp), vs = [v, .int w] ∧ Same B H ∧ TreeAt B t v ∧ depT t < n ∧ sizT t ≤ 100000 ∧ ∀ v2 G B2, Same H G → Same B2 G → Grow B B2 H → TreeAt B2 (turnT w t) v2 → Q v2 G
theorem sc_turned : FnScope ["_law_tree_here", "_law_way", "_law_other", "_law_part"] ["_law_tree_here", "_law_way"] (defScope (tp 137)) := ⟨rfl, rfl, rfl, by decide +kernel, rfl, by decide +kernel, by decide +kernel⟩
theorem base_turned (F : FnT K "_law_turned" 137 f fd) : FnOk P w K mg base CX0 1 f fd ["_law_tree_here", "_law_way"] (spTurned 0) := by
  refine F.ok sc_turned (fun vs H Q E h => ?_) (fun cdv A outer s H vs Q E hr h => ?_)
  · obtain ⟨v, t, w, B, rfl, _⟩ := h
    rfl
  · obtain ⟨v, t, w, B, rfl, _, _, hd, _⟩ := h
    exact absurd hd (Nat.not_lt_zero _)
theorem step_turned (F : FnT K "_law_turned" 137 f fd) (gF : mg "_law_turned" = some (.ref f)) (n : Nat) (IH : FnOk P w K mg base CX0 (n + 1) f fd ["_law_tree_here", "_law_way"] (spTurned n)) : FnOk P w K mg base CX0 (n + 1 + 1) f fd ["_law_tree_here", "_law_way"] (spTurned (n + 1)) := by
  have bF : L2.Binds K fd ["_law_tree_here", "_law_way"] [] := F.bindsN fun _ _ _ _ _ _ us hl => match us, hl with | [_, _], _ => rfl
  refine F.ok sc_turned (fun vs H Q E h => ?_) (fun cdv A outer s H vs Q E hr h => ⟨_, PSs.nox (
      pss_cons (ps_if (pt_cmpR op_eq (pv 1) pe_int (nomark _)) (pss_one (ps_ret (pe_tup (pa_cons pe_str (pa_cons (pe_tup (pa_cons pe_str (pa_cons (pv 0) pa_nil))) pa_nil))))) pss_nil)
      (pss_cons (ps_if (pt_cmpR op_eq (pv 1) pe_int (nomark _)) (pss_one (ps_ret (pe_tup (pa_cons pe_str (pa_cons (pe_lst (pa_cons (pv 0) (pa_cons (pe_tup (pa_cons pe_str pa_nil)) (pa_cons (pe_tup (pa_cons pe_str (pa_cons (pe_lst (pa_cons (pv 0) (pa_cons (pe_tup (pa_cons pe_str (pa_cons pe_str pa_nil))) pa_nil))) pa_nil))) pa_nil)))) pa_nil))))) pss_nil)
      (pss_cons (ps_if (pt_cmpR op_in_seq (pe_ix ix_tup (pv 0) pe_int (fun _ _ => rfl)) (pe_tup (pa_cons pe_str (pa_cons pe_str pa_nil))) (by rfl))
        (pss_cons (ps_set (i := 2) sc_turned.nd rfl (Or.inl rfl) (pe_ifExp (pt_cmpR op_eq (pe_ix ix_tup (pv 0) pe_int (fun _ _ => rfl)) pe_str (nomark _)) pe_str pe_str))
        (pss_one (ps_ret (pe_tup (pa_cons pe_str (pa_cons (pe_tup (pa_cons (pv 2) (pa_cons
          (pe_lc (own := [("_law_part", 3)]) (g := gName 3) (tt := tYes) (te := tTup (tCons (tC (.str "not")) (tCons (tCall (spTurned n) [] E0 (tCons (tVar 3) (tCons (tVar 1) tNil))) tNil))) rfl sc_turned.nd (pi_list (pe_revL (pe_ix ix_tup (pv 0) pe_int (fun _ _ => rfl)))) (blkOk_by (N := ["_law_tree_here", "_law_way", "_law_other", "_law_part"]) (sc := defScope (tp 137)) (by decide +kernel))
            (fun _ _ _ _ _ => pg_name (i := 3) sc_turned.nd rfl (Or.inl rfl)) (fun _ _ _ _ _ => pts_nil)
            (fun _ _ _ _ _ => pe_tup (pa_cons pe_str (pa_cons (pe_call IH hr rfl gF F.kp bF .nil pass0 (pa_cons (pv 3) (pa_cons (pv 1) pa_nil))) pa_nil)))) pa_nil))) pa_nil)))))) pss_nil)
      (pss_one (ps_ret (pv 0)))))), ?_⟩)
  · obtain ⟨v, t, w, B, rfl, _⟩ := h
    rfl
  · obtain ⟨v, t, wy, B, rfl, sB, tr, hd, hs, q⟩ := h
    have line : (200000 : Nat) ≤ sizeLine := by decide
    refine ⟨_, rfl, rfl, _, rfl, ?_⟩
    rw [dec_int]
    have a0 : At B H B H := ⟨Same.refl H, sB, Grow.refl B H⟩
    by_cases c0 : wy = 0
    · subst c0
      refine iteT ⟨_, rfl, (by show 2 ≤ sizeLine; decide), fun p1 hp1 => ⟨(by show 2 ≤ sizeLine; decide), fun p2 hp2 => ?_⟩⟩
      obtain ⟨a1, b1⟩ := a0.new (o := .tup [.str "not", v]) hp1
      obtain ⟨a2, b2⟩ := a1.new (o := .tup [.str "not", .ref p1]) hp2
      exact q (.ref p2) _ _ a2.sH a2.s2 a2.g ⟨p2, .ref p1, rfl, upd_same, p1, v, rfl, b2 _ _ upd_same, treeAt_same (b1.trans b2) tr⟩
    · rw [show (wy == 0) = false from beq_eq_false_iff_ne.mpr c0]
      refine iteF ⟨_, rfl, rfl, _, rfl, ?_⟩
      rw [dec_int]
      by_cases c1 : wy = 1
      · subst c1
        refine iteT ⟨_, rfl, (by show 1 ≤ sizeLine; decide), fun p1 hp1 => ⟨_, rfl, (by show 2 ≤ sizeLine; decide), fun p2 hp2 => ⟨(by show 2 ≤ sizeLine; decide), fun l2 hl2 => ⟨(by show 2 ≤ sizeLine; decide), fun p3 hp3 => ⟨(by show 3 ≤ sizeLine; decide), fun l1 hl1 => ⟨(by show 2 ≤ sizeLine; decide), fun p4 hp4 => ?_⟩⟩⟩⟩⟩⟩
        obtain ⟨a1, b1⟩ := a0.new (o := .tup [.str "none"]) hp1
        obtain ⟨a2, b2⟩ := a1.new (o := .tup [.str "word", .str "extra"]) hp2
        obtain ⟨a3, b3⟩ := a2.new (o := .lst [v, .ref p2]) hl2
        obtain ⟨a4, b4⟩ := a3.new (o := .tup [.str "and", .ref l2]) hp3
        obtain ⟨a5, b5⟩ := a4.new (o := .lst [v, .ref p1, .ref p3]) hl1
        obtain ⟨a6, b6⟩ := a5.new (o := .tup [.str "or", .ref l1]) hp4
        refine q (.ref p4) _ _ a6.sH a6.s2 a6.g ⟨p4, l1, _, rfl, upd_same, b6 _ _ upd_same, v, _, rfl, treeAt_same ((((((b1.trans b2).trans b3).trans b4).trans b5)).trans b6) tr, .ref p1, _, rfl, ⟨p1, rfl, (((((b2.trans b3).trans b4).trans b5)).trans b6) _ _ upd_same⟩, .ref p3, _, rfl, ?_, rfl⟩
        refine ⟨p3, l2, _, rfl, (b5.trans b6) _ _ upd_same, ((b4.trans b5).trans b6) _ _ upd_same, v, _, rfl, treeAt_same ((((((b1.trans b2).trans b3).trans b4).trans b5)).trans b6) tr, .ref p2, _, rfl, ⟨p2, rfl, (((b3.trans b4).trans b5).trans b6) _ _ upd_same⟩, rfl⟩
      · rw [show (wy == 1) = false from beq_eq_false_iff_ne.mpr c1]
        refine iteF ?_
        have et : turnT wy t = dmT t := by
          unfold turnT
          rw [if_neg c0, if_neg c1]
        rw [et] at q
        obtain ⟨p, rest, rfl, hp⟩ := treeHead (treeAt_same sB tr)
        refine ⟨_, rfl, p, _, 0, .str (headOf t), rfl, rfl, SqT.of hp, atI_zero, (by show 2 ≤ sizeLine; decide), fun g hg => ⟨g, [.str "and", .str "or"], rfl, .inr (SqT.of upd_same), rfl, rfl, _, rfl, ?_⟩⟩
        rw [in_ao]
        have sg := same_new hg (u := .tup [.str "and", .str "or"])
        have no : dmT t = t → ((["and", "or"] : List Str).any fun y => y == headOf t) = false → Q (.ref p) (upd H g (.tup [.str "and", .str "or"])) := fun e _ => q (.ref p) _ B sg (sB.trans sg) (Grow.refl B H) (by rw [e]; exact tr)
        cases t with
        | word z =>
          rw [show ((["and", "or"] : List Str).any fun y => y == headOf (.word z)) = false from (by decide +kernel : ((["and", "or"] : List Str).any fun y => y == ("word" : Str)) = false)]
          exact iteF ⟨_, rfl, no rfl (by decide +kernel : ((["and", "or"] : List Str).any fun y => y == ("word" : Str)) = false)⟩
        | cst b =>
          have e : ((["and", "or"] : List Str).any fun y => y == headOf (.cst b)) = false := by cases b <;> decide +kernel
          rw [e]
          exact iteF ⟨_, rfl, no rfl e⟩
        | neg t =>
          rw [show ((["and", "or"] : List Str).any fun y => y == headOf (.neg t)) = false from (by decide +kernel : ((["and", "or"] : List Str).any fun y => y == ("not" : Str)) = false)]
          exact iteF ⟨_, rfl, no rfl (by decide +kernel : ((["and", "or"] : List Str).any fun y => y == ("not" : Str)) = false)⟩
        | nary k ts =>
          clear no
          rw [show ((["and", "or"] : List Str).any fun y => y == headOf (.nary k ts)) = true from (by decide +kernel : ∀ k : Bool, ((["and", "or"] : List Str).any fun y => y == kindOf k) = true) k]
          obtain ⟨p', l2, us, e1, hp1, hl2, tus⟩ := tr
          cases e1
          have w2 : depT (.nary k ts) = depL ts + 1 := rfl
          have w3 : sizT (.nary k ts) = sizL ts + 1 := rfl
          refine iteT ?_
          have hp2 : upd H g (.tup [.str "and", .str "or"]) p = some (.tup [.str (kindOf k), .ref l2]) := sg _ _ (sB _ _ hp1)
          have hl3 : upd H g (.tup [.str "and", .str "or"]) l2 = some (.lst us) := sg _ _ (sB _ _ hl2)
          refine ⟨_, rfl, p, _, 0, .str (kindOf k), rfl, rfl, SqT.of hp2, atI_zero, rfl, _, rfl, ?_⟩
          rw [dec_str]
          refine ite_c ?_
          rw [show (if (kindOf k == ("and" : Str)) = true then V.str "or" else V.str "and") = V.str (kindOf (!k)) by cases k <;> rfl]
          refine ⟨_, rfl, _, rfl, p, _, 1, .ref l2, rfl, rfl, SqT.of hp2, rfl, l2, us, rfl, SqL.of hl3, fun rv hrv => ⟨rv, rfl, ⟨_, SqL.of upd_same⟩, fun D hD => ?_⟩⟩
          have srv := same_new hrv (u := .lst us.reverse)
          have s0 := sg.trans srv
          have tr2 := trees_rev tus
          have htl := tr2.len
          have hDH := s0.free hD
          have hDB : B D = none := sub_none sB hDH
          refine lc_list (K := K) (a := rv) (xs := us.reverse) (fun j F4 => Same (upd (upd H g (.tup [.str "and", .str "or"])) rv (.lst us.reverse)) F4 ∧ ∃ B2 zs, F4 D = some (.lst zs) ∧ Same B2 F4 ∧ B2 D = none ∧ Grow B B2 H ∧ TreesAt B2 (dmL (ts.reverse.take j)) zs)
            ⟨same_new hD, B, [], upd_same, fun b u e => by rw [upd_ne (ne_of_none e hDB)]; exact s0 _ _ (sB _ _ e), hDB, Grow.refl B H, rfl⟩ (fun j F4 _ h => SqL.of (h.1 _ _ upd_same)) ?_ ?_
          · rintro j x F4 hj ⟨s4, B2, zs, gD, sB2, nD, gr, tz⟩
            obtain ⟨t, ht, tx⟩ := tr2.at hj
            have w5 : depT t ≤ depL ts := by
              have hm := List.mem_of_getElem? ht
              rw [List.mem_reverse] at hm
              obtain ⟨i, hi⟩ := List.mem_iff_getElem?.mp hm
              exact depL_mem hi
            have w6 : sizT t ≤ sizL ts := by
              have hm := List.mem_of_getElem? ht
              rw [List.mem_reverse] at hm
              obtain ⟨i, hi⟩ := List.mem_iff_getElem?.mp hm
              have := sizL_take hi
              omega
            have hzl : zs.length ≤ 100000 := by
              have e1 := tz.len
              rw [dmL_map, List.length_map] at e1
              have e2 := List.length_take_le' j ts.reverse
              rw [List.length_reverse] at e2
              have e3 := sizL_len ts
              omega
            refine ⟨rfl, yes_ite ?_⟩
            refine ⟨_, rfl, _, rfl, x, t, wy, B2, rfl, sB2, treeAt_same gr.sm tx, by omega, by omega, fun v2 G B3 s5 sB3 g3 tv => ⟨(by show 2 ≤ sizeLine; decide), fun p5 hp5 => ?_⟩⟩
            have et2 : turnT wy t = dmT t := by
              unfold turnT
              rw [if_neg c0, if_neg c1]
            rw [et2] at tv
            have gD5 := s5 _ _ gD
            have nD3 : B3 D = none := by
              rw [g3.old D (by rw [gD]; intro z; cases z)]
              exact nD
            have np : p5 ≠ D := fun e => by
              rw [e, gD5] at hp5
              cases hp5
            have s45 := s4.trans s5
            have a5 : At B H B3 G := ⟨s0.trans s45, sB3, gr.trans (s0.trans s4) g3⟩
            obtain ⟨a6, b6⟩ := a5.new (o := .tup [.str "not", v2]) hp5
            have gD6 := (same_new hp5 (u := .tup [.str "not", v2])) _ _ gD5
            have nD6 : upd B3 p5 (.tup [.str "not", v2]) D = none := by
              rw [upd_ne np.symm]
              exact nD3
            refine ⟨zs, gD6, by omega, ?_, upd B3 p5 (.tup [.str "not", v2]), zs ++ [.ref p5], upd_same, ?_, nD6, a6.g, ?_⟩
            · intro b u hb
              rw [upd_ne (ne_of_none hb hD)]
              exact (same_new hp5) _ _ (s45 _ _ hb)
            · intro b u hb
              rw [upd_ne (ne_of_none hb nD6)]
              exact a6.s2 _ _ hb
            · rw [take_snoc ht, dmL_map, List.map_append, ← dmL_map]
              exact (treesAt_same (g3.sm.trans b6) tz).snoc ⟨p5, v2, rfl, upd_same, treeAt_same b6 tv⟩
          · rintro F4 ⟨s4, B2, zs, gD, sB2, nD, gr, tz⟩
            rw [htl, List.take_length] at tz
            have a4 : At B H (upd B2 D (.lst zs)) F4 := ⟨s0.trans s4, fun b u e => by
              by_cases c : b = D
              · rw [c, upd_same] at e
                rw [c, gD]
                exact e
              · rw [upd_ne c] at e
                exact sB2 _ _ e, gr.put nD hDH⟩
            have b4 : Same B2 (upd B2 D (.lst zs)) := same_new nD
            refine ⟨(by show 2 ≤ sizeLine; decide), fun p5 hp5 => ⟨(by show 2 ≤ sizeLine; decide), fun p6 hp6 => ?_⟩⟩
            obtain ⟨a5, b5⟩ := a4.new (o := .tup [.str (kindOf (!k)), .ref D]) hp5
            obtain ⟨a6, b6⟩ := a5.new (o := .tup [.str "not", .ref p5]) hp6
            refine q (.ref p6) _ _ a6.sH a6.s2 a6.g ?_
            refine ⟨p6, .ref p5, rfl, upd_same, p5, D, zs, rfl, b6 _ _ upd_same, (b5.trans b6) _ _ upd_same, ?_⟩
            have e : (dmL ts).reverse = dmL ts.reverse := by
              rw [dmL_map, dmL_map, List.map_reverse]
            rw [e]
            exact treesAt_same ((b4.trans b5).trans b6) tz
end
end Fx
set_option maxHeartbeats 2000000
namespace Fx
open PySem PySem.Spec PyProof.Rows L2 TL
/-! ### (size, places) in order -/
def intD (r : List Nat) : List PyData := r.map fun k => .int (k : Nat)
theorem alike_ints : ∀ (r q : List Nat), PySem.W.alikeAll (intD r) (intD q) = true
  | [], _ => by unfold intD; simp [PySem.W.alikeAll]
  | _ :: _, [] => by unfold intD; simp [PySem.W.alikeAll]
  | x :: r, y :: q => by
    have ih := alike_ints r q
    unfold intD at ih ⊢
    rw [List.map_cons, List.map_cons, PySem.W.alikeAll, ih] <;> rfl
theorem eqv_int (x y : Int) : PyData.eqv (.int x) (.int y) = (x == y) := by simp [PyData.eqv]
theorem eqv_ints : ∀ (r q : List Nat), PyData.eqvAll (intD r) (intD q) = decide (r = q)
  | [], [] => by unfold intD; simp [PyData.eqvAll]
  | [], _ :: _ => by unfold intD; simp [PyData.eqvAll]
  | _ :: _, [] => by unfold intD; simp [PyData.eqvAll]
  | x :: r, y :: q => by
    have ih := eqv_ints r q
    unfold intD at ih ⊢
    rw [List.map_cons, List.map_cons, PySem.W.eqv_all_cons, ih, eqv_int]
    by_cases e : x = y
    · subst e
      simp
    · have e2 : ((x : Int) == (y : Int)) = false := beq_eq_false_iff_ne.mpr fun z => e (Int.ofNat.inj z)
      rw [e2, Bool.false_and]
      exact (decide_eq_false (fun z => e (by injection z))).symm
theorem lex_ints : ∀ (r q : List Nat), PyProof.Rows.lexLt itemOrd (PySem.W.keyToksAll (intD r)) (PySem.W.keyToksAll (intD q)) = lexB r q
  | [], [] => by unfold intD; exact lex_self (O := itemOrd) _ [] []
  | [], y :: q => by
    unfold intD
    rw [List.map_cons, PySem.W.toks_all_cons]
    exact lex_diff (O := itemOrd) (by simp)
  | x :: r, [] => by
    unfold intD
    rw [List.map_cons, PySem.W.toks_all_cons]
    exact lex_diff (O := itemOrd) (by simp)
  | x :: r, y :: q => by
    have ih := lex_ints r q
    unfold intD at ih ⊢
    rw [List.map_cons, List.map_cons]
    have al : PySem.W.alike (.int (x : Nat)) (.int (y : Nat)) = true := rfl
    by_cases e : x = y
    · subst e
      rw [PySem.W.dataLt_all_yes al (by rw [eqv_int]; simp), ih]
      show _ = (if x = x then lexB r q else _)
      rw [if_pos rfl]
    · rw [PySem.W.dataLt_all_no al (by rw [eqv_int]; exact beq_eq_false_iff_ne.mpr fun z => e (Int.ofNat.inj z)), PySem.W.dataLt_int]
      show _ = (if x = y then lexB r q else decide (x < y))
      rw [if_neg e]
      by_cases c : x < y
      · rw [decide_eq_true c, decide_eq_true (by omega)]
      · rw [decide_eq_false c, decide_eq_false (by omega)]
def sizD (r : List Nat) : PyData := .tuple [.int (r.length : Nat), .list (intD r)]
theorem siz_alike (r q : List Nat) : PySem.W.alike (sizD r) (sizD q) = true := by
  unfold sizD
  simp only [PySem.W.alike, PySem.W.alikeAll, Bool.true_and, Bool.and_true]
  exact alike_ints r q
theorem siz_lt (r q : List Nat) : PySem.W.dataLt (sizD r) (sizD q) = lt2 r q := by
  unfold sizD lt2
  rw [PySem.W.dataLt_tuple]
  have al : PySem.W.alike (.int (r.length : Nat)) (.int (q.length : Nat)) = true := rfl
  by_cases e : r.length = q.length
  · rw [if_pos e]
    have ee : PyData.eqv (.int (r.length : Nat)) (.int (q.length : Nat)) = true := by rw [eqv_int, e]; simp
    rw [PySem.W.dataLt_all_yes al ee]
    have al2 : PySem.W.alike (.list (intD r)) (.list (intD q)) = true := by
      simp only [PySem.W.alike]
      exact alike_ints r q
    have ev : PyData.eqv (.list (intD r)) (.list (intD q)) = decide (r = q) := by
      rw [← eqv_ints]
      simp only [PyData.eqv]
    by_cases c : r = q
    · subst c
      rw [PySem.W.dataLt_all_yes al2 (by rw [ev]; simp), lexB_irr]
      exact lex_self (O := itemOrd) _ [] []
    · rw [PySem.W.dataLt_all_no al2 (by rw [ev]; exact decide_eq_false c), PySem.W.dataLt_list, lex_ints]
  · rw [if_neg e, PySem.W.dataLt_all_no al (by rw [eqv_int]; exact beq_eq_false_iff_ne.mpr fun z => e (Int.ofNat.inj z)), PySem.W.dataLt_int]
    by_cases c : r.length < q.length
    · rw [decide_eq_true c, decide_eq_true (by omega)]
    · rw [decide_eq_false c, decide_eq_false (by omega)]
theorem dp_intT {K : PySem.W.Frag} {H : Hp} : ∀ r : List Nat, DpAll K H (intT r) (intD r)
  | [] => .nil
  | k :: r => .cons (.int _) (dp_intT r)
theorem dp_siz {K : PySem.W.Frag} {H : Hp} {s q : Addr} {r : List Nat} (h1 : H s = some (.tup [.int (r.length : Nat), .ref q])) (h2 : H q = some (.lst (intT r))) : Dp K H (.ref s) (sizD r) :=
  .tup (SqT.of h1) (.cons (.int _) (.cons (.lst (SqL.of h2) (dp_intT r)) .nil))
theorem depth_intD : ∀ r : List Nat, PyData.depthAll (intD r) ≤ 0
  | [] => Nat.le_refl _
  | k :: r => Nat.max_le.mpr ⟨Nat.le_refl _, depth_intD r⟩
theorem siz_depth (r : List Nat) : (sizD r).depth ≤ 64 := by
  have h := depth_intD r
  show PyData.depthAll [.int (r.length : Nat), .list (intD r)] + 1 ≤ 64
  have : PyData.depthAll [.int (r.length : Nat), .list (intD r)] = max 0 (max (PyData.depthAll (intD r) + 1) 0) := rfl
  rw [this]
  omega
/-! ### what the law picks is what choice tells -/
def wordsTwo (t u : LT) : List Str := uniq (leavT t ++ leavT u)
def strsR (ws : List Str) (r : List Nat) : List Str := r.map fun k => ws.getD k ""
def hasR (ws : List Str) (r : List Nat) (s : Str) : Bool := (strsR ws r).any fun y => y == s
def testL (t u : LT) (r : List Nat) : Bool := ltT (hasR (wordsTwo t u) r) t != ltT (hasR (wordsTwo t u) r) u
def firstI (t u : LT) : Option (List Nat) := (chs (wordsTwo t u).length).foldl (stepB (testL t u)) none
def firstL (t u : LT) : Option (List Str) := (firstI t u).map (strsR (wordsTwo t u))
theorem lvsF_lvs : ∀ f : Fm, lvsF f = lvs f
  | .leaf s => rfl
  | .neg t => lvsF_lvs t
  | .bin s a b => by
    show lvsF a ++ lvsF b = lvs a ++ lvs b
    rw [lvsF_lvs a, lvsF_lvs b]
theorem evB_P (p : Str → Bool) : ∀ f : Fm, evB p f = b2 (evP p f)
  | .leaf s => by
    show (if isConst s then (if s == "all" then 1 else 0) else b2 (p s)) = b2 (if isConst s then s == "all" else p s)
    cases isConst s
    · rfl
    · cases (s == ("all" : Str)) <;> rfl
  | .neg t => by
    show Builtin.bitXor 1 (evB p t) = b2 (!evP p t)
    rw [evB_P p t]
    cases evP p t <;> decide
  | .bin s a b => by
    show (if s == "and" then Builtin.bitAnd (evB p b) (evB p a) else Builtin.bitOr (evB p b) (evB p a)) = b2 (if s == "and" then evP p b && evP p a else evP p b || evP p a)
    rw [evB_P p a, evB_P p b]
    cases (s == ("and" : Str)) <;> cases evP p a <;> cases evP p b <;> decide
theorem b2_inj {a b : Bool} (h : b2 a = b2 b) : a = b := by
  revert h
  cases a <;> cases b <;> decide
theorem rel_ev {t : LT} {f : Fm} (h : Rel t f) (p : Str → Bool) : evP p f = ltT p t := b2_inj ((evB_P p f).symm.trans (h.ev p))
theorem words_two {t u : LT} {f g : Fm} (h : Rel t f) (h2 : Rel u g) : wordsBoth f g = wordsTwo t u := by
  unfold wordsBoth wordsTwo wordsOf uniq
  rw [List.foldl_append, words_lvs f [] h.wf, words_lvs g _ h2.wf, ← List.foldl_append, h.lv, h2.lv]
theorem has_bit {ws : List Str} {r : List Nat} {s : Str} (nd : ws.Nodup) (ha : AscN ws.length r) (hs : s ∈ ws) : hasR ws r s = (bitsR r).testBit (ixS ws s) := by
  rw [bits_bit (n := ws.length) _ r ha]
  unfold hasR strsR
  rw [any_mem]
  congr 1
  rw [eq_iff_iff, List.mem_map]
  constructor
  · rintro ⟨k, hk, e⟩
    have h1 := getD_at (ha.2 k hk)
    rw [e] at h1
    rw [ixS_at nd h1]
    exact hk
  · intro h
    refine ⟨_, h, ?_⟩
    have h1 := getD_at (ixS_lt hs)
    rw [ixS_get hs] at h1
    exact (Option.some.inj h1).symm
theorem test_two {t u : LT} {f g : Fm} (h : Rel t f) (h2 : Rel u g) {r : List Nat} (ha : AscN (wordsTwo t u).length r) : testR f g r = testL t u r := by
  have ew := words_two h h2
  have nd : (wordsBoth f g).Nodup := words_nodup _ [] List.nodup_nil
  unfold testR testL
  rw [← ew] at ha ⊢
  rw [diff_bit h.wf h2.wf (bits_lt2 ha), ← rel_ev h, ← rel_ev h2]
  have e1 : evP (fun s => (bitsR r).testBit (ixS (wordsBoth f g) s)) f = evP (hasR (wordsBoth f g) r) f := evP_congr f fun s hs => by
    obtain ⟨a, b, c⟩ := lvsF_post f h.wf s hs
    exact (has_bit nd ha (mem_both (.inl a) b c)).symm
  have e2 : evP (fun s => (bitsR r).testBit (ixS (wordsBoth f g) s)) g = evP (hasR (wordsBoth f g) r) g := evP_congr g fun s hs => by
    obtain ⟨a, b, c⟩ := lvsF_post g h2.wf s hs
    exact (has_bit nd ha (mem_both (.inr a) b c)).symm
  rw [e1, e2]
theorem find_congr {α : Type} {p q : α → Bool} : ∀ l : List α, (∀ x ∈ l, p x = q x) → l.find? p = l.find? q
  | [], _ => rfl
  | x :: l, h => by
    rw [List.find?_cons, List.find?_cons, h x List.mem_cons_self, find_congr l fun y hy => h y (List.mem_cons_of_mem _ hy)]
theorem choice_first {t u : LT} {f g : Fm} (h : Rel t f) (h2 : Rel u g) : choiceL f g = firstL t u := by
  unfold choiceL firstL firstI
  rw [words_two h h2, find_congr (q := testL t u) _ fun r hr => test_two h h2 (subsI_mem.mp hr), choice_law]
  rfl
/-- equal are those of which none is told -/
theorem choice_none {f g : Fm} (wf : WF f) (wg : WF g) : choiceL f g = none ↔ diffN f g = 0 := by
  constructor
  · intro h
    unfold choiceL at h
    rw [Option.map_eq_none_iff, List.find?_eq_none] at h
    refine Nat.eq_of_testBit_eq fun j => ?_
    rw [Nat.zero_testBit]
    by_cases hj : j < 2 ^ (wordsBoth f g).length
    · have ha : AscN (wordsBoth f g).length ((List.range (wordsBoth f g).length).filter fun i => j.testBit i) :=
        ⟨List.Pairwise.filter _ List.pairwise_lt_range, fun x hx => List.mem_range.mp (List.mem_filter.mp hx).1⟩
      have eb : bitsR ((List.range (wordsBoth f g).length).filter fun i => j.testBit i) = j := by
        refine Nat.eq_of_testBit_eq fun i => ?_
        rw [bits_bit i _ ha]
        by_cases c : j.testBit i = true
        · rw [c]
          refine decide_eq_true (List.mem_filter.mpr ⟨List.mem_range.mpr ?_, c⟩)
          rcases Nat.lt_or_ge i (wordsBoth f g).length with w1 | w1
          · exact w1
          · rw [Nat.testBit_lt_two_pow (Nat.lt_of_lt_of_le hj (Nat.pow_le_pow_right (by decide) w1))] at c
            cases c
        · rw [Bool.not_eq_true] at c
          rw [c]
          refine decide_eq_false fun hm => ?_
          have := (List.mem_filter.mp hm).2
          rw [c] at this
          cases this
      have w1 := h _ (subsI_mem.mpr ha)
      unfold testR at w1
      rw [eb] at w1
      simpa using w1
    · exact Nat.testBit_lt_two_pow (Nat.lt_of_lt_of_le (diff_lt wf wg) (Nat.pow_le_pow_right (by decide) (by omega)))
  · intro h
    unfold choiceL
    rw [Option.map_eq_none_iff, List.find?_eq_none]
    intro r _
    unfold testR
    rw [h, Nat.zero_testBit]
    exact Bool.false_ne_true
end Fx
set_option maxHeartbeats 2000000
namespace Fx
open PySem PySem.Spec PyProof.Rows L2 TL
/-! ### lists of lists -/
def LstsAt (G : Hp) (us : List V) (ls : List (List V)) : Prop := us.length = ls.length ∧ ∀ (i : Nat) (u : V) (l : List V), us[i]? = some u → ls[i]? = some l → ∃ q, u = .ref q ∧ G q = some (.lst l)
theorem LstsAt.same {G G' : Hp} {us : List V} {ls : List (List V)} (s : Same G G') (h : LstsAt G us ls) : LstsAt G' us ls := ⟨h.1, fun i u l h1 h2 => by
  obtain ⟨q, e, g⟩ := h.2 i u l h1 h2
  exact ⟨q, e, s _ _ g⟩⟩
/-- all stands but what is at D, which is none of these -/
theorem LstsAt.keep {G G' : Hp} {us : List V} {ls : List (List V)} {D : Addr} (hD : ∀ (i : Nat) (u : V), us[i]? = some u → u ≠ .ref D) (s : ∀ b, b ≠ D → G' b = G b) (h : LstsAt G us ls) : LstsAt G' us ls := ⟨h.1, fun i u l h1 h2 => by
  obtain ⟨q, e, g⟩ := h.2 i u l h1 h2
  refine ⟨q, e, ?_⟩
  rw [s q (fun z => hD i u h1 (by rw [e, z]))]
  exact g⟩
theorem LstsAt.nil {G : Hp} : LstsAt G [] [] := ⟨rfl, fun i u l h => by simp at h⟩
theorem LstsAt.snoc {G : Hp} {us : List V} {ls : List (List V)} {q : Addr} {l : List V} (h : LstsAt G us ls) (g : G q = some (.lst l)) : LstsAt G (us ++ [.ref q]) (ls ++ [l]) := by
  refine ⟨by rw [List.length_append, List.length_append, h.1] <;> rfl, fun i u m h1 h2 => ?_⟩
  by_cases c : i < us.length
  · rw [List.getElem?_append_left c] at h1
    rw [List.getElem?_append_left (by rw [← h.1]; exact c)] at h2
    exact h.2 i u m h1 h2
  · rw [List.getElem?_append_right (by omega)] at h1
    rw [List.getElem?_append_right (by rw [← h.1]; omega), ← h.1] at h2
    cases e : i - us.length with
    | zero =>
      rw [e] at h1 h2
      cases h1
      cases h2
      exact ⟨q, rfl, g⟩
    | succ j =>
      rw [e] at h1
      simp at h1
theorem LstsAt.app {G : Hp} {us vs : List V} {ls ms : List (List V)} (h : LstsAt G us ls) (h2 : LstsAt G vs ms) : LstsAt G (us ++ vs) (ls ++ ms) := by
  refine ⟨by rw [List.length_append, List.length_append, h.1, h2.1], fun i u m e1 e2 => ?_⟩
  by_cases c : i < us.length
  · rw [List.getElem?_append_left c] at e1
    rw [List.getElem?_append_left (by rw [← h.1]; exact c)] at e2
    exact h.2 i u m e1 e2
  · rw [List.getElem?_append_right (by omega)] at e1
    rw [List.getElem?_append_right (by rw [← h.1]; omega), ← h.1] at e2
    exact h2.2 _ u m e1 e2
theorem LstsAt.at {G : Hp} {us : List V} {ls : List (List V)} {i : Nat} {u : V} (h : LstsAt G us ls) (e : us[i]? = some u) : ∃ l q, ls[i]? = some l ∧ u = .ref q ∧ G q = some (.lst l) := by
  have lt := (List.getElem?_eq_some_iff.mp e).1
  have lt2 : i < ls.length := by rw [← h.1]; exact lt
  obtain ⟨q, e1, g⟩ := h.2 i u _ e (List.getElem?_eq_getElem lt2)
  exact ⟨_, q, List.getElem?_eq_getElem lt2, e1, g⟩
theorem stepB_yes {P : List Nat → Bool} {a r : List Nat} (h : P r = true) (h2 : lt2 r a = true) : stepB P (some a) r = some r := by
  show (if (P r && lt2 r a) = true then some r else some a) = some r
  rw [h, h2] <;> rfl
theorem stepB_no {P : List Nat → Bool} {a r : List Nat} (h2 : lt2 r a = false) : stepB P (some a) r = some a := by
  show (if (P r && lt2 r a) = true then some r else some a) = some a
  rw [h2, Bool.and_false] <;> rfl
def BestAt (G : Hp) (ws : List Str) (v : V) : Option (List Nat) → Prop
  | none => v = .non
  | some r => ∃ b s q m, v = .ref b ∧ G b = some (.tup [.ref s, .ref m]) ∧ G s = some (.tup [.int (r.length : Nat), .ref q]) ∧ G q = some (.lst (intT r)) ∧ G m = some (.lst (strT ws r))
theorem BestAt.same {G G' : Hp} {ws : List Str} {v : V} {o : Option (List Nat)} (s : Same G G') (h : BestAt G ws v o) : BestAt G' ws v o := by
  cases o with
  | none => exact h
  | some r =>
    obtain ⟨b, q, m, c, e, h1, h2, h3, h4⟩ := h
    exact ⟨b, q, m, c, e, s _ _ h1, s _ _ h2, s _ _ h3, s _ _ h4⟩
theorem two_words (t u : LT) : wordsTwo t u = uniq (leavT t) ++ (uniq (leavT u)).filter (notIn (uniq (leavT t))) := by
  unfold wordsTwo
  show (leavT t ++ leavT u).foldl addU [] = _
  rw [List.foldl_append, addU_more] <;> rfl
section
variable {P : Program} {w : World} {K : PySem.W.Frag} {mg : Str → Option Value} {base : Heap} {f fW fT : Addr} {fd fdW fdT : FuncData}
def spFirst (n : Nat) : Sp := fun vs H Q _ => ∃ (x y : V) (t u : LT), vs = [x, y] ∧ TreeAt H t x ∧ TreeAt H u y ∧ depT t ≤ n ∧ depT u ≤ n ∧ sizT t ≤ 50000 ∧ sizT u ≤ 50000 ∧ (∀ z ∈ leavT t, PyData.strOk z = true) ∧ (∀ z ∈ leavT u, PyData.strOk z = true) ∧
  (wordsTwo t u).length ≤ 16 ∧ (firstL t u = none → ∀ G, Same H G → Q .non G) ∧ (∀ l, firstL t u = some l → ∀ p G, Same H G → G p = some (.lst (l.map V.str)) → Q (.ref p) G)
def firstN : List Str := ["_law_one", "_law_other", "_law_words", "_law_best", "_law_choices", "_law_k", "_law_places", "_law_some", "_law_size", "_law_word"]
theorem sc_first : FnScope ["_law_one", "_law_other", "_law_words", "_law_best", "_law_choices", "_law_k", "_law_places", "_law_some", "_law_size", "_law_word"] ["_law_one", "_law_other"] (defScope (tp 138)) := ⟨rfl, rfl, rfl, by decide +kernel, rfl, by decide +kernel, by decide +kernel⟩
theorem ok_first (n : Nat) (F : FnT K "_law_first" 138 f fd) (T : LTxt mg)
    (GW : FnOk P w K mg base CX0 (n + 2) fW fdW ["_law_tree_here"] (spLWords (n + 1))) (FW : FnT K "_law_words_of" 136 fW fdW) (gW : mg "_law_words_of" = some (.ref fW))
    (GT : FnOk P w K mg base CX0 (n + 1) fT fdT ["_law_tree_here", "_law_words"] (spTrue K n)) (FT : FnT K "_law_true" 29 fT fdT) (gT : mg "_law_true" = some (.ref fT)) :
    FnOk P w K mg base CX0 (n + 3) f fd ["_law_one", "_law_other"] (spFirst n) := by
  have bW : L2.Binds K fdW ["_law_tree_here"] [] := FW.bindsN fun _ _ _ _ _ _ us hl => match us, hl with | [_], _ => rfl
  have bT : L2.Binds K fdT ["_law_tree_here", "_law_words"] [] := FT.bindsN fun _ _ _ _ _ _ us hl => match us, hl with | [_, _], _ => rfl
  refine F.ok sc_first (fun vs H Q E h => ?_) (fun cdv A outer s H vs Q E hr h => ?_)
  · obtain ⟨x, y, t, u, rfl, _⟩ := h
    rfl
  · have hu65 : (A.deeper (envOfC "_law_first" (defScope (tp 138)) s.heap.objs.size f cdv)).units + 65 < cLine := by have := hr.un; omega
    refine ⟨_, PSs.nox (
      pss_cons (ps_set (i := 2) sc_first.nd rfl (Or.inr rfl) (pe_call GW (hr.mono (by omega)) rfl gW FW.kp bW .nil pass0 (pa_cons (pv 0) pa_nil)))
      (pss_cons (ps_set (i := 2) sc_first.nd rfl (Or.inr rfl) (pe_op op_cat (pv 2)
        (pe_lc (own := [("_law_word", 9)]) (g := gName 9) (tt := tTest (tOp (rIn K true) (tVar 9) (tVar 2))) (te := tVar 9) rfl sc_first.nd (pi_list (pe_call GW (hr.mono (by omega)) rfl gW FW.kp bW .nil pass0 (pa_cons (pv 1) pa_nil))) (blkOk_by (N := firstN) (sc := defScope (tp 138)) (by decide +kernel))
          (fun _ _ _ _ _ => pg_name (i := 9) sc_first.nd rfl (Or.inl rfl)) (fun _ _ _ _ _ => pts_one (pt_cmpR op_notIn_seq (pv 9) (pv 2) (by rfl))) (fun _ _ _ _ _ => pv 9))))
      (pss_cons (ps_par (i := 3) (j := 4) (by rfl) sc_first.nd rfl rfl (by decide) rfl rfl (pa_cons pe_non (pa_cons (pe_lst (pa_cons (pe_lst pa_nil) pa_nil)) pa_nil)) (by rfl))
      (pss_cons (ps_for PassesOwn.never rfl (pi_range1 rfl T.range (pa_cons (pe_callB call_len rfl T.len boot_len (pa_cons (pv 2) pa_nil)) pa_nil)) (pg_name (i := 5) sc_first.nd rfl (Or.inr rfl))
        (pss_one (ps_set (i := 4) sc_first.nd rfl (Or.inl rfl) (pe_op op_cat (pv 4)
          (pe_lc (own := [("_law_places", 6)]) (g := gName 6) (tt := tYes) (te := tOp rCat (tVar 6) (tLst (tCons (tVar 5) tNil))) rfl sc_first.nd (pi_list (pv 4)) (blkOk_by (N := firstN) (sc := defScope (tp 138)) (by decide +kernel))
            (fun _ _ _ _ _ => pg_name (i := 6) sc_first.nd rfl (Or.inl rfl)) (fun _ _ _ _ _ => pts_nil) (fun _ _ _ _ _ => pe_op op_cat (pv 6) (pe_lst (pa_cons (pv 5) pa_nil))))))))
      (pss_cons (ps_for PassesOwn.never rfl (pi_list (pv 4)) (pg_name (i := 6) sc_first.nd rfl (Or.inl rfl))
        (pss_cons (ps_par (i := 7) (j := 8) (by rfl) sc_first.nd rfl rfl (by decide) rfl rfl (pa_cons
            (pe_lc (own := [("_law_k", 5)]) (g := gName 5) (tt := tYes) (te := tOp (rIx K) (tVar 2) (tVar 5)) rfl sc_first.nd (pi_list (pv 6)) (blkOk_by (N := firstN) (sc := defScope (tp 138)) (by decide +kernel))
              (fun _ _ _ _ _ => pg_name (i := 5) sc_first.nd rfl (Or.inl rfl)) (fun _ _ _ _ _ => pts_nil) (fun _ _ _ _ _ => pe_ix ix_seq (pv 2) (pv 5) (fun _ _ => rfl)))
            (pa_cons (pe_tup (pa_cons (pe_callB call_len rfl T.len boot_len (pa_cons (pv 6) pa_nil)) (pa_cons (pv 6) pa_nil))) pa_nil)) (by rfl))
        (pss_one (ps_if (PW.pt (pw_and (pt_cmpR op_ne (pe_call GT (hr.mono (by omega)) rfl gT FT.kp bT .nil pass0 (pa_cons (pv 0) (pa_cons (pv 7) pa_nil))) (pe_call GT (hr.mono (by omega)) rfl gT FT.kp bT .nil pass0 (pa_cons (pv 1) (pa_cons (pv 7) pa_nil))) (nomark _))
            (pw_and1 (PW.pt (pw_or (pt_cmpR op_isN (pv 3) pe_non (nomark _)) (pw_or1 (pt_cmpR (op_ltD (by exact Nat.lt_of_succ_lt hu65)) (pv 8) (pe_ix ix_tup (pv 3) pe_int (fun _ _ => rfl)) (nomark _))))))))
          (pss_one (ps_set (i := 3) sc_first.nd rfl (Or.inl rfl) (pe_tup (pa_cons (pv 8) (pa_cons (pv 7) pa_nil))))) pss_nil))))
      (pss_one (ps_ret (pe_ifExp (pt_cmpR op_isN (pv 3) pe_non (nomark _)) pe_non (pe_ix ix_tup (pv 3) pe_int (fun _ _ => rfl)))))))))), ?_⟩
    obtain ⟨x, y, t, u, rfl, tr, tu, d1, d2, z1, z2, o1, o2, h16, qn, qs⟩ := h
    have line : (200000 : Nat) ≤ sizeLine := by decide
    have l1 := leavT_len t
    have l2 := leavT_len u
    have m1 := uniq_len (leavT t) []
    have m2 := uniq_len (leavT u) []
    simp only [List.length_nil, Nat.zero_add] at m1 m2
    have m1' : (uniq (leavT t)).length ≤ 50000 := Nat.le_trans m1 (by omega)
    have m2' : (uniq (leavT u)).length ≤ 50000 := Nat.le_trans m2 (by omega)
    have e2 := two_words t u
    refine ⟨_, rfl, x, t, rfl, tr, by omega, by omega, fun w1 G1 s1 n1 g1 => ?_⟩
    refine ⟨_, rfl, _, rfl, y, u, rfl, treeAt_same s1 tu, by omega, by omega, fun p2 G2 s2 n2 g2 => ⟨p2, rfl, ⟨_, SqL.of g2⟩, fun D hD => ?_⟩⟩
    generalize uniq (leavT t) = acc at g1 m1' e2
    generalize uniq (leavT u) = ws2 at g2 m2' e2
    refine lc_list (K := K) (a := p2) (xs := ws2.map V.str) (fun j F4 => Same G2 F4 ∧ F4 D = some (.lst (((ws2.take j).filter (notIn acc)).map V.str))) ⟨same_new hD, upd_same⟩ (fun j F4 _ h => SqL.of (h.1 _ _ g2)) ?_ ?_
    · rintro j y F4 hj ⟨s4, gD⟩
      obtain ⟨z, hz, rfl⟩ := str_at hj
      have g14 := s4 _ _ (s2 _ _ g1)
      refine ⟨rfl, _, rfl, _, rfl, w1, acc.map V.str, rfl, .inl (SqL.of g14), rfl, flat_strs _, _, rfl, ?_⟩
      rw [notin_val]
      have hf := filt_snoc (p := notIn acc) hz
      cases c : acc.any fun y => y == z with
      | true =>
        have e : notIn acc z = false := by unfold notIn; rw [c] <;> rfl
        rw [e, if_neg Bool.false_ne_true] at hf
        refine iteF ⟨s4, ?_⟩
        rw [hf]
        exact gD
      | false =>
        have e : notIn acc z = true := by unfold notIn; rw [c] <;> rfl
        rw [e, if_pos rfl] at hf
        refine iteT ⟨_, rfl, _, gD, ?_, ?_, ?_⟩
        · rw [List.length_map]
          have a1 := List.length_filter_le (notIn acc) (ws2.take j)
          have a2 := List.length_take_le' j ws2
          omega
        · intro b u hb
          rw [upd_ne (ne_of_none hb hD)]
          exact s4 b u hb
        · rw [upd_same, hf, List.map_append] <;> rfl
    · rintro F4 ⟨s4, gD⟩
      rw [List.length_map, List.take_length] at gD
      have g14 := s4 _ _ (s2 _ _ g1)
      have a1 := List.length_filter_le (notIn acc) ws2
      refine ⟨w1, D, _, _, rfl, rfl, g14, gD, by rw [List.length_map, List.length_map]; omega, fun p3 hp3 => ?_⟩
      have s5 := (s1.trans s2).trans s4
      have s6 := s5.trans (same_new hp3 (u := .lst (acc.map V.str ++ (ws2.filter (notIn acc)).map V.str)))
      have g3 : upd F4 p3 (.lst (acc.map V.str ++ (ws2.filter (notIn acc)).map V.str)) p3 = some (.lst ((wordsTwo t u).map V.str)) := by
        rw [upd_same, e2, List.map_append]
      generalize upd F4 p3 (.lst (acc.map V.str ++ (ws2.filter (notIn acc)).map V.str)) = G3 at s6 g3 ⊢
      unfold firstL firstI at qn qs
      generalize hws : wordsTwo t u = ws at g3 h16 qn qs
      have p16 : 2 ^ ws.length ≤ 65536 := Nat.le_trans (Nat.pow_le_pow_right (by decide) h16) (by decide)
      refine ⟨Nat.zero_le _, fun e0 he0 => ⟨(by show 1 ≤ sizeLine; decide), fun c0 hc0 => ⟨_, _, rfl, ?_⟩⟩⟩
      have s7 := same_new he0 (u := .lst [])
      have s8 := s7.trans (same_new hc0 (u := .lst [.ref e0]))
      have gw := s8 _ _ g3
      have ge0 := (same_new hc0 (u := .lst [.ref e0])) _ _ (upd_same (H := G3) (a := e0) (o := .lst []))
      have gc0 : upd (upd G3 e0 (.lst [])) c0 (.lst [.ref e0]) c0 = some (.lst [.ref e0]) := upd_same
      have s9 := s6.trans s8
      generalize upd (upd G3 e0 (.lst [])) c0 (.lst [.ref e0]) = G5 at gw ge0 gc0 s9 ⊢
      refine ⟨_, rfl, _, (ws.map V.str).length, rfl, .inl ⟨_, SqL.of gw, rfl⟩, ((ws.map V.str).length : Nat), rfl, by omega, by rw [List.length_map]; omega, ?_⟩
      have en : (((ws.map V.str).length : Nat) : Int).toNat = ws.length := by rw [List.length_map, Int.toNat_natCast]
      rw [en]
      refine for_range (lo := 0) (n := ws.length) (fun i σ G => ∃ R us o5 o6 o7 o8 o9, σ = [some x, some y, some (.ref p3), some .non, some (.ref R), o5, o6, o7, o8, o9] ∧ Same G5 G ∧ G R = some (.lst us) ∧ LstsAt G us ((chs i).map intT))
        ⟨c0, [.ref e0], none, none, none, none, none, rfl, Same.refl _, gc0, (LstsAt.nil (G := G5)).snoc ge0⟩ ?_ ?_
      · rintro i σ G hi ⟨R, us, o5, o6, o7, o8, o9, rfl, sm, gR, lR⟩
        rw [Int.zero_add]
        have hul : us.length = 2 ^ i := by rw [lR.1, List.length_map, chs_len]
        have pi : 2 ^ (i + 1) ≤ 65536 := Nat.le_trans (Nat.pow_le_pow_right (by decide) (show i + 1 ≤ 16 by omega)) (by decide)
        rw [Nat.pow_succ] at pi
        refine ⟨_, rfl, _, rfl, R, rfl, ⟨_, SqL.of gR⟩, fun D hD => ?_⟩
        refine lc_list (K := K) (a := R) (xs := us) (fun j F => Same G F ∧ ∃ zs, F D = some (.lst zs) ∧ LstsAt F zs (((chs i).take j).map fun r => intT (r ++ [i])) ∧ ∀ (k : Nat) (u : V), zs[k]? = some u → u ≠ .ref D)
          ⟨same_new hD, [], upd_same, LstsAt.nil, fun k u h => by simp at h⟩ (fun j F _ h => SqL.of (h.1 _ _ gR)) ?_ ?_
        · rintro j v F hj ⟨s10, zs, gD, lD, nD⟩
          obtain ⟨l, q0, hl0, rfl, gq⟩ := (lR.same s10).at hj
          obtain ⟨r, hr, rfl⟩ := map_at hl0
          have ha := chs_mem.mp (List.mem_of_getElem? hr)
          have hrl := Nat.le_trans (len_start r ha) (startR_le ha)
          have hzl : zs.length ≤ 65536 := by
            rw [lD.1, List.length_map]
            have w1 := List.length_take_le' j (chs i)
            rw [chs_len] at w1
            omega
          have hil : (intT r).length ≤ 16 := by
            unfold intT
            rw [List.length_map]
            omega
          refine ⟨rfl, yes_ite ?_⟩
          refine ⟨_, rfl, _, rfl, (by show 1 ≤ sizeLine; decide), fun a1 ha1 => ⟨q0, a1, intT r, [.int (i : Nat)], rfl, rfl, (same_new ha1) _ _ gq, upd_same, by show (intT r).length + 1 ≤ sizeLine; omega, fun p4 hp4 => ?_⟩⟩
          have s11 := (same_new ha1 (u := .lst [.int (i : Nat)])).trans (same_new hp4 (u := .lst (intT r ++ [.int (i : Nat)])))
          have gD2 := s11 _ _ gD
          have np : p4 ≠ D := fun e => by
            rw [e, (same_new ha1) _ _ gD] at hp4
            cases hp4
          refine ⟨zs, gD2, by omega, ?_, _, upd_same, ?_, ?_⟩
          · intro b o hb
            rw [upd_ne (ne_of_none hb hD)]
            exact s11 _ _ (s10 _ _ hb)
          · rw [take_snoc hr, List.map_append]
            refine ((lD.same s11).keep nD fun b hb => upd_ne hb).snoc (q := p4) ?_
            rw [upd_ne np, upd_same]
            show some (HO.lst (intT r ++ [.int (i : Nat)])) = some (.lst (intT (r ++ [i])))
            rw [intT_snoc]
          · intro k u hk
            by_cases c : k < zs.length
            · rw [List.getElem?_append_left c] at hk
              exact nD k u hk
            · rw [List.getElem?_append_right (by omega)] at hk
              cases e : k - zs.length with
              | zero =>
                rw [e] at hk
                cases hk
                exact fun z => np (V.ref.inj z)
              | succ m =>
                rw [e] at hk
                simp at hk
        · rintro F ⟨s10, zs, gD, lD, nD⟩
          have hzl : zs.length = 2 ^ i := by rw [lD.1, List.length_map, hul, ← chs_len i, List.take_length]
          rw [hul, ← chs_len i, List.take_length] at lD
          refine ⟨R, D, us, zs, rfl, rfl, s10 _ _ gR, gD, by omega, fun p5 hp5 => ?_⟩
          have s12 := s10.trans (same_new hp5 (u := .lst (us ++ zs)))
          refine ⟨p5, us ++ zs, _, _, _, _, _, rfl, sm.trans s12, upd_same, ?_⟩
          have el : (chs (i + 1)).map intT = (chs i).map intT ++ (chs i).map fun r => intT (r ++ [i]) := by
            show (chs i ++ (chs i).map fun r => r ++ [i]).map intT = _
            rw [List.map_append, List.map_map] <;> rfl
          rw [el]
          exact (lR.same s12).app (lD.same (same_new hp5))
      · rintro σ G ⟨R, us, o5, o6, o7, o8, o9, rfl, sm, gR, lR⟩
        have hul : us.length = (chs ws.length).length := by rw [lR.1, List.length_map]
        refine ⟨_, rfl, R, rfl, ⟨_, SqL.of gR⟩, ?_⟩
        have trG := treeAt_same (s9.trans sm) tr
        have tuG := treeAt_same (s9.trans sm) tu
        have gwG := sm _ _ gw
        refine for_list (K := K) (a := R) (xs := us) (fun i σ F => ∃ best o5 o6 o7 o8 o9, σ = [some x, some y, some (.ref p3), some best, some (.ref R), o5, o6, o7, o8, o9] ∧ Same G F ∧ BestAt F ws best (((chs ws.length).take i).foldl (stepB (testL t u)) none))
          ⟨.non, o5, o6, o7, o8, o9, rfl, Same.refl _, rfl⟩ (fun i σ F _ h => by
            obtain ⟨_, _, _, _, _, _, _, h, _⟩ := h
            exact SqL.of (h _ _ gR)) ?_ ?_
        · rintro i v σ F hi ⟨best, o5, o6, o7, o8, o9, rfl, s10, hb⟩
          obtain ⟨l, q0, hl0, rfl, gq⟩ := (lR.same s10).at hi
          obtain ⟨r, hr, rfl⟩ := map_at hl0
          have ha := chs_mem.mp (List.mem_of_getElem? hr)
          have hrl := Nat.le_trans (len_start r ha) (startR_le ha)
          have hil : (intT r).length = r.length := by
            unfold intT
            rw [List.length_map]
          have enext : ((chs ws.length).take (i + 1)).foldl (stepB (testL t u)) none = stepB (testL t u) (((chs ws.length).take i).foldl (stepB (testL t u)) none) r := by
            rw [take_snoc hr, List.foldl_append] <;> rfl
          refine ⟨_, rfl, q0, rfl, ⟨_, SqL.of gq⟩, fun D hD => ?_⟩
          refine lc_list (K := K) (a := q0) (xs := intT r) (fun j F3 => Same F F3 ∧ F3 D = some (.lst (strT ws (r.take j)))) ⟨same_new hD, upd_same⟩ (fun j F3 _ h => SqL.of (h.1 _ _ gq)) ?_ ?_
          · rintro j v F3 hj ⟨s11, gD⟩
            obtain ⟨k2, hk2, rfl⟩ := intT_at hj
            have lt := ha.2 k2 (List.mem_of_getElem? hk2)
            refine ⟨rfl, yes_ite ?_⟩
            refine ⟨_, rfl, _, rfl, SqA.ix (.inl (SqL.of (s11 _ _ (s10 _ _ gwG)))) (word_at lt) ⟨_, gD, ?_, ?_, ?_⟩⟩
            · unfold strT
              rw [List.length_map, List.length_map]
              have := List.length_take_le' j r
              omega
            · intro b o hb
              rw [upd_ne (ne_of_none hb hD)]
              exact s11 b o hb
            · rw [upd_same, take_snoc hk2, strT_snoc]
          · rintro F3 ⟨s11, gD⟩
            rw [hil, List.take_length] at gD
            have gq3 := s11 _ _ gq
            refine ⟨_, rfl, _, (intT r).length, rfl, .inl ⟨_, SqL.of gq3, rfl⟩, _, rfl, (by show 2 ≤ sizeLine; decide), fun s0 hs0 => ⟨_, _, rfl, ?_⟩⟩
            rw [hil]
            have s12 := s11.trans (same_new hs0 (u := .tup [.int (r.length : Nat), .ref q0]))
            have gD4 := (same_new hs0 (u := .tup [.int (r.length : Nat), .ref q0])) _ _ gD
            have gs4 : upd F3 s0 (.tup [.int (r.length : Nat), .ref q0]) s0 = some (.tup [.int (r.length : Nat), .ref q0]) := upd_same
            have gq4 := s12 _ _ gq
            have hb4 := hb.same s12
            have s14 := s10.trans s12
            generalize upd F3 s0 (.tup [.int (r.length : Nat), .ref q0]) = F4 at s12 gD4 gs4 gq4 hb4 s14 ⊢
            have ino : ∀ G', Same F4 G' → InOk K G' (.ref D) (hasR (wordsTwo t u) r) := fun G' s' => by
              refine .inl ⟨D, strT ws r, rfl, .inl (SqL.of (s' _ _ gD4)), flat_strs _, fun z => ?_⟩
              rw [hws]
              show _ = inV (.str z) ((strsR ws r).map V.str)
              rw [inV_strs] <;> rfl
            refine ⟨_, rfl, _, rfl, x, .ref D, t, hasR (wordsTwo t u) r, rfl, treeAt_same s14 trG, ino _ (Same.refl _), d1, by omega, o1, fun F5 s15 => ?_⟩
            refine ⟨_, rfl, _, rfl, y, .ref D, u, hasR (wordsTwo t u) r, rfl, treeAt_same (s14.trans s15) tuG, ino _ s15, d2, by omega, o2, fun F6 s16 => ?_⟩
            have s46 := s15.trans s16
            have hb6 := hb4.same s46
            refine ⟨rfl, _, rfl, ?_⟩
            have et : (!decide (V.bl (ltT (hasR (wordsTwo t u) r) t) = V.bl (ltT (hasR (wordsTwo t u) r) u))) = testL t u r := by
              unfold testL
              cases ltT (hasR (wordsTwo t u) r) t <;> cases ltT (hasR (wordsTwo t u) r) u <;> rfl
            rw [et]
            have stay : stepB (testL t u) (((chs ws.length).take i).foldl (stepB (testL t u)) none) r = ((chs ws.length).take i).foldl (stepB (testL t u)) none →
                ∃ best' o5' o6' o7' o8' o9', [some x, some y, some (.ref p3), some best, some (.ref R), o5, some (.ref q0), some (.ref D), some (.ref s0), o9] = [some x, some y, some (V.ref p3), some best', some (.ref R), o5', o6', o7', o8', o9'] ∧ Same G F6 ∧ BestAt F6 ws best' (((chs ws.length).take (i + 1)).foldl (stepB (testL t u)) none) := fun e => by
              rw [enext, e]
              exact ⟨best, _, _, _, _, _, rfl, s14.trans s46, hb6⟩
            have take : stepB (testL t u) (((chs ws.length).take i).foldl (stepB (testL t u)) none) r = some r → ∀ b, F6 b = none →
                ∃ best' o5' o6' o7' o8' o9', [some x, some y, some (.ref p3), some (.ref b), some (.ref R), o5, some (.ref q0), some (.ref D), some (.ref s0), o9] = [some x, some y, some (V.ref p3), some best', some (.ref R), o5', o6', o7', o8', o9'] ∧ Same G (upd F6 b (.tup [.ref s0, .ref D])) ∧ BestAt (upd F6 b (.tup [.ref s0, .ref D])) ws best' (((chs ws.length).take (i + 1)).foldl (stepB (testL t u)) none) := fun e b hb0 => by
              rw [enext, e]
              have s17 := s46.trans (same_new hb0 (u := .tup [.ref s0, .ref D]))
              exact ⟨.ref b, _, _, _, _, _, rfl, s14.trans s17, b, s0, q0, D, rfl, upd_same, s17 _ _ gs4, s17 _ _ gq4, s17 _ _ gD4⟩
            cases ct : testL t u r with
            | false => exact iteF (iteF (stay (by unfold stepB; rw [ct] <;> rfl)))
            | true =>
              refine iteT ⟨_, rfl, rfl, _, rfl, ?_⟩
              cases hf : ((chs ws.length).take i).foldl (stepB (testL t u)) none with
              | none =>
                rw [hf] at hb6 take
                have e : best = .non := hb6
                subst e
                exact iteT (iteT ⟨_, rfl, _, rfl, (by show 2 ≤ sizeLine; decide), fun b hb0 => take (by unfold stepB beats; rw [ct] <;> rfl) b hb0⟩)
              | some a =>
                rw [hf] at hb6 take stay
                obtain ⟨b0, s1', q1, m1, rfl, k1, k2, k3, k4⟩ := hb6
                refine iteF ⟨_, rfl, _, rfl, b0, _, 0, .ref s1', rfl, rfl, SqT.of k1, rfl, sizD r, sizD a, dp_siz (s46 _ _ gs4) (s46 _ _ gq4), dp_siz k2 k3, siz_alike r a, (fun z => by cases z), siz_depth r, _, rfl, ?_⟩
                rw [siz_lt]
                cases cl : lt2 r a with
                | true =>
                  refine iteT ?_
                  exact ⟨_, rfl, _, rfl, (by show 2 ≤ sizeLine; decide), fun b hb0 => take (stepB_yes ct cl) b hb0⟩
                | false =>
                  refine iteF ?_
                  exact stay (stepB_no cl)
        · rintro σ F ⟨best, o5, o6, o7, o8, o9, rfl, s10, hb⟩
          rw [hul, List.take_length] at hb
          refine ⟨_, rfl, rfl, _, rfl, ?_⟩
          cases hf : (chs ws.length).foldl (stepB (testL t u)) none with
          | none =>
            rw [hf] at hb qn
            have e : best = .non := hb
            subst e
            exact iteT (qn rfl F ((s9.trans sm).trans s10))
          | some r =>
            rw [hf] at hb qs
            obtain ⟨b, s0, q0, m0, rfl, h1, h2, h3, h4⟩ := hb
            exact iteF ⟨_, rfl, b, _, 1, .ref m0, rfl, rfl, SqT.of h1, rfl, qs _ rfl m0 F ((s9.trans sm).trans s10) h4⟩
end
end Fx
set_option maxHeartbeats 2000000
namespace Fx
open PySem PySem.Spec PyProof.Rows L2 TL LamX
/-! ### _law_met -/
theorem takes2 {X : Cx} {W : WX} {n : Nat} (hn : X.N.length = n) (tk : Takes X W) : Takes X (fun cls d σ H => σ.length = n → W cls d σ H) := fun u s' ⟨a, B, sI, pins, σ, H, cls, d, e, I, nb, up, sky, na, os, ag, w⟩ =>
  tk u s' ⟨a, B, sI, pins, σ, H, cls, d, e, I, nb, up, sky, na, os, ag, w (I.len.trans hn)⟩
theorem sc_met : FnScope ["_law_ask", "e"] ["_law_ask"] (defScope (tp 139)) := ⟨rfl, rfl, rfl, by decide +kernel, rfl, by decide +kernel, by decide +kernel⟩
/-- what comes of try: return ask() -/
def TMet (CB : Addr) : (XK → Hp → VK → Prop) → Hp → VK → Prop := fun tl H Q =>
  tl (fun cls d H' => ∃ dd v, cls = .ref CB ∧ d = some dd ∧ H' dd = some (.xd [("text", v)]) ∧ ∀ p G, Same H' G → H' p = none → G p = some (.tup [.str "formula", v]) → Q (.ref p) G) H Q
theorem met_gives {X : Cx} {CB g : Addr} {cdg : Value} {q : Str} (gB : X.mg "BadFormula" = some (.ref CB)) (XB : XfC X.K CB) (noB : PySem.W.findIn X.K (.ref CB) "text" = some none) (eB : PySem.W.exmOne X.K (.ref CB) (.ref CB) = some true) :
    GivesTo X ["_law_ask", "e"] "_law_met" (defScope (tp 139)) g cdg (defBody (tp 139)) "_law_ask" q (TMet CB) := by
  intro f c' s H Q tl act hc h
  refine ⟨_, pss_one (ps_try_as (X := (cxOf C8.CX0 X.prog X.w X.K X.mg X.base ["_law_ask", "e"] "_law_met" (defScope (tp 139)) g cdg X.A X.stack s H C8.E0).nox) (i := 1) (c := .ref CB)
      (tb := fun W D σ H => ∃ Ech : XK, (∀ cls d H', Ech cls d H' → ∀ σ' : L2.St, σ'.length = 2 → W cls d σ' H') ∧ σ[0]? = some (some (.ref f)) ∧ H c' = some (CodeO c' q) ∧ tl Ech H D.rt)
      rfl rfl sc_met.nd rfl rfl ⟨rfl, by decide, .inl gB⟩ L2.takes0 (fun W pn xe tk _ => ?_) (fun a oe cls d pn hz hf => pss_one (ps_ret (pe_tup (pa_cons pe_str (pa_cons (pe_xf XB noB hz hf (pv 1)) pa_nil)))))), ?_⟩
  · refine ⟨fun pins s' σ H' D I h' => ?_⟩
    obtain ⟨Ech, hW, h1, h2, h3⟩ := h'
    exact (pss_one (ps_ret (act _ pn xe Ech _ _ (takes2 (n := 2) rfl tk) (fun cls d σ' H' e hl => hW cls d H' e σ' hl)))).run pins s' σ H' D I ⟨h1, h2, h3⟩
  · refine ⟨_, fun cls d H' e σ' hl => ?_, rfl, hc, h⟩
    obtain ⟨dd, v, rfl, rfl, g1, k⟩ := e
    refine ⟨true, eB, fun _ a ha => ?_, fun z => nomatch z⟩
    have hl : 1 < σ'.length := by omega
    refine ⟨_, List.getElem?_set_self hl, rfl, rfl, dd, [("text", v)], v, rfl, g1, rfl, (by show 2 ≤ sizeLine; decide), fun p hp => ?_⟩
    exact k p _ (same_new hp) hp upd_same
end Fx
set_option maxHeartbeats 2000000
namespace Fx
open PySem PySem.Spec PyProof.Rows L2 TL LamX
/-! ### lists of texts as data; trees of the law -/
theorem can_strL : ∀ {l : List Str}, (∀ z ∈ l, PyData.strOk z = true) → PyData.canLayAll0 (l.map PyData.str) = true
  | [], _ => rfl
  | z :: l, h => by
    show (PyData.strOk z && PyData.canLayAll0 (l.map PyData.str)) = true
    rw [can_strL fun x hx => h x (List.mem_cons_of_mem _ hx), h z List.mem_cons_self]
    rfl
theorem depth_strL : ∀ l : List Str, PyData.depthAll (l.map PyData.str) ≤ 0
  | [] => Nat.le_refl _
  | _ :: l => Nat.max_le.mpr ⟨Nat.le_refl _, depth_strL l⟩
theorem shaped_strL {l : List Str} (h : ∀ z ∈ l, PyData.strOk z = true) : SeqAt.shaped (.list (l.map PyData.str)) = true := by
  have h1 := depth_strL l
  have h2 : PyData.depth (.list (l.map PyData.str)) ≤ 64 := by
    show PyData.depthAll _ + 1 ≤ 64
    omega
  unfold SeqAt.shaped
  rw [decide_eq_true h2]
  show (PyData.canLayAll0 _ && true) = true
  rw [can_strL h] <;> rfl
theorem dp_strL {K : PySem.W.Frag} {H : Hp} : ∀ l : List Str, DpAll K H (l.map V.str) (l.map PyData.str)
  | [] => .nil
  | z :: l => .cons (.str z) (dp_strL l)
theorem eqv_strL : ∀ l : List Str, PyData.eqvAll (l.map PyData.str) (l.map PyData.str) = true
  | [] => by simp [PyData.eqvAll]
  | z :: l => by simp [PyData.eqvAll, PyData.eqv, eqv_strL l]
theorem lt_up {ws : List Str} : ∀ (d : Nat) (t : LT), LtOk ws d t → LtOk ws (d + 1) t := by
  intro d
  induction d with
  | zero =>
    intro t h
    cases t with
    | word z => exact h
    | cst b => trivial
    | neg t => exact False.elim h
    | nary k ts => exact False.elim h
  | succ d ih =>
    intro t h
    cases t with
    | word z => exact h
    | cst b => trivial
    | neg t => exact ih t h
    | nary k ts => exact ⟨h.1, fun t ht => ih t (h.2 t ht)⟩
theorem leaves_in {ws : List Str} : ∀ (d : Nat) (t : LT), LtOk ws d t → ∀ z ∈ leavT t, z ∈ ws := by
  intro d
  induction d with
  | zero =>
    intro t h z hz
    cases t with
    | word y =>
      rw [List.mem_singleton.mp hz]
      exact h
    | cst b => cases hz
    | neg t => exact False.elim h
    | nary k ts => exact False.elim h
  | succ d ih =>
    intro t h z hz
    cases t with
    | word y =>
      rw [List.mem_singleton.mp hz]
      exact h
    | cst b => cases hz
    | neg t => exact ih t h z hz
    | nary k ts =>
      have h2 := h.2
      clear h
      have hz2 : z ∈ leavL ts := hz
      clear hz
      induction ts with
      | nil => cases hz2
      | cons t ts ih2 =>
        rcases List.mem_append.mp (show z ∈ leavT t ++ leavL ts from hz2) with w | w
        · exact ih t (h2 t List.mem_cons_self) z w
        · exact ih2 (fun x hx => h2 x (List.mem_cons_of_mem _ hx)) w
theorem any_no {K : PySem.W.Frag} {H : Hp} {x : V} {t : Value} (ty : TyX K H x t) (k : PySem.W.kitOne K t (.type "str") = some false) (n : ∀ z, x ≠ .str z) : Any K H x :=
  ⟨t, false, ty, k, ⟨fun e => (nomatch e), fun ⟨z, e⟩ => absurd e (n z)⟩, fun z e => absurd e (n z)⟩

def ten : List Str := ["open", "mine", "there", "open@shown", "there@done", "a", "old", "b@c", "note", "z"]
def eleven : List Str := ["open", "mine", "there", "open@shown", "there@done", "a", "old", "b@c", "note", "z", "extra"]
theorem eleven_leaf : ∀ z ∈ eleven, LeafOk z ∧ isConst z = false := by
  intro z hz
  have key : ∀ z ∈ eleven, (isOper z = false ∧ (isConst z || isWord z) = true ∧ 32 ∉ tl z ∧ 40 ∉ tl z ∧ 41 ∉ tl z ∧ 1 ≤ z.length ∧ PyData.strOk z = true) ∧ isConst z = false := by decide +kernel
  obtain ⟨⟨a, b, c, d, e, f, g⟩, h⟩ := key z hz
  exact ⟨⟨a, b, c, d, e, f, g⟩, h⟩
theorem eleven_ok : ∀ z ∈ eleven, PyData.strOk z = true ∧ z.length ≤ 10 := by decide +kernel
theorem ten_eleven : ∀ z ∈ ten, z ∈ eleven := by decide +kernel
theorem extra_eleven : ("extra" : Str) ∈ eleven := by decide +kernel
theorem lt_sub {ws vs : List Str} (hs : ∀ z ∈ ws, z ∈ vs) : ∀ (d : Nat) (t : LT), LtOk ws d t → LtOk vs d t := by
  intro d
  induction d with
  | zero =>
    intro t h
    cases t with
    | word z => exact hs z h
    | cst b => trivial
    | neg t => exact False.elim h
    | nary k ts => exact False.elim h
  | succ d ih =>
    intro t h
    cases t with
    | word z => exact hs z h
    | cst b => trivial
    | neg t => exact ih t h
    | nary k ts => exact ⟨h.1, fun t ht => ih t (h.2 t ht)⟩
theorem lt_more {ws : List Str} {d : Nat} {t : LT} (h : LtOk ws d t) : ∀ k, LtOk ws (d + k) t
  | 0 => h
  | k + 1 => lt_up (d + k) t (lt_more h k)
theorem lt_dm {ws : List Str} : ∀ (d : Nat) (t : LT), LtOk ws d t → LtOk ws (3 * d) (dmT t) := by
  intro d
  induction d with
  | zero =>
    intro t h
    cases t with
    | word z => exact h
    | cst b => trivial
    | neg t => exact False.elim h
    | nary k ts => exact False.elim h
  | succ d ih =>
    intro t h
    cases t with
    | word z => exact lt_more (d := 0) (t := .word z) h (3 * (d + 1)) |> fun w => by rw [Nat.zero_add] at w; exact w
    | cst b => trivial
    | neg t =>
      have w := lt_more (d := d + 1) (t := .neg t) h (2 * (d + 1))
      rw [show d + 1 + 2 * (d + 1) = 3 * (d + 1) by omega] at w
      exact w
    | nary k ts =>
      show LtOk ws (3 * d + 1 + 1 + 1) (.neg (.nary (!k) (dmL ts).reverse))
      refine ⟨?_, fun x hx => ?_⟩
      · rw [List.length_reverse, dmL_map, List.length_map]
        exact h.1
      · rw [List.mem_reverse, dmL_map] at hx
        obtain ⟨t, ht, e⟩ := List.mem_map.mp hx
        rw [← e]
        exact ih t (h.2 t ht)
theorem lt_turn {t : LT} (h : LtOk ten 3 t) (w : Int) : LtOk eleven 9 (turnT w t) := by
  have h1 := lt_sub ten_eleven 3 t h
  unfold turnT
  split
  · exact lt_more (d := 3) h1 4
  · split
    · refine ⟨.inr rfl, fun x hx => ?_⟩
      rcases List.mem_cons.mp hx with e | hx
      · rw [e]
        exact lt_more (d := 3) h1 5
      · rcases List.mem_cons.mp hx with e | hx
        · rw [e]
          trivial
        · rw [List.mem_singleton.mp hx]
          refine ⟨.inl rfl, fun y hy => ?_⟩
          rcases List.mem_cons.mp hy with e | hy
          · rw [e]
            exact lt_more (d := 3) h1 4
          · rw [List.mem_singleton.mp hy]
            exact extra_eleven
    · exact lt_dm 3 t h1
def capN : Nat → Nat
  | 0 => 11
  | d + 1 => 3 * (capN d + 7) + 8
def capD : Nat → Nat
  | 0 => 11
  | d + 1 => 3 * (capD d + 14) + 8
theorem capN_ge (d : Nat) : 11 ≤ capN d := by
  cases d with
  | zero => exact Nat.le_refl _
  | succ d => show 11 ≤ 3 * (capN d + 7) + 8; omega
theorem capD_ge (d : Nat) : 11 ≤ capD d := by
  cases d with
  | zero => exact Nat.le_refl _
  | succ d => show 11 ≤ 3 * (capD d + 14) + 8; omega
theorem cap_ND : ∀ d, capN d ≤ capD d
  | 0 => Nat.le_refl _
  | d + 1 => by
    have := cap_ND d
    show 3 * (capN d + 7) + 8 ≤ 3 * (capD d + 14) + 8
    omega
theorem lenL_le {B : Nat} : ∀ {ts : List LT}, (∀ t ∈ ts, lenT t ≤ B) → lenL ts ≤ ts.length * (B + 7)
  | [], _ => Nat.zero_le _
  | t :: ts, h => by
    have h1 := h t List.mem_cons_self
    have h2 := lenL_le (B := B) (ts := ts) fun x hx => h x (List.mem_cons_of_mem _ hx)
    show lenT t + 7 + lenL ts ≤ (ts.length + 1) * (B + 7)
    rw [Nat.succ_mul]
    omega
theorem len_cap : ∀ (d : Nat) (t : LT), LtOk eleven d t → lenT t ≤ capN d := by
  intro d
  induction d with
  | zero =>
    intro t h
    cases t with
    | word z =>
      have := (eleven_ok z h).2
      show z.length + 1 ≤ 11
      omega
    | cst b => show 5 ≤ 11; decide
    | neg t => exact False.elim h
    | nary k ts => exact False.elim h
  | succ d ih =>
    intro t h
    have g := capN_ge (d + 1)
    cases t with
    | word z =>
      have := (eleven_ok z h).2
      show z.length + 1 ≤ capN (d + 1)
      omega
    | cst b => show 5 ≤ capN (d + 1); omega
    | neg t =>
      have := ih t h
      show lenT t + 7 ≤ 3 * (capN d + 7) + 8
      omega
    | nary k ts =>
      have w := lenL_le fun t ht => ih t (h.2 t ht)
      have w2 : ts.length * (capN d + 7) ≤ 3 * (capN d + 7) := Nat.mul_le_mul_right _ (by rcases h.1 with e | e <;> omega)
      show lenL ts + 1 ≤ 3 * (capN d + 7) + 8
      omega
theorem len_dm : ∀ (d : Nat) (t : LT), LtOk eleven d t → lenT (dmT t) ≤ capD d := by
  intro d
  induction d with
  | zero =>
    intro t h
    cases t with
    | word z => exact len_cap 0 (.word z) h
    | cst b => show 5 ≤ 11; decide
    | neg t => exact False.elim h
    | nary k ts => exact False.elim h
  | succ d ih =>
    intro t h
    cases t with
    | word z => exact Nat.le_trans (len_cap (d + 1) (.word z) h) (cap_ND _)
    | cst b => exact Nat.le_trans (len_cap (d + 1) (.cst b) h) (cap_ND _)
    | neg t => exact Nat.le_trans (len_cap (d + 1) (.neg t) h) (cap_ND _)
    | nary k ts =>
      have w := lenL_le (B := capD d + 7) (ts := (dmL ts).reverse) fun x hx => by
        rw [List.mem_reverse, dmL_map] at hx
        obtain ⟨t, ht, e⟩ := List.mem_map.mp hx
        have := ih t (h.2 t ht)
        rw [← e]
        show lenT (dmT t) + 7 ≤ _
        omega
      rw [List.length_reverse, dmL_map, List.length_map] at w
      have w2 : ts.length * (capD d + 7 + 7) ≤ 3 * (capD d + 7 + 7) := Nat.mul_le_mul_right _ (by rcases h.1 with e | e <;> omega)
      have e2 : lenT (dmT (.nary k ts)) = lenL (dmL ts).reverse + 1 + 7 := rfl
      rw [e2, dmL_map]
      show _ ≤ 3 * (capD d + 14) + 8
      omega
/-- what is known of the law's trees -/
structure GoodT (t : LT) : Prop where
  dep : depT t ≤ 9
  len : lenT t ≤ 3900
  lv : ∀ z ∈ leavT t, z ∈ eleven
  rd : ∃ f, Rel t f ∧ signsOf (txtN 9 t) ≠ [] ∧ codeOf (signsOf (txtN 9 t)) = post f ∧ wt (post f) ≤ 30000
theorem good_of {t : LT} (h : LtOk eleven 9 t) (hl : lenT t ≤ 3900) : GoodT t := by
  have hd := dep_ok 9 t h
  refine ⟨hd, hl, leaves_in 9 t h, ?_⟩
  obtain ⟨l, f, h1, h2, h3, _⟩ := read_text eleven_leaf h hd
  have ht := txt_len 9 t
  refine ⟨f, h3, ?_, ?_, ?_⟩
  · rw [h1.signs]
    exact h1.ne
  · rw [h1.signs]
    exact h2.code
  · have w1 := h1.wl
    have w2 := h2.wl
    rw [← len_tl] at w1
    omega
theorem GoodT.siz {t : LT} (h : GoodT t) : sizT t ≤ 50000 := by
  have := siz_len t
  have := h.len
  omega
theorem GoodT.txl {t : LT} (h : GoodT t) : (txtN 9 t).length ≤ 3900 := Nat.le_trans (txt_len 9 t) h.len
theorem GoodT.ok {t : LT} (h : GoodT t) : ∀ z ∈ leavT t, PyData.strOk z = true := fun z hz => (eleven_ok z (h.lv z hz)).1
theorem good_base {t : LT} (h : LtOk ten 3 t) : GoodT t := by
  have h1 := lt_sub ten_eleven 3 t h
  have c : capN 3 ≤ 3900 := by decide
  exact good_of (lt_more (d := 3) h1 6) (Nat.le_trans (len_cap 3 t h1) c)
theorem good_turn {t : LT} (h : LtOk ten 3 t) (w : Int) : GoodT (turnT w t) := by
  have h1 := lt_sub ten_eleven 3 t h
  have c : capN 3 ≤ 700 := by decide
  have c2 : capD 3 ≤ 3900 := by decide
  have l := len_cap 3 t h1
  refine good_of (lt_turn h w) ?_
  unfold turnT
  split
  · show lenT t + 7 + 7 ≤ 3900
    omega
  · split
    · show (lenT t + 7 + (5 + 7 + ((lenT t + 7 + ((("extra" : Str).length + 1) + 7 + 0) + 1) + 7 + 0))) + 1 ≤ 3900
      have : ("extra" : Str).length = 5 := by decide +kernel
      omega
    · exact Nat.le_trans (len_dm 3 t h1) c2
theorem nodup_len : ∀ (m l : List Str), l.Nodup → (∀ z ∈ l, z ∈ m) → l.length ≤ m.length
  | [], l, _, h => by
    cases l with
    | nil => exact Nat.le_refl _
    | cons x l => cases h x List.mem_cons_self
  | x :: m, l, nd, h => by
    have w := nodup_len m (l.erase x) (nd.erase x) fun z hz => by
      have h1 := (nd.mem_erase_iff).mp hz
      rcases List.mem_cons.mp (h z h1.2) with e | e
      · exact absurd e h1.1
      · exact e
    have w2 : l.length ≤ (l.erase x).length + 1 := by
      rw [List.length_erase]
      split <;> omega
    rw [List.length_cons]
    omega
theorem addU_nodup {acc : List Str} {s : Str} (h : acc.Nodup) : (addU acc s).Nodup := by
  unfold addU
  split
  · exact h
  · rename_i c
    rw [List.nodup_append]
    refine ⟨h, by simp, fun a ha b hb e => ?_⟩
    rw [List.mem_singleton.mp hb] at e
    subst e
    exact c (List.any_eq_true.mpr ⟨a, ha, beq_self_eq_true a⟩)
theorem uniq_nodup : ∀ (l acc : List Str), acc.Nodup → (l.foldl addU acc).Nodup
  | [], _, h => h
  | s :: l, acc, h => uniq_nodup l _ (addU_nodup h)
theorem two_in {t u : LT} (h : GoodT t) (h2 : GoodT u) : ∀ z ∈ wordsTwo t u, z ∈ eleven := fun z hz => by
  rcases (uniq_mem (leavT t ++ leavT u) [] z).mp hz with w | w
  · cases w
  · rcases List.mem_append.mp w with w | w
    · exact h.lv z w
    · exact h2.lv z w
theorem two_len {t u : LT} (h : GoodT t) (h2 : GoodT u) : (wordsTwo t u).length ≤ 16 :=
  Nat.le_trans (nodup_len eleven _ (uniq_nodup _ [] List.nodup_nil) (two_in h h2)) (by decide)
theorem first_in {t u : LT} (h : GoodT t) (h2 : GoodT u) {l : List Str} (e : firstL t u = some l) : ∀ z ∈ l, PyData.strOk z = true := by
  unfold firstL at e
  cases hf : firstI t u with
  | none =>
    rw [hf] at e
    cases e
  | some r =>
    rw [hf] at e
    have e2 : strsR (wordsTwo t u) r = l := Option.some.inj e
    have hr : AscN (wordsTwo t u).length r := by
      unfold firstI at hf
      rcases (pick_some _ none r hf).1 with z | z
      · cases z
      · exact chs_mem.mp z.1
    intro z hz
    rw [← e2] at hz
    obtain ⟨k, hk, rfl⟩ := List.mem_map.mp hz
    have w := List.mem_of_getElem? (getD_at (hr.2 k hk))
    exact (eleven_ok _ (two_in h h2 _ w)).1
end Fx
set_option maxHeartbeats 8000000
namespace Fx
open PySem PySem.Spec PyProof.Rows L2 TL LamX
/-! ### the law -/
def lawN : List Str := ["_law_script", "_law_words", "_law_row_here", "_law_one", "_law_other", "_law_texts", "_law_second", "_law_due", "_law_first_here", "_law_thing"]
theorem sc_law : FnScope ["_law_script", "_law_words", "_law_row_here", "_law_one", "_law_other", "_law_texts", "_law_second", "_law_due", "_law_first_here", "_law_thing"] ["_law_script"] (defScope (tp 140)) := ⟨rfl, rfl, rfl, by decide +kernel, rfl, by decide +kernel, by decide +kernel⟩
def DueAt (G : Hp) (v : V) : Option (List Str) → Prop
  | none => v = .non
  | some l => ∃ p, v = .ref p ∧ G p = some (.lst (l.map V.str))
theorem DueAt.same {G G' : Hp} {v : V} {o : Option (List Str)} (s : Same G G') (h : DueAt G v o) : DueAt G' v o := by
  cases o with
  | none => exact h
  | some l =>
    obtain ⟨p, e, g⟩ := h
    exact ⟨p, e, s _ _ g⟩
theorem due_none {G : Hp} {v : V} {o : Option (List Str)} (h : DueAt G v o) : decide (v = .non) = o.isNone := by
  cases o with
  | none =>
    have e : v = .non := h
    rw [e]
    exact decide_eq_true rfl
  | some l =>
    obtain ⟨p, rfl, _⟩ := h
    exact decide_eq_false (fun z => nomatch z)
theorem rd_ne {K : PySem.W.Frag} {G : Hp} {v u : V} {o : Option (List Str)} {Q : VK} (h1 : DueAt G v o) (h2 : DueAt G u o) (ok : ∀ l, o = some l → ∀ z ∈ l, PyData.strOk z = true) (q : Q (.bl false) G) : rNeD K v u G Q := by
  cases o with
  | none =>
    have e1 : v = .non := h1
    have e2 : u = .non := h2
    subst e1
    subst e2
    refine ⟨.none, .none, .non, .non, rfl, rfl, ?_⟩
    have e : PyData.eqv .none .none = true := by simp [PyData.eqv]
    rw [e]
    exact q
  | some l =>
    obtain ⟨p, rfl, g1⟩ := h1
    obtain ⟨p2, rfl, g2⟩ := h2
    have hl := ok l rfl
    refine ⟨_, _, .lst (SqL.of g1) (dp_strL l), .lst (SqL.of g2) (dp_strL l), shaped_strL hl, shaped_strL hl, ?_⟩
    have e : PyData.eqv (.list (l.map PyData.str)) (.list (l.map PyData.str)) = true := by
      simp only [PyData.eqv]
      exact eqv_strL l
    rw [e]
    exact q
/-- what is known of the class, besides -/
structure KTxt (K : PySem.W.Frag) (C fE : Addr) : Prop where
  eq : PySem.W.findIn K (.ref C) "__eq__" = some (some (.ref fE))
  fn : PySem.W.isFn K (.ref fE) = true
  ne : PySem.W.findIn K (.ref C) "__ne__" = some (some (.builtin "object.__ne__"))
  kt : ∀ t ∈ ["NoneType", "bool", "int", "str", "list", "tuple"], PySem.W.kitOne K (.type t) (.ref C) = some false ∧ PySem.W.notFirst K C (.type t) = true
theorem own_beside {K : PySem.W.Frag} {mg : Str → Option Value} {C fI a dx : Addr} {H : Hp} {fs : List (Str × V)} (X : FCls K C) (M : MTxt K mg C fI) (h : H a = some (.ins C dx fs)) : Beside K C H (.ref a) :=
  ⟨.ref C, .base (.ins h X.cl M.ca M.sg M.tk M.mr), by unfold PySem.W.notFirst; simp⟩
abbrev XLaw (P : Program) (w : World) (K : PySem.W.Frag) (mg : Str → Option Value) (base : Heap) (f c : Addr) (A : Around) (outer : List Env) (s : Shared) (H : Hp) (E : XK) : Cx :=
  (cxOf L2.CX0 P w K mg base ["_law_script", "_law_words", "_law_row_here", "_law_one", "_law_other", "_law_texts", "_law_second", "_law_due", "_law_first_here", "_law_thing"] "law" (defScope (tp 140)) f (.ref c) A outer s H E).nox
def lamQ : Str := (envOfC "law" (defScope (tp 140)) 0 0 .none).qual ++ "<lambda>"
def rOwn (K : PySem.W.Frag) (C : Addr) : R2 := fun x y H Q => ∃ (a dx : Addr) (fs : List (Str × V)), x = .ref a ∧ H a = some (.ins C dx fs) ∧ Beside K C H y ∧ spFEq K C [.ref a, y] H (fun v G => ∃ c, v = .bl c ∧ Q (.bl c) G) E0
theorem fm_extN {H G : Hp} {C a : Addr} {l : List Str} (e : ExtN H G) (h : FmAt H C a l) : FmAt G C a l := by
  obtain ⟨dx, p, h1, h2⟩ := h
  exact ⟨dx, p, e _ _ h1 (fun _ z => by cases z), e _ _ h2 (fun _ z => by cases z)⟩
theorem bad_aor : signsV (.str "a or") = [] := by decide +kernel
section
variable {P : Program} {w : World} {K : PySem.W.Frag} {mg : Str → Option Value} {base : Heap} {f c Pt C CB fI fE fCh fM : Addr} {fd fdI fdE fdCh fdM : FuncData}
def TailC (C Pt : Addr) (t : TS) : Prop := ∀ (De : Ends) (G : Hp) (a w1 rw tx a1 a2 : Addr) (o3 o4 due : V) (f1 : Fm) (s1 s2 : Str), FmAt G C a1 (post f1) → WF f1 → wt (post f1) ≤ 30000 → G tx = some (.tup [.str s1, .str s2]) → s1.length ≤ 3900 → Tabs [(Pt, lamQ)] G → (∀ G', De.rt (.bl true) G') →
  t De [some (.ref a), some (.ref w1), some (.ref rw), some o3, some o4, some (.ref tx), some (.ref a2), some due, some (.ref a1), none] G
theorem tailC {A : Around} {outer : List Env} {s : Shared} {H : Hp} {E : XK} (hr : Room 12 (A.deeper (envOfC "law" (defScope (tp 140)) s.heap.objs.size f (.ref c)))) (N : NTxt K mg) (X : FCls K C) (M : MTxt K mg C fI) (KT : KTxt K C fE) (TB : TabB base mg c Pt) (gAny : mg "any" = none)
    (gB : mg "BadFormula" = some (.ref CB)) (XB : XfC K CB) (noB : PySem.W.findIn K (.ref CB) "text" = some none) (eB : PySem.W.exmOne K (.ref CB) (.ref CB) = some true)
    (GE : FnOk P w K mg base CX0 4 fE fdE ["self", "other"] (spFEq K C)) (FE : FnI K "Formula.__eq__" "__eq__" 13 6 fE fdE)
    (GC : FnOk P w K mg base (L2.CX P w) 8 fCh fdCh ["one", "other"] (spChoice K C CB)) (FC : FnT K "choice" 116 fCh fdCh) (gC : mg "choice" = some (.ref fCh))
    (FM : FnT K "_law_met" 139 fM fdM) (gM : mg "_law_met" = some (.ref fM)) :
    ∃ t, PSs (XLaw P w K mg base f c A outer s H E) ((defBody (tp 140)).drop 12) t ∧ TailC C Pt t := by
  have bE : L2.Binds K fdE ["self", "other"] [] := FE.bindsN fun _ _ _ _ _ _ us hl => match us, hl with | [_, _], _ => rfl
  have bC : L2.Binds K fdCh ["one", "other"] [] := FC.bindsN fun _ _ _ _ _ _ us hl => match us, hl with | [_, _], _ => rfl
  have bM : L2.Binds K fdM ["_law_ask"] [] := FM.bindsN fun _ _ _ _ _ _ us hl => match us, hl with | [_], _ => rfl
  have kM := FM.kp
  obtain ⟨ocM, odM, dVM, kVM, docM, pmM, anM, cdvM, ctM, oslM, rfl, lkM, hcdM, _, _⟩ := FM.ex
  have hu64 : (A.deeper (envOfC "law" (defScope (tp 140)) s.heap.objs.size f (.ref c))).units + 64 < cLine := by have := hr.un; omega
  have kNon := KT.kt "NoneType" (by simp)
  have kBool := KT.kt "bool" (by simp)
  have kInt := KT.kt "int" (by simp)
  have kStr := KT.kt "str" (by simp)
  have kList := KT.kt "list" (by simp)
  have kTup := KT.kt "tuple" (by simp)
  refine ⟨_, (pss_cons (ps_if (pt_cmpR (op_neD hu64)
        (pe_lamcall (T := [(Pt, lamQ)]) (TT := TMet CB) (a := "_law_ask") (c := c) (P := Pt) (k := 8) (Ng := ["_law_ask", "e"]) (t := fun E => tCall (spChoice K C CB) [] E (tCons (tC (.str "a or")) (tCons (tC .non) tNil))) rfl gM kM lkM hcdM bM sc_met rfl (.inl rfl) (met_gives gB XB noB eB) TB rfl List.mem_cons_self (fun p hp _ => by rw [List.mem_singleton.mp hp] <;> rfl) (hr.mono (by decide)) (lamS_by (sc := defScope (tp 140)) (by decide +kernel)) rfl (fun _ _ _ _ _ => rfl)
          (fun A outer s H E f c' hr2 => pe_call GC hr2 rfl gC FC.kp bC .nil (passes_call (E := E) (takes_of rfl rfl rfl rfl) (fun _ _ _ _ h => h)) (pa_cons pe_str (pa_cons pe_non pa_nil))))
        (pe_tup (pa_cons pe_str (pa_cons pe_str pa_nil))) (nomark _)) (pss_one (ps_ret pe_bl)) pss_nil)
      (pss_cons (ps_if (pt_cmpR (op_neD hu64)
        (pe_lamcall (T := [(Pt, lamQ)]) (TT := TMet CB) (a := "_law_ask") (c := c) (P := Pt) (k := 8) (Ng := ["_law_ask", "e"]) (t := fun E => tCall (spChoice K C CB) [] E (tCons (tVar 8) (tCons (tC (.int 5)) tNil))) rfl gM kM lkM hcdM bM sc_met rfl (.inl rfl) (met_gives gB XB noB eB) TB rfl List.mem_cons_self (fun p hp _ => by rw [List.mem_singleton.mp hp] <;> rfl) (hr.mono (by decide)) (lamS_by (sc := defScope (tp 140)) (by decide +kernel)) rfl (fun _ _ _ _ _ => rfl)
          (fun A outer s H E f c' hr2 => pe_call GC hr2 rfl gC FC.kp bC .nil (passes_call (E := E) (takes_of rfl rfl rfl rfl) (fun _ _ _ _ h => h)) (pa_cons (pv 8) (pa_cons pe_int pa_nil))))
        (pe_tup (pa_cons pe_str (pa_cons pe_int pa_nil))) (nomark _)) (pss_one (ps_ret pe_bl)) pss_nil)
      (pss_one (ps_ret (pe_not (pe_callB (cr_any rfl) rfl gAny (by decide +kernel) (pa_cons
        (pe_lc (own := [("_law_thing", 9)]) (g := gName 9) (tt := tYes) (te := tOp (rOwn K C) (tVar 8) (tVar 9)) rfl sc_law.nd (pi_tup (pe_tup (pa_cons (pe_ix ix_tup (pv 5) pe_int (fun _ _ => rfl)) (pa_cons pe_non (pa_cons pe_bl (pa_cons (pe_lst (pa_cons (pv 8) pa_nil)) (pa_cons (pe_tup (pa_cons pe_str (pa_cons pe_str pa_nil))) pa_nil)))))))
          (blkOk_by (N := lawN) (sc := defScope (tp 140)) (by decide +kernel)) (fun _ _ _ _ _ => pg_name (i := 9) sc_law.nd rfl (Or.inl rfl)) (fun _ _ _ _ _ => pts_nil)
          (fun _ _ _ _ _ => pe_cmpR (r := rOwn K C) (op_eqOwn KT.eq KT.fn GE (hr.mono (by decide)) bE) (pv 8) (pv 9) (nomark _))) pa_nil))))))), ?_⟩
  intro De G a w1 rw_ tx a1 a2 o3 o4 due f1 s1 s2 fa wf wl gt hs1 tb q
  have eq1 : PyData.eqv (.tuple [.str "formula", .str "a or"]) (.tuple [.str "formula", .str "a or"]) = true := by simp [PyData.eqv, PyData.eqvAll]
  have eq2 : PyData.eqv (.tuple [.str "formula", .int 5]) (.tuple [.str "formula", .int 5]) = true := by simp [PyData.eqv, PyData.eqvAll]
  refine ⟨tb, fun H1 eN T1 => ?_⟩
  refine ⟨.str "a or", .non, rfl, .inr (.inl ⟨⟨fun G2 _ => ⟨⟨_, .base (.str _), kStr.1⟩, any_str (by decide +kernel)⟩, fun z e => by cases e; decide +kernel, bad_aor⟩, fun d G2 s2 hd gd => ⟨d, _, rfl, rfl, gd, fun p G3 s3 hp gp => ?_⟩⟩)⟩
  refine ⟨(by show 2 ≤ sizeLine; decide), fun p2 hp2 => ?_⟩
  have s4 := same_new hp2 (u := .tup [.str "formula", .str "a or"])
  refine ⟨.tuple [.str "formula", .str "a or"], .tuple [.str "formula", .str "a or"], .tup (SqT.of (s4 _ _ gp)) (.cons (.str _) (.cons (.str _) .nil)), .tup (SqT.of upd_same) (.cons (.str _) (.cons (.str _) .nil)), by decide +kernel, by decide +kernel, _, rfl, ?_⟩
  rw [eq1]
  refine iteF ?_
  have s14 := (s2.trans s3).trans s4
  have fa := (fm_extN eN fa).same s14
  have gt := s14 _ _ (eN _ _ gt (fun _ z => by cases z))
  have tb := T1.ext s14
  generalize upd G3 p2 (.tup [.str "formula", .str "a or"]) = G4 at fa gt tb
  clear s14 s4 hp2 gp hp s3 s2 hd gd T1 eN
  refine ⟨tb, fun H1 eN T1 => ?_⟩
  refine ⟨_, rfl, .ref a1, .int 5, rfl, .inr (.inr ⟨f1, .inl ⟨a1, rfl, fm_extN eN fa⟩, ⟨fun G2 _ => ⟨⟨_, .base (.int 5), kInt.1⟩, any_no (.base (.int 5)) (kit_ty (by decide +kernel)) (fun z e => nomatch e)⟩, (fun z e => nomatch e), rfl⟩, fun d G2 s2 hd gd => ⟨d, _, rfl, rfl, gd, fun p G3 s3 hp gp => ?_⟩⟩)⟩
  refine ⟨(by show 2 ≤ sizeLine; decide), fun p2 hp2 => ?_⟩
  have s4 := same_new hp2 (u := .tup [.str "formula", .int 5])
  refine ⟨.tuple [.str "formula", .int 5], .tuple [.str "formula", .int 5], .tup (SqT.of (s4 _ _ gp)) (.cons (.str _) (.cons (.int _) .nil)), .tup (SqT.of upd_same) (.cons (.str _) (.cons (.int _) .nil)), by decide +kernel, by decide +kernel, _, rfl, ?_⟩
  rw [eq2]
  refine iteF ?_
  have s14 := (s2.trans s3).trans s4
  have fa := (fm_extN eN fa).same s14
  have gt := s14 _ _ (eN _ _ gt (fun _ z => by cases z))
  generalize upd G3 p2 (.tup [.str "formula", .int 5]) = G5 at fa gt
  clear s14 s4 hp2 gp hp s3 s2 hd gd T1 eN
  -- no other thing is equal
  refine ⟨_, rfl, tx, _, 0, .str s1, rfl, rfl, SqT.of gt, rfl, _, rfl, (by show 1 ≤ sizeLine; decide), fun l1 hl1 => ⟨(by show 2 ≤ sizeLine; decide), fun t1 ht1 => ⟨(by show 5 ≤ sizeLine; decide), fun t2 ht2 => ?_⟩⟩⟩
  have z1 := same_new hl1 (u := .lst [.ref a1])
  have z2 := same_new ht1 (u := .tup [.str "word", .str "a"])
  have z3 := same_new ht2 (u := .tup [.str s1, .non, .bl true, .ref l1, .ref t1])
  have gl := (z2.trans z3) _ _ (upd_same (H := G5) (a := l1) (o := .lst [.ref a1]))
  have gt1 := z3 _ _ (upd_same (H := upd G5 l1 (.lst [.ref a1])) (a := t1) (o := .tup [.str "word", .str "a"]))
  have gt2 : upd (upd (upd G5 l1 (.lst [.ref a1])) t1 (.tup [.str "word", .str "a"])) t2 (.tup [.str s1, .non, .bl true, .ref l1, .ref t1]) t2 = some (.tup [.str s1, .non, .bl true, .ref l1, .ref t1]) := upd_same
  have fa6 := fa.same ((z1.trans z2).trans z3)
  generalize upd (upd (upd G5 l1 (.lst [.ref a1])) t1 (.tup [.str "word", .str "a"])) t2 (.tup [.str s1, .non, .bl true, .ref l1, .ref t1]) = G6 at gl gt1 gt2 fa6
  refine ⟨t2, rfl, ⟨_, SqT.of gt2⟩, fun D hD => ?_⟩
  have things : ∀ (i : Nat) (x : V), ([.str s1, .non, .bl true, .ref l1, .ref t1] : List V)[i]? = some x → ∀ F, Same G6 F → ∃ t ∈ ["NoneType", "bool", "int", "str", "list", "tuple"], TyX K F x (.type t) := by
    intro i x hi F s6
    have hm := List.mem_of_getElem? hi
    simp only [List.mem_cons, List.mem_nil_iff, or_false] at hm
    rcases hm with rfl | rfl | rfl | rfl | rfl
    · exact ⟨"str", by simp, .base (.str _)⟩
    · exact ⟨"NoneType", by simp, .base .non⟩
    · exact ⟨"bool", by simp, .base (.bl _)⟩
    · exact ⟨"list", by simp, .base (.lst (s6 _ _ gl))⟩
    · exact ⟨"tuple", by simp, .base (.tup (s6 _ _ gt1))⟩
  refine lc_tup (K := K) (a := t2) (xs := [.str s1, .non, .bl true, .ref l1, .ref t1]) (fun i F => Same G6 F ∧ F D = some (.lst ((List.replicate i false).map V.bl))) ⟨same_new hD, upd_same⟩ (fun i F _ h => SqT.of (h.1 _ _ gt2)) ?_ ?_
  · rintro i x F hi ⟨s6, gD⟩
    have hi5 : i < 5 := (List.getElem?_eq_some_iff.mp hi).1
    obtain ⟨t, ht, ty⟩ := things i x hi F s6
    obtain ⟨dx, pc, h1, h2⟩ := id (fa6.same s6)
    refine ⟨rfl, yes_ite ?_⟩
    refine ⟨_, rfl, _, rfl, a1, dx, _, rfl, h1, ⟨_, ty, (KT.kt t ht).2⟩, a1, x, f1, rfl, fa6.same s6, wf, .inr ⟨⟨_, ty, (KT.kt t ht).1⟩, false, rfl, ?_⟩⟩
    refine ⟨_, gD, ?_, ?_, ?_⟩
    · rw [List.length_map, List.length_replicate]
      exact Nat.lt_trans hi5 (by decide)
    · intro b o hb
      rw [upd_ne (ne_of_none hb hD)]
      exact s6 _ _ hb
    · rw [upd_same, List.replicate_succ', List.map_append] <;> rfl
  · rintro F ⟨s6, gD⟩
    refine ⟨D, List.replicate 5 false, rfl, SqL.of gD, _, rfl, ?_⟩
    exact q F
end
end Fx
set_option maxHeartbeats 8000000
namespace Fx
open PySem PySem.Spec PyProof.Rows L2 TL LamX
theorem wt_len (l : List Str) : l.length ≤ wt l := by
  induction l with
  | nil => exact Nat.zero_le _
  | cons a l ih =>
    rw [wt_cons, List.length_cons]
    omega
theorem diff_none {t u : LT} {f g : Fm} (h : Rel t f) (h2 : Rel u g) : (diffN f g == 0) = (firstL t u).isNone := by
  rw [← choice_first h h2, Bool.eq_iff_iff, beq_iff_eq, Option.isNone_iff_eq_none]
  exact (choice_none h.wf h2.wf).symm
theorem first_self {t : LT} {f : Fm} (h : Rel t f) : firstL t t = none := by
  rw [← choice_first h h, choice_none h.wf h.wf]
  unfold diffN
  exact Nat.xor_self _
theorem both_len {t u : LT} {f g : Fm} (h : Rel t f) (h2 : Rel u g) (k : GoodT t) (k2 : GoodT u) : (wordsBoth f g).length ≤ 16 := by
  rw [words_two h h2]
  exact two_len k k2
theorem rd_choice {K : PySem.W.Frag} {C CB : Addr} {G : Hp} {x y : V} {t u : LT} {f g : Fm} {Q : VK} {E : XK} (ax : ArgF G C x f) (ay : ArgF G C y g) (h : Rel t f) (h2 : Rel u g) (wf : wt (post f) ≤ 30000) (wg : wt (post g) ≤ 30000) (k : GoodT t) (k2 : GoodT u)
    (q : ∀ v G', Same G G' → DueAt G' v (firstL t u) → Q v G') : spChoice K C CB [x, y] G Q E := by
  have l1 := wt_len (post f)
  have l2 := wt_len (post g)
  refine ⟨x, y, rfl, .inl ⟨f, g, ax, ay, h.wf, h2.wf, by omega, both_len h h2 k k2, fun e G' s => q _ G' s ?_, fun l e p G' s hp gp => q _ G' s ?_⟩⟩
  · rw [← choice_first h h2, e]
    exact rfl
  · rw [← choice_first h h2, e]
    exact ⟨p, rfl, gp⟩
theorem rd_first {H : Hp} {x y : V} {t u : LT} {Q : VK} {E : XK} (tx : TreeAt H t x) (ty : TreeAt H u y) (k : GoodT t) (k2 : GoodT u) (q : ∀ v G', Same H G' → DueAt G' v (firstL t u) → Q v G') : spFirst 9 [x, y] H Q E :=
  ⟨x, y, t, u, rfl, tx, ty, k.dep, k2.dep, k.siz, k2.siz, k.ok, k2.ok, two_len k k2, fun e G s => q _ G s (by rw [e]; exact rfl), fun l e p G s gp => q _ G s (by rw [e]; exact ⟨p, rfl, gp⟩)⟩
theorem iteF' {p q : Prop} {b : Bool} (e : b = false) (h : q) : if b = true then p else q := by
  subst e
  exact h
theorem dec_bl {a b : Bool} : decide (V.bl a = V.bl b) = (a == b) := by
  cases a <;> cases b <;> rfl
def rOwnN (K : PySem.W.Frag) (C : Addr) : R2 := fun x y H Q => ∃ (a dx : Addr) (fs : List (Str × V)), x = .ref a ∧ H a = some (.ins C dx fs) ∧ Beside K C H y ∧ spFEq K C [.ref a, y] H (fun v G => ∃ c, v = .bl c ∧ Q (.bl (!c)) G) E0
theorem rd_eqF {K : PySem.W.Frag} {mg : Str → Option Value} {C fI a b : Addr} {G : Hp} {t u : LT} {f g : Fm} {Q : VK} (X : FCls K C) (M : MTxt K mg C fI) (fa : FmAt G C a (post f)) (fb : FmAt G C b (post g)) (h : Rel t f) (h2 : Rel u g) (wf : wt (post f) ≤ 30000) (wg : wt (post g) ≤ 30000) (k : GoodT t) (k2 : GoodT u)
    (q : ∀ G', Same G G' → Q (.bl (firstL t u).isNone) G') : rOwn K C (.ref a) (.ref b) G Q := by
  obtain ⟨dx, p, h1, h3⟩ := id fa
  obtain ⟨dx2, p2, h12, h32⟩ := id fb
  have l1 := wt_len (post f)
  have l2 := wt_len (post g)
  refine ⟨a, dx, _, rfl, h1, own_beside X M h12, a, .ref b, f, rfl, fa, h.wf, .inl ⟨b, g, rfl, fb, h2.wf, by omega, both_len h h2 k k2, fun G' s => ⟨_, rfl, ?_⟩⟩⟩
  rw [diff_none h h2]
  exact q G' s
theorem rd_neF {K : PySem.W.Frag} {mg : Str → Option Value} {C fI a b : Addr} {G : Hp} {t u : LT} {f g : Fm} {Q : VK} (X : FCls K C) (M : MTxt K mg C fI) (fa : FmAt G C a (post f)) (fb : FmAt G C b (post g)) (h : Rel t f) (h2 : Rel u g) (wf : wt (post f) ≤ 30000) (wg : wt (post g) ≤ 30000) (k : GoodT t) (k2 : GoodT u)
    (q : ∀ G', Same G G' → Q (.bl (!(firstL t u).isNone)) G') : rOwnN K C (.ref a) (.ref b) G Q := by
  obtain ⟨dx, p, h1, h3⟩ := id fa
  obtain ⟨dx2, p2, h12, h32⟩ := id fb
  have l1 := wt_len (post f)
  have l2 := wt_len (post g)
  refine ⟨a, dx, _, rfl, h1, own_beside X M h12, a, .ref b, f, rfl, fa, h.wf, .inl ⟨b, g, rfl, fb, h2.wf, by omega, both_len h h2 k k2, fun G' s => ⟨_, rfl, ?_⟩⟩⟩
  rw [diff_none h h2]
  exact q G' s
section
variable {P : Program} {w : World} {K : PySem.W.Frag} {mg : Str → Option Value} {base : Heap} {f c Pt C CB fI fE fCh fM fF : Addr} {fd fdI fdE fdCh fdM fdF : FuncData}
def MidC (C Pt : Addr) (t : TS) : Prop := ∀ (De : Ends) (G : Hp) (a w1 rw tx a1 a2 : Addr) (o3 o4 due : V) (t1 t2 : LT) (f1 f2 : Fm), TreeAt G t1 o3 → TreeAt G t2 o4 → GoodT t1 → GoodT t2 → Rel t1 f1 → Rel t2 f2 → wt (post f1) ≤ 30000 → wt (post f2) ≤ 30000 →
  FmAt G C a1 (post f1) → FmAt G C a2 (post f2) → G tx = some (.tup [.str (txtN 9 t1), .str (txtN 9 t2)]) → signsOf (txtN 9 t1) ≠ [] → codeOf (signsOf (txtN 9 t1)) = post f1 → signsOf (txtN 9 t2) ≠ [] → codeOf (signsOf (txtN 9 t2)) = post f2 → DueAt G due (firstL t1 t2) → Tabs [(Pt, lamQ)] G → (∀ G', De.rt (.bl true) G') →
  t De [some (.ref a), some (.ref w1), some (.ref rw), some o3, some o4, some (.ref tx), some (.ref a2), some due, some (.ref a1), none] G
theorem midC {A : Around} {outer : List Env} {s : Shared} {H : Hp} {E : XK} (hr : Room 13 (A.deeper (envOfC "law" (defScope (tp 140)) s.heap.objs.size f (.ref c)))) (N : NTxt K mg) (X : FCls K C) (M : MTxt K mg C fI) (KT : KTxt K C fE) (TB : TabB base mg c Pt) (gAny : mg "any" = none)
    (gB : mg "BadFormula" = some (.ref CB)) (XB : XfC K CB) (noB : PySem.W.findIn K (.ref CB) "text" = some none) (eB : PySem.W.exmOne K (.ref CB) (.ref CB) = some true)
    (GE : FnOk P w K mg base CX0 4 fE fdE ["self", "other"] (spFEq K C)) (FE : FnI K "Formula.__eq__" "__eq__" 13 6 fE fdE)
    (GC : FnOk P w K mg base (L2.CX P w) 8 fCh fdCh ["one", "other"] (spChoice K C CB)) (FC : FnT K "choice" 116 fCh fdCh) (gC : mg "choice" = some (.ref fCh))
    (GF : FnOk P w K mg base CX0 12 fF fdF ["_law_one", "_law_other"] (spFirst 9)) (FF : FnT K "_law_first" 138 fF fdF) (gF : mg "_law_first" = some (.ref fF))
    (FM : FnT K "_law_met" 139 fM fdM) (gM : mg "_law_met" = some (.ref fM)) :
    ∃ t, PSs (XLaw P w K mg base f c A outer s H E) ((defBody (tp 140)).drop 8) t ∧ MidC C Pt t := by
  have bE : L2.Binds K fdE ["self", "other"] [] := FE.bindsN fun _ _ _ _ _ _ us hl => match us, hl with | [_, _], _ => rfl
  have bC : L2.Binds K fdCh ["one", "other"] [] := FC.bindsN fun _ _ _ _ _ _ us hl => match us, hl with | [_, _], _ => rfl
  have bF : L2.Binds K fdF ["_law_one", "_law_other"] [] := FF.bindsN fun _ _ _ _ _ _ us hl => match us, hl with | [_, _], _ => rfl
  have hu64 : (A.deeper (envOfC "law" (defScope (tp 140)) s.heap.objs.size f (.ref c))).units + 64 < cLine := by have := hr.un; omega
  obtain ⟨tt, pt, kt⟩ := tailC (f := f) (outer := outer) (s := s) (H := H) (E := E) (hr.mono (by decide)) N X M KT TB gAny gB XB noB eB GE FE GC FC gC FM gM
  refine ⟨_, (
    pss_cons (ps_if (PW.pt (pw_or (pt_cmpR (op_neD hu64) (pe_call GC (hr.mono (by decide)) rfl gC FC.kp bC .nil passL (pa_cons (pv 8) (pa_cons (pv 6) pa_nil))) (pv 7) (nomark _))
        (pw_or1 (pt_cmpR op_ne (pe_cmpR (r := rOwn K C) (op_eqOwn KT.eq KT.fn GE (hr.mono (by decide)) bE) (pv 8) (pv 6) (nomark _)) (pe_cmpR op_isN (pv 7) pe_non (nomark _)) (nomark _))))) (pss_one (ps_ret pe_bl)) pss_nil)
    (pss_cons (ps_if (pt_cmpR op_eq (pe_cmpR (r := rOwnN K C) (op_neOwn KT.ne M.mr KT.eq KT.fn GE (hr.mono (by decide)) bE) (pv 8) (pv 6) (nomark _)) (pe_cmpR op_isN (pv 7) pe_non (nomark _)) (nomark _)) (pss_one (ps_ret pe_bl)) pss_nil)
    (pss_cons (ps_if (PW.pt (pw_or (pt_cmpR (op_neD hu64) (pe_call GC (hr.mono (by decide)) rfl gC FC.kp bC .nil passL (pa_cons (pv 6) (pa_cons (pv 8) pa_nil))) (pe_call GF (hr.mono (by decide)) rfl gF FF.kp bF .nil pass0 (pa_cons (pv 4) (pa_cons (pv 3) pa_nil))) (nomark _))
        (pw_or1 (pt_cmpR op_notN (pe_call GC (hr.mono (by decide)) rfl gC FC.kp bC .nil passL (pa_cons (pv 8) (pa_cons (pv 8) pa_nil))) pe_non (nomark _))))) (pss_one (ps_ret pe_bl)) pss_nil)
    (pss_cons (ps_if (PW.pt (pw_or (pt_cmpR (op_neD hu64) (pe_call GC (hr.mono (by decide)) rfl gC FC.kp bC .nil passL (pa_cons (pe_ix ix_tup (pv 5) pe_int (fun _ _ => rfl)) (pa_cons (pv 6) pa_nil))) (pv 7) (nomark _))
        (pw_or1 (pt_cmpR (op_neD hu64) (pe_call GC (hr.mono (by decide)) rfl gC FC.kp bC .nil passL (pa_cons (pv 8) (pa_cons (pe_ix ix_tup (pv 5) pe_int (fun _ _ => rfl)) pa_nil))) (pv 7) (nomark _))))) (pss_one (ps_ret pe_bl)) pss_nil)
    pt)))), ?_⟩
  intro De G a w1 rw_ tx a1 a2 o3 o4 due t1 t2 f1 f2 tr1 tr2 k1 k2 r1 r2 wl1 wl2 fa1 fa2 gt n1 c1 n2 c2 hd tb q
  -- choice, and ==
  refine ⟨_, rfl, _, rfl, ?_⟩
  dsimp only [tNil]
  refine rd_choice (.inl ⟨a1, rfl, fa1⟩) (.inl ⟨a2, rfl, fa2⟩) r1 r2 wl1 wl2 k1 k2 fun v G1 s1 hv => ?_
  refine ⟨_, rfl, ?_⟩
  refine rd_ne hv (hd.same s1) (fun l e => first_in k1 k2 e) ⟨_, rfl, iteF ?_⟩
  refine ⟨_, rfl, _, rfl, ?_⟩
  refine rd_eqF X M (fa1.same s1) (fa2.same s1) r1 r2 wl1 wl2 k1 k2 fun G2 s2 => ?_
  have s02 := s1.trans s2
  refine ⟨_, rfl, rfl, rfl, _, rfl, ?_⟩
  rw [dec_bl, due_none (hd.same s02)]
  refine iteF' (by simp) ?_
  -- !=
  refine ⟨_, rfl, _, rfl, ?_⟩
  refine rd_neF X M (fa1.same s02) (fa2.same s02) r1 r2 wl1 wl2 k1 k2 fun G3 s3 => ?_
  have s03 := s02.trans s3
  refine ⟨_, rfl, rfl, rfl, _, rfl, ?_⟩
  rw [dec_bl, due_none (hd.same s03)]
  refine iteF' (by cases (firstL t1 t2).isNone <;> rfl) ?_
  -- the other way; of one
  refine ⟨_, rfl, _, rfl, ?_⟩
  dsimp only [tNil]
  refine rd_choice (.inl ⟨a2, rfl, fa2.same s03⟩) (.inl ⟨a1, rfl, fa1.same s03⟩) r2 r1 wl2 wl1 k2 k1 fun v4 G4 s4 hv4 => ?_
  have s04 := s03.trans s4
  refine ⟨_, rfl, _, rfl, ?_⟩
  dsimp only [tNil]
  refine rd_first (treeAt_same s04 tr2) (treeAt_same s04 tr1) k2 k1 fun v5 G5 s5 hv5 => ?_
  have s05 := s04.trans s5
  refine rd_ne (hv4.same s5) hv5 (fun l e => first_in k2 k1 e) ⟨_, rfl, iteF ?_⟩
  refine ⟨_, rfl, _, rfl, ?_⟩
  dsimp only [tNil]
  refine rd_choice (.inl ⟨a1, rfl, fa1.same s05⟩) (.inl ⟨a1, rfl, fa1.same s05⟩) r1 r1 wl1 wl1 k1 k1 fun v6 G6 s6 hv6 => ?_
  have s06 := s05.trans s6
  rw [first_self r1] at hv6
  have e6 : v6 = .non := hv6
  subst e6
  refine ⟨rfl, _, rfl, iteF ?_⟩
  -- texts
  refine ⟨_, rfl, tx, _, 0, _, rfl, rfl, SqT.of (s06 _ _ gt), rfl, _, rfl, ?_⟩
  dsimp only [tNil]
  refine rd_choice (.inr ⟨_, rfl, k1.txl, n1, c1⟩) (.inl ⟨a2, rfl, fa2.same s06⟩) r1 r2 wl1 wl2 k1 k2 fun v7 G7 s7 hv7 => ?_
  have s07 := s06.trans s7
  refine ⟨_, rfl, ?_⟩
  refine rd_ne hv7 (hd.same s07) (fun l e => first_in k1 k2 e) ⟨_, rfl, iteF ?_⟩
  refine ⟨_, rfl, _, rfl, tx, _, 1, _, rfl, rfl, SqT.of (s07 _ _ gt), rfl, ?_⟩
  dsimp only [tNil]
  refine rd_choice (.inl ⟨a1, rfl, fa1.same s07⟩) (.inr ⟨_, rfl, k2.txl, n2, c2⟩) r1 r2 wl1 wl2 k1 k2 fun v8 G8 s8 hv8 => ?_
  have s08 := s07.trans s8
  refine ⟨_, rfl, ?_⟩
  refine rd_ne hv8 (hd.same s08) (fun l e => first_in k1 k2 e) ⟨_, rfl, iteF ?_⟩
  exact kt _ G8 _ _ _ _ _ _ _ _ _ _ _ _ (fa1.same s08) r1.wf wl1 (s08 _ _ gt) k1.txl (tb.ext s08) q
end
end Fx
set_option maxHeartbeats 8000000
namespace Fx
open PySem PySem.Spec PyProof.Rows L2 TL LamX
theorem rd_mkR {K : PySem.W.Frag} {C CB : Addr} {G : Hp} {R : Addr → Hp → Prop} {z : Str} (hz : z.length ≤ 3900) (hs : signsOf z ≠ []) (q : ∀ a G2, Same G G2 → G a = none → FmAt G2 C a (codeOf (signsOf z)) → R a G2) :
    ∀ x dx, G x = none → G dx = none → dx ≠ x → spInitF K C CB (.ref x :: ([.str z] ++ [])) (upd (upd G dx (.own x)) x (.ins C dx [])) (fun v H2 => v = .non ∧ R x H2) E0 :=
  rd_mkF (Q := fun v H2 => match v with | .ref a => R a H2 | _ => True) hz hs q
theorem rd_ltext {t : LT} {v : V} {H : Hp} {Q : VK} {E : XK} (tr : TreeAt H t v) (k : GoodT t) (q : ∀ G, Same H G → Q (.str (txtN 9 t)) G) : spLText 9 [v] H Q E :=
  ⟨v, t, rfl, tr, k.dep, Nat.le_trans k.len (by decide), q⟩
section
variable {P : Program} {w : World} {K : PySem.W.Frag} {mg : Str → Option Value} {base : Heap} {f c Pt C CB fI fE fCh fM fF fTx : Addr} {fd fdI fdE fdCh fdM fdF fdTx : FuncData}
def LateC (C Pt : Addr) (t : TS) : Prop := ∀ (De : Ends) (G : Hp) (a w1 rw : Addr) (o3 o4 : V) (t1 t2 : LT), TreeAt G t1 o3 → TreeAt G t2 o4 → GoodT t1 → GoodT t2 → Tabs [(Pt, lamQ)] G → (∀ G', De.rt (.bl true) G') →
  t De [some (.ref a), some (.ref w1), some (.ref rw), some o3, some o4, none, none, none, none, none] G
theorem lateC {A : Around} {outer : List Env} {s : Shared} {H : Hp} {E : XK} (hr : Room 20 (A.deeper (envOfC "law" (defScope (tp 140)) s.heap.objs.size f (.ref c)))) (N : NTxt K mg) (X : FCls K C) (M : MTxt K mg C fI) (KT : KTxt K C fE) (TB : TabB base mg c Pt) (gAny : mg "any" = none)
    (gB : mg "BadFormula" = some (.ref CB)) (XB : XfC K CB) (noB : PySem.W.findIn K (.ref CB) "text" = some none) (eB : PySem.W.exmOne K (.ref CB) (.ref CB) = some true)
    (GE : FnOk P w K mg base CX0 4 fE fdE ["self", "other"] (spFEq K C)) (FE : FnI K "Formula.__eq__" "__eq__" 13 6 fE fdE)
    (GC : FnOk P w K mg base (L2.CX P w) 8 fCh fdCh ["one", "other"] (spChoice K C CB)) (FC : FnT K "choice" 116 fCh fdCh) (gC : mg "choice" = some (.ref fCh))
    (GF : FnOk P w K mg base CX0 12 fF fdF ["_law_one", "_law_other"] (spFirst 9)) (FF : FnT K "_law_first" 138 fF fdF) (gF : mg "_law_first" = some (.ref fF))
    (FM : FnT K "_law_met" 139 fM fdM) (gM : mg "_law_met" = some (.ref fM))
    (GT : FnOk P w K mg base CX0 19 fTx fdTx ["_law_tree_here"] (spLText 9)) (FT : FnT K "_law_text" 31 fTx fdTx) (gT : mg "_law_text" = some (.ref fTx))
    (GI : FnOk P w K mg base (L2.CX P w) 5 fI fdI ["self", "text"] (spInitF K C CB)) (FI : FnI K "Formula.__init__" "__init__" 13 0 fI fdI) :
    ∃ t, PSs (XLaw P w K mg base f c A outer s H E) ((defBody (tp 140)).drop 5) t ∧ LateC C Pt t := by
  have bF : L2.Binds K fdF ["_law_one", "_law_other"] [] := FF.bindsN fun _ _ _ _ _ _ us hl => match us, hl with | [_, _], _ => rfl
  have bT : L2.Binds K fdTx ["_law_tree_here"] [] := FT.bindsN fun _ _ _ _ _ _ us hl => match us, hl with | [_], _ => rfl
  have bI : L2.Binds K fdI ["self", "text"] [] := FI.bindsN fun _ _ _ _ _ _ us hl => match us, hl with | [_, _], _ => rfl
  have gFo := M.g
  have MF := M.mkr
  obtain ⟨tt, pt, kt⟩ := midC (f := f) (outer := outer) (s := s) (H := H) (E := E) (hr.mono (by decide)) N X M KT TB gAny gB XB noB eB GE FE GC FC gC GF FF gF FM gM
  refine ⟨_, (
    pss_cons (ps_set (i := 5) sc_law.nd rfl (Or.inl rfl) (pe_tup (pa_cons (pe_call GT (hr.mono (by decide)) rfl gT FT.kp bT .nil pass0 (pa_cons (pv 3) pa_nil)) (pa_cons (pe_call GT (hr.mono (by decide)) rfl gT FT.kp bT .nil pass0 (pa_cons (pv 4) pa_nil)) pa_nil))))
    (pss_cons (ps_asg (pe_tup (pa_cons (pe_make MF GI (hr.mono (by decide)) rfl gFo bI .nil passL (pa_cons (pe_ix ix_tup (pv 5) pe_int (fun _ _ => rfl)) pa_nil)) (pa_cons (pe_make MF GI (hr.mono (by decide)) rfl gFo bI .nil passL (pa_cons (pe_ix ix_tup (pv 5) pe_int (fun _ _ => rfl)) pa_nil)) pa_nil)))
        (pg_tup (by rfl) (pgs_cons (pg_name (i := 8) sc_law.nd rfl (Or.inr rfl)) (pgs_cons (pg_name (i := 6) sc_law.nd rfl (Or.inl rfl)) pgs_nil))))
    (pss_cons (ps_set (i := 7) sc_law.nd rfl (Or.inl rfl) (pe_call GF (hr.mono (by decide)) rfl gF FF.kp bF .nil pass0 (pa_cons (pv 3) (pa_cons (pv 4) pa_nil))))
    pt))), ?_⟩
  intro De G a w1 rw_ o3 o4 t1 t2 tr1 tr2 k1 k2 tb q
  obtain ⟨f1, r1, n1, c1, wl1⟩ := k1.rd
  obtain ⟨f2, r2, n2, c2, wl2⟩ := k2.rd
  refine ⟨_, rfl, ?_⟩
  dsimp only [tNil]
  refine rd_ltext tr1 k1 fun G1 s1 => ?_
  refine ⟨_, rfl, ?_⟩
  dsimp only [tNil]
  refine rd_ltext (treeAt_same s1 tr2) k2 fun G2 s2 => ⟨(by show 2 ≤ sizeLine; decide), fun tx htx => ?_⟩
  have s02 := (s1.trans s2).trans (same_new htx (u := .tup [.str (txtN 9 t1), .str (txtN 9 t2)]))
  have gt : upd G2 tx (.tup [.str (txtN 9 t1), .str (txtN 9 t2)]) tx = some (.tup [.str (txtN 9 t1), .str (txtN 9 t2)]) := upd_same
  generalize upd G2 tx (.tup [.str (txtN 9 t1), .str (txtN 9 t2)]) = G3 at s02 gt
  refine ⟨_, rfl, tx, _, 0, _, rfl, rfl, SqT.of gt, rfl, ?_⟩
  refine rd_mkR k1.txl n1 fun a1 G4 s4 _ fa1 => ?_
  refine ⟨_, rfl, tx, _, 1, _, rfl, rfl, SqT.of (s4 _ _ gt), rfl, ?_⟩
  refine rd_mkR k2.txl n2 fun a2 G5 s5 _ fa2 => ?_
  refine ⟨(by show 2 ≤ sizeLine; decide), fun tp2 htp => ?_⟩
  have s6 := same_new htp (u := .tup [.ref a1, .ref a2])
  refine ⟨tp2, _, rfl, SqT.of upd_same, rfl, _, _, rfl, _, _, rfl, rfl, ?_⟩
  have s36 := (s4.trans s5).trans s6
  have s06 := s02.trans s36
  have fa1 := (fa1.same s5).same s6
  have fa2 := fa2.same s6
  generalize upd G5 tp2 (.tup [.ref a1, .ref a2]) = G6 at s36 s06 fa1 fa2
  refine ⟨_, rfl, _, rfl, ?_⟩
  dsimp only [tNil]
  refine rd_first (treeAt_same s06 tr1) (treeAt_same s06 tr2) k1 k2 fun due G7 s7 hd => ?_
  have s07 := s06.trans s7
  rw [c1] at fa1
  rw [c2] at fa2
  exact kt _ G7 _ _ _ _ _ _ _ _ _ _ _ _ _ (treeAt_same s07 tr1) (treeAt_same s07 tr2) k1 k2 r1 r2 wl1 wl2 (fa1.same s7) (fa2.same s7) ((s36.trans s7) _ _ gt) n1 c1 n2 c2 hd (tb.ext s07) q
end
end Fx
set_option maxHeartbeats 8000000
namespace Fx
open PySem PySem.Spec PyProof.Rows L2 TL LamX
theorem cut_strs (xs : List Str) (lo hi : Option Int) : ∃ ms : List Str, cutV (xs.map V.str) lo hi = ms.map V.str ∧ (∀ z ∈ ms, z ∈ xs) ∧ ms.length ≤ xs.length := by
  refine ⟨(xs.drop (HT.sIx (xs.map V.str).length 0 lo)).take (HT.sIx (xs.map V.str).length (xs.map V.str).length hi - HT.sIx (xs.map V.str).length 0 lo), ?_, fun z h => ?_, ?_⟩
  · unfold cutV
    rw [List.map_take, List.map_drop]
  · exact List.mem_of_mem_drop (List.mem_of_mem_take h)
  · have w1 := List.length_take_le' (HT.sIx (xs.map V.str).length (xs.map V.str).length hi - HT.sIx (xs.map V.str).length 0 lo) (xs.drop (HT.sIx (xs.map V.str).length 0 lo))
    rw [List.length_drop] at w1
    omega
def spLaw (K : PySem.W.Frag) (Pt : Addr) : Sp := fun vs H Q _ => ∃ (a : Addr) (ns : List Int), vs = [.ref a] ∧ SqL K H a (ns.map V.int) ∧ H Pt = some (.tbl #[]) ∧ ∀ G, Q (.bl true) G
section
variable {P : Program} {w : World} {K : PySem.W.Frag} {mg : Str → Option Value} {base : Heap} {f c Pt C CB fI fE fCh fM fF fTx fCe fRo fTr fTu : Addr} {fd fdI fdE fdCh fdM fdF fdTx fdCe fdRo fdTr fdTu : FuncData}
/-- a tree, by a cell and some of the words -/
theorem rd_tree {H G : Hp} {Q : VK} {lf wd : Addr} {ns : List Int} {ms : List Str} {E : XK} (hn : H lf = none) (s : Same H G) (g : G lf = some (.lst (ns.map V.int))) (ne : wd ≠ lf) (gw : G wd = some (.lst (ms.map V.str))) (hm : ∀ z ∈ ms, z ∈ ten) (hl : ms.length ≤ 10)
    (q : ∀ T v G', LtOk ten 3 T → Same H G' → TreeAt G' T v → Q v G') : spTree K 3 [.ref lf, .ref wd, .int 3] G Q E := by
  refine ⟨lf, wd, ns, ms, rfl, g, SqL.of (hid_at ne gw), by omega, fun T v G' ns' ok fr _ tr => ?_⟩
  refine q T v G' (lt_sub hm 3 T ok) ?_ (treeAt_same (fun b o h => (nw_some h).2) tr)
  intro b o hb
  exact fr b o (ne_of_none hb hn) (s _ _ hb)
theorem row3 {rs : List Int} {x y z : Int} (h : Rng rs [x, y, z]) : ∃ a b c, rs = [a, b, c] := by
  match rs, h.len with
  | [a, b, c], _ => exact ⟨a, b, c, rfl⟩
theorem ok_law (F : FnT K "law" 140 f fd) (hcode : fd.code = .ref c) (N : NTxt K mg) (X : FCls K C) (M : MTxt K mg C fI) (KT : KTxt K C fE) (TB : TabB base mg c Pt) (gAny : mg "any" = none)
    (gB : mg "BadFormula" = some (.ref CB)) (XB : XfC K CB) (noB : PySem.W.findIn K (.ref CB) "text" = some none) (eB : PySem.W.exmOne K (.ref CB) (.ref CB) = some true)
    (GE : FnOk P w K mg base CX0 4 fE fdE ["self", "other"] (spFEq K C)) (FE : FnI K "Formula.__eq__" "__eq__" 13 6 fE fdE)
    (GC : FnOk P w K mg base (L2.CX P w) 8 fCh fdCh ["one", "other"] (spChoice K C CB)) (FC : FnT K "choice" 116 fCh fdCh) (gC : mg "choice" = some (.ref fCh))
    (GF : FnOk P w K mg base CX0 12 fF fdF ["_law_one", "_law_other"] (spFirst 9)) (FF : FnT K "_law_first" 138 fF fdF) (gF : mg "_law_first" = some (.ref fF))
    (FM : FnT K "_law_met" 139 fM fdM) (gM : mg "_law_met" = some (.ref fM))
    (GT : FnOk P w K mg base CX0 19 fTx fdTx ["_law_tree_here"] (spLText 9)) (FT : FnT K "_law_text" 31 fTx fdTx) (gT : mg "_law_text" = some (.ref fTx))
    (GI : FnOk P w K mg base (L2.CX P w) 5 fI fdI ["self", "text"] (spInitF K C CB)) (FI : FnI K "Formula.__init__" "__init__" 13 0 fI fdI)
    (FCe : FnT K "_law_cell" 26 fCe fdCe) (gCe : mg "_law_cell" = some (.ref fCe)) (GCe : FnOk P w K mg base CX0 1 fCe fdCe ["_law_script", "_law_k"] (spCell K))
    (FRo : FnT K "_law_row" 27 fRo fdRo) (gRo : mg "_law_row" = some (.ref fRo)) (GRo : FnOk P w K mg base CX0 1 fRo fdRo ["_law_cell_here", "_law_sizes"] (spRow K))
    (FTr : FnT K "_law_tree" 28 fTr fdTr) (gTr : mg "_law_tree" = some (.ref fTr)) (GTr : FnOk P w K mg base CX0 4 fTr fdTr ["_law_left", "_law_words", "_law_depth"] (spTree K 3))
    (FTu : FnT K "_law_turned" 137 fTu fdTu) (gTu : mg "_law_turned" = some (.ref fTu)) (GTu : FnOk P w K mg base CX0 5 fTu fdTu ["_law_tree_here", "_law_way"] (spTurned 4)) :
    FnOk P w K mg base CX0 21 f fd ["_law_script"] (spLaw K Pt) := by
  have bCe : L2.Binds K fdCe ["_law_script", "_law_k"] [] := FCe.bindsN fun _ _ _ _ _ _ us hl => match us, hl with | [_, _], _ => rfl
  have bRo : L2.Binds K fdRo ["_law_cell_here", "_law_sizes"] [] := FRo.bindsN fun _ _ _ _ _ _ us hl => match us, hl with | [_, _], _ => rfl
  have bTr : L2.Binds K fdTr ["_law_left", "_law_words", "_law_depth"] [] := FTr.bindsN fun _ _ _ _ _ _ us hl => match us, hl with | [_, _, _], _ => rfl
  have bTu : L2.Binds K fdTu ["_law_tree_here", "_law_way"] [] := FTu.bindsN fun _ _ _ _ _ _ us hl => match us, hl with | [_, _], _ => rfl
  obtain ⟨oc, od, dV, kV, doc, pm, an, cdv, ct, osl, rfl, lk, hcd, _, _⟩ := F.ex
  have ecd : cdv = .ref c := hcode
  subst ecd
  refine fn_of lk hcd sc_law (fun vs H Q E h => ?_) (fun A outer s H vs Q E hr h => ?_)
  · obtain ⟨a, ns, rfl, _⟩ := h
    rfl
  obtain ⟨tt, pt, kt⟩ := lateC (f := f) (outer := outer) (s := s) (H := H) (E := E) hr N X M KT TB gAny gB XB noB eB GE FE GC FC gC GF FF gF FM gM GT FT gT GI FI
  refine ⟨_, PSs.nox (
    pss_cons (ps_set (i := 1) sc_law.nd rfl (Or.inl rfl) (pe_lst (pa_cons pe_str (pa_cons pe_str (pa_cons pe_str (pa_cons pe_str (pa_cons pe_str (pa_cons pe_str (pa_cons pe_str (pa_cons pe_str (pa_cons pe_str (pa_cons pe_str pa_nil))))))))))))
    (pss_cons (ps_set (i := 2) sc_law.nd rfl (Or.inl rfl) (pe_call GRo (hr.mono (by decide)) rfl gRo FRo.kp bRo .nil pass0 (pa_cons (pe_call GCe (hr.mono (by decide)) rfl gCe FCe.kp bCe .nil pass0 (pa_cons (pv 0) (pa_cons pe_int pa_nil))) (pa_cons (pe_lst (pa_cons pe_int (pa_cons pe_int (pa_cons pe_int pa_nil)))) pa_nil))))
    (pss_cons (ps_set (i := 3) sc_law.nd rfl (Or.inl rfl) (pe_call GTr (hr.mono (by decide)) rfl gTr FTr.kp bTr .nil pass0 (pa_cons (pe_call GRo (hr.mono (by decide)) rfl gRo FRo.kp bRo .nil pass0 (pa_cons (pe_call GCe (hr.mono (by decide)) rfl gCe FCe.kp bCe .nil pass0 (pa_cons (pv 0) (pa_cons pe_int pa_nil))) (pa_cons (pe_op op_rep (pe_lst (pa_cons pe_int pa_nil)) pe_int) pa_nil)))
        (pa_cons (pe_slice sl_list (pv 1) po_none (po_some (pe_ix ix_list (pv 2) pe_int (fun _ _ => rfl)))) (pa_cons pe_int pa_nil)))))
    (pss_cons (ps_set (i := 4) sc_law.nd rfl (Or.inl rfl) (pe_call GTr (hr.mono (by decide)) rfl gTr FTr.kp bTr .nil pass0 (pa_cons (pe_call GRo (hr.mono (by decide)) rfl gRo FRo.kp bRo .nil pass0 (pa_cons (pe_call GCe (hr.mono (by decide)) rfl gCe FCe.kp bCe .nil pass0 (pa_cons (pv 0) (pa_cons pe_int pa_nil))) (pa_cons (pe_op op_rep (pe_lst (pa_cons pe_int pa_nil)) pe_int) pa_nil)))
        (pa_cons (pe_slice sl_list (pv 1) (po_some (pe_op op_sub pe_int (pe_ix ix_list (pv 2) pe_int (fun _ _ => rfl)))) po_none) (pa_cons pe_int pa_nil)))))
    (pss_cons (ps_if (pt_cmpR op_lt (pe_ix ix_list (pv 2) pe_int (fun _ _ => rfl)) pe_int (nomark _))
        (pss_one (ps_set (i := 4) sc_law.nd rfl (Or.inl rfl) (pe_call GTu (hr.mono (by decide)) rfl gTu FTu.kp bTu .nil pass0 (pa_cons (pv 3) (pa_cons (pe_ix ix_list (pv 2) pe_int (fun _ _ => rfl)) pa_nil))))) pss_nil)
    pt))))), ?_⟩
  obtain ⟨a, ns, rfl, hs, hPt, q⟩ := h
  have tb : Tabs [(Pt, lamQ)] H := fun p hp => by
    rw [List.mem_singleton.mp hp]
    exact TabS.nil hPt
  -- words
  refine ⟨(by show 10 ≤ sizeLine; decide), fun w1 hw1 => ?_⟩
  have s0 := same_new hw1 (u := .lst [.str "open", .str "mine", .str "there", .str "open@shown", .str "there@done", .str "a", .str "old", .str "b@c", .str "note", .str "z"])
  have gw : upd H w1 (.lst [.str "open", .str "mine", .str "there", .str "open@shown", .str "there@done", .str "a", .str "old", .str "b@c", .str "note", .str "z"]) w1 = some (.lst (ten.map V.str)) := upd_same
  generalize upd H w1 (.lst [.str "open", .str "mine", .str "there", .str "open@shown", .str "there@done", .str "a", .str "old", .str "b@c", .str "note", .str "z"]) = G0 at s0 gw ⊢
  -- row
  refine ⟨_, rfl, a, 2, ns, rfl, s0.seq hs, fun c2 => ⟨(by show 3 ≤ sizeLine; decide), fun l1 h1 => ⟨c2, l1, [6, 8, 8], rfl, SqL.of upd_same, by decide, by decide, fun p2 G1 rs s1' n1 g1 rng => ?_⟩⟩⟩
  have s1 := s0.trans ((same_new h1).trans s1')
  have gw1 := s1' _ _ (same_new h1 _ _ gw)
  obtain ⟨r0, r1, r2, rfl⟩ := row3 rng
  clear s1' n1 rng h1
  -- one
  refine ⟨_, rfl, a, 0, ns, rfl, s1.seq hs, fun c0 => ⟨(by show 1 ≤ sizeLine; decide), fun l8 hl8 => ⟨l8, 30, [.int 512], rfl, rfl, upd_same, by decide, by decide, (by show 1 * 30 ≤ sizeLine; decide), fun p9 hp9 => ?_⟩⟩⟩
  have s2 := (same_new hl8 (u := .lst [.int 512])).trans (same_new hp9 (u := .lst (List.replicate (30 : Int).toNat [.int 512]).flatten))
  have g9 : upd (upd G1 l8 (.lst [.int 512])) p9 (.lst (List.replicate (30 : Int).toNat [.int 512]).flatten) p9 = some (.lst ((List.replicate 30 (512 : Int)).map V.int)) := upd_same
  generalize upd (upd G1 l8 (.lst [.int 512])) p9 (.lst (List.replicate (30 : Int).toNat [.int 512]).flatten) = G2 at s2 g9 ⊢
  refine ⟨c0, p9, List.replicate 30 512, rfl, SqL.of g9, by simp, (fun s hs => by rw [List.eq_of_mem_replicate hs]; decide), fun lf G3 ns3 s3 hlf glf _ => ?_⟩
  have s13 := s2.trans s3
  refine ⟨_, rfl, _, rfl, p2, _, 1, .int r1, rfl, rfl, SqL.of (s13 _ _ g1), rfl, r1, rfl, w1, _, rfl, SqL.of (s13 _ _ gw1), fun wd hwd => ?_⟩
  obtain ⟨ms, em, hm, lm⟩ := cut_strs ten none (some r1)
  rw [em]
  dsimp only [tNil]
  have s4 := same_new hwd (u := .lst (ms.map V.str))
  refine rd_tree (E := E0) (H := G2) hlf (s3.trans s4) (s4 _ _ glf) (ne_of_none glf hwd).symm upd_same hm lm fun T1 v3 G4 ok1 s24 tr1 => ?_
  have s14 := s2.trans s24
  have gr4 := s14 _ _ g1
  have gw4 := s14 _ _ gw1
  have s04 := s1.trans s14
  clear s2 s24 s14 s4 s3 s13 em hm lm g9 glf hlf hwd hp9 hl8
  -- other
  refine ⟨_, rfl, a, 1, ns, rfl, s04.seq hs, fun c1 => ⟨(by show 1 ≤ sizeLine; decide), fun l8 hl8 => ⟨l8, 30, [.int 512], rfl, rfl, upd_same, by decide, by decide, (by show 1 * 30 ≤ sizeLine; decide), fun p9 hp9 => ?_⟩⟩⟩
  have s2 := (same_new hl8 (u := .lst [.int 512])).trans (same_new hp9 (u := .lst (List.replicate (30 : Int).toNat [.int 512]).flatten))
  have g9 : upd (upd G4 l8 (.lst [.int 512])) p9 (.lst (List.replicate (30 : Int).toNat [.int 512]).flatten) p9 = some (.lst ((List.replicate 30 (512 : Int)).map V.int)) := upd_same
  generalize upd (upd G4 l8 (.lst [.int 512])) p9 (.lst (List.replicate (30 : Int).toNat [.int 512]).flatten) = G5 at s2 g9 ⊢
  refine ⟨c1, p9, List.replicate 30 512, rfl, SqL.of g9, by simp, (fun s hs => by rw [List.eq_of_mem_replicate hs]; decide), fun lf G6 ns6 s3 hlf glf _ => ?_⟩
  have s13 := s2.trans s3
  refine ⟨_, rfl, _, rfl, p2, _, 2, .int r2, rfl, rfl, SqL.of (s13 _ _ gr4), rfl, _, _, rfl, rfl, 10 - r2, rfl, w1, _, rfl, SqL.of (s13 _ _ gw4), fun wd hwd => ?_⟩
  obtain ⟨ms, em, hm, lm⟩ := cut_strs ten (some (10 - r2)) none
  rw [em]
  dsimp only [tNil]
  have s4 := same_new hwd (u := .lst (ms.map V.str))
  refine rd_tree (E := E0) (H := G5) hlf (s3.trans s4) (s4 _ _ glf) (ne_of_none glf hwd).symm upd_same hm lm fun T2 v4 G7 ok2 s57 tr2 => ?_
  have s47 := s2.trans s57
  have gr7 := s47 _ _ gr4
  have tr17 := treeAt_same s47 tr1
  have s07 := s04.trans s47
  clear s2 s57 s47 s4 s3 s13 em hm lm g9 glf hlf hwd hp9 hl8 gr4 gw4 gw1 g1 gw
  have k1 := good_base ok1
  -- turned
  refine ⟨_, rfl, p2, _, 0, .int r0, rfl, rfl, SqL.of gr7, rfl, r0, 3, rfl, rfl, _, rfl, ?_⟩
  refine ite2 (fun _ => ?_) fun _ => ?_
  · refine ⟨_, rfl, _, rfl, p2, _, 0, .int r0, rfl, rfl, SqL.of gr7, rfl, ?_⟩
    have d3 := dep_ok 3 T1 ok1
    have z3 := k1.siz
    refine ⟨v3, T1, r0, G7, rfl, Same.refl _, tr17, by omega, by omega, fun v5 G8 B2 s8 sB _ tr5 => ?_⟩
    exact kt _ G8 _ _ _ _ _ _ _ (treeAt_same s8 tr17) (treeAt_same sB tr5) k1 (good_turn ok1 r0) (tb.ext (s07.trans s8)) q
  · exact kt _ G7 _ _ _ _ _ _ _ tr17 tr2 k1 (good_base ok2) (tb.ext s07) q
end
end Fx
set_option maxHeartbeats 0
namespace Fx
open PySem PySem.Spec PySem.Calls PyProof.Rows L2
/-- __init__ of the errors' class -/
def dInit2 : He.DefD := ⟨("BadFormula", some "__init__"), "__init__", "BadFormula.__init__", defArgs (inClass (tp 2) 0), defBody (inClass (tp 2) 0), defScope (inClass (tp 2) 0), [], []⟩
def dM (m q : Str) (j : Nat) : He.DefD := ⟨("Formula", some m), m, q, defArgs (inClass (tp 13) j), defBody (inClass (tp 13) j), defScope (inClass (tp 13) j), [], []⟩
def dTop (x : Str) (i : Nat) : He.DefD := ⟨(x, none), x, x, defArgs (tp i), defBody (tp i), defScope (tp i), [], []⟩
def fn : List He.DefD := [dInit2, dM "__init__" "Formula.__init__" 0, dM "__eq__" "Formula.__eq__" 6, dTop "is_name" 7, dTop "subsets" 109, dTop "choice" 116, dTop "as_formula" 14, dTop "is_word" 15, dTop "signs_of" 16, dTop "can_stand" 17, dTop "code_of" 18, dTop "words_of" 21, dTop "worth" 22, dTop "differing" 23, dTop "table_of" 300, dTop "column" 24, dTop "_law_cell" 26, dTop "_law_row" 27, dTop "_law_tree" 28, dTop "_law_true" 29, dTop "_law_flat" 30, dTop "_law_text" 31, dTop "_law_close" 32, dTop "_law_words_of" 136, dTop "_law_turned" 137, dTop "_law_first" 138, dTop "_law_met" 139, dTop "law" 140]
def fa : List He.Fa := [.glo "BadFormula", .glo "Formula", .glo "RESERVED", .glo "CONSTANTS", .glo "OPERATORS", .glo "RANKS", .glo "is_name", .glo "subsets", .glo "choice", .glo "as_formula", .glo "is_word", .glo "signs_of", .glo "can_stand", .glo "code_of", .glo "words_of", .glo "worth", .glo "differing", .glo "table_of", .glo "column", .glo "_law_cell", .glo "_law_row", .glo "_law_tree", .glo "_law_true", .glo "_law_flat", .glo "_law_text", .glo "_law_close", .glo "_law_words_of", .glo "_law_turned", .glo "_law_first", .glo "_law_met", .glo "law", .free "isinstance", .free "str", .free "len", .free "all", .free "int", .free "range", .free "tuple", .free "list", .free "sum", .free "any", .free "enumerate", .str "LETTERS" "abcdefghijklmnopqrstuvwxyz", .int "LONGEST" 8, .cls "Formula", .noat "Formula" "code", .noat "BadFormula" "text", .mkr "Formula", .exm "BadFormula" "BadFormula" true]
/-- the class object at C is that of an exception class over ValueError, by a look -/
def shapeB (K : PySem.W.Frag) (C : Addr) : Bool :=
  match K.lookup C with
  | some ⟨.type t, _, .cls d, s⟩ =>
    (match d.mro, s.toList with
      | .ref c :: m, [_, _, _, _, some (.builtin n), _] =>
        (t == "type") && ((c == C) && ((n == "ValueError.__new__") && ((!d.hasDel) && (d.hasDict && HandSPX.refsVE m))))
      | _, _ => false)
  | _ => false
/-- a written tuple of texts -/
def strsB : List Value → List Str → Bool
  | [], [] => true
  | .str x _ :: vs, z :: zs => (x == z) && strsB vs zs
  | _, _ => false
def tupB (K : PySem.W.Frag) (a : Addr) (zs : List Str) : Bool := match K.lookup a with
  | some o => (match o.cls, o.data with
    | .type t, .seq its _ => (t == "tuple") && strsB its.toList zs
    | _, _ => false)
  | none => false
def rankB (K : PySem.W.Frag) (a : Addr) (s : Str) : Bool := match PySem.W.nsIn K a s with
  | some (some (.int i _)) => i == rank s
  | _ => false
def exA (K : PySem.W.Frag) : Bool := tupB K (He.ga K "RESERVED") reserved && (tupB K (He.ga K "CONSTANTS") constants && (tupB K (He.ga K "OPERATORS") operators && (rankB K (He.ga K "RANKS") "(" && (rankB K (He.ga K "RANKS") "or" && (rankB K (He.ga K "RANKS") "and" && rankB K (He.ga K "RANKS") "not")))))
def exB (K : PySem.W.Frag) : Bool := shapeB K (He.ga K "BadFormula") && (decide (PySem.W.findIn K (.ref (He.ga K "BadFormula")) "__setattr__" = some (some (.builtin "object.__setattr__"))) &&
  (decide (PySem.W.typeIn K (.ref (He.ga K "BadFormula")) = some (.type "type")) && (PySem.W.keepIn K (.ref (He.ga K "BadFormula")) && xfB K (He.ga K "BadFormula"))))
def exC (K : PySem.W.Frag) : Bool := decide (PySem.W.findIn K (.ref (He.ga K "BadFormula")) "__init__" = some (some (.ref (He.ma K (He.ga K "BadFormula") "__init__")))) && decide (PySem.W.typeIn K (.ref (He.ma K (He.ga K "BadFormula") "__init__")) = some (.type "function"))
def exD (K : PySem.W.Frag) : Bool := decide (PySem.W.findIn K (.ref (He.ga K "Formula")) "__class__" = some (some (.builtin "object.__class__"))) &&
  (decide (PySem.W.specialIn K (.builtin "object.__class__") "__get__" = some (some (.builtin "getset_descriptor.__get__"))) &&
  (decide (PySem.W.takesIn K (.builtin "object.__class__") = some true) && (decide (PySem.W.mroIn K (He.ga K "Formula") (.type "object") = some true) &&
  decide (PySem.W.kitOne K (.type "str") (.ref (He.ga K "Formula")) = some false))))
def exE (K : PySem.W.Frag) : Bool := decide (PySem.W.findIn K (.ref (He.ga K "Formula")) "__eq__" = some (some (.ref (He.ma K (He.ga K "Formula") "__eq__")))) && (PySem.W.isFn K (.ref (He.ma K (He.ga K "Formula") "__eq__")) &&
  (decide (PySem.W.findIn K (.ref (He.ga K "Formula")) "__ne__" = some (some (.builtin "object.__ne__"))) &&
  (["NoneType", "bool", "int", "str", "list", "tuple"].all fun t => decide (PySem.W.kitOne K (.type t) (.ref (He.ga K "Formula")) = some false) && PySem.W.notFirst K (He.ga K "Formula") (.type t))))
def ex (K : PySem.W.Frag) : Bool := exA K && (exB K && (exC K && (exD K && exE K)))
def tabs : List He.Tab := [(fun K => He.ga K "RANKS", ["(", "or", "and", "not"])]
def tf : List He.Defn := [("law", none)]
abbrev R : PySem.W.OpenRow := PySem.W.OpenLaw.row PySem.Challenge.rw_allticked_k03_whole_formulas_compared
abbrev hk : PySem.W.Hook := He.hookX 5 fa fn tabs tf ex
def ob (s : PySem.W.SharedT) : He.AlX := He.obsX 5 fa fn tabs tf ex (HandSHeadRun.getT s)
theorem ob_eq (s : PySem.W.SharedT) : ob s = hk.obs s.abs := He.obsX_eq (HandSHeadRun.getT_eq s)
def loose : List Str := [("TickError" : Str), ("BadFormula" : Str), ("LETTERS" : Str), ("LONGEST" : Str), ("RESERVED" : Str), ("is_name" : Str), ("subsets" : Str), ("CONSTANTS" : Str), ("OPERATORS" : Str), ("RANKS" : Str), ("RANK_OF_WORDS" : Str), ("Formula" : Str), ("choice" : Str), ("as_formula" : Str), ("is_word" : Str), ("signs_of" : Str), ("can_stand" : Str), ("code_of" : Str), ("text_of" : Str), ("bracketed" : Str), ("words_of" : Str), ("worth" : Str), ("differing" : Str), ("table_of" : Str), ("column" : Str), ("_law_cell" : Str), ("_law_row" : Str), ("_law_tree" : Str), ("_law_true" : Str), ("_law_flat" : Str), ("_law_text" : Str), ("_law_close" : Str), ("_law_words_of" : Str), ("_law_turned" : Str), ("_law_first" : Str), ("_law_met" : Str)]
theorem run_f (w : World) : HandSHeadRun.RunEq R (PySem.W.view R.prog [41]) hk ob 9000 loose (w.withFollow "special-get-raises" false) := by
  intro os
  kernel_rfl
theorem run_t (w : World) : HandSHeadRun.RunEq R (PySem.W.view R.prog [41]) hk ob 9000 loose (w.withFollow "special-get-raises" true) := by
  intro os
  kernel_rfl
theorem run (w : World) : HandSHeadRun.RunEq R (PySem.W.view R.prog [41]) hk ob 9000 loose w :=
  PySem.W.byRow2 "special-get-raises" (P := fun w => HandSHeadRun.RunEq R (PySem.W.view R.prog [41]) hk ob 9000 loose w) run_f run_t w
end Fx
set_option maxHeartbeats 4000000
namespace Fx
open PySem PySem.Spec PyProof.Rows L2 TL

theorem and2 {a b : Bool} (h : (a && b) = true) : a = true ∧ b = true := by
  cases a <;> cases b <;> first | exact ⟨rfl, rfl⟩ | cases h
theorem shapeB_ok {K : PySem.W.Frag} {C : Addr} (e : shapeB K C = true) :
    ∃ nm q N bs bm sn sub ab col dd k0 k1 k2 k3 k5,
      K.lookup C = some (excClassObj nm q C N bs bm true sn sub ab col dd k0 k1 k2 k3 k5 "ValueError.__new__") ∧
        HandSPX.refsVE bm = true := by
  unfold shapeB at e
  split at e
  · rename_i t dd d s lk
    split at e
    · rename_i c m k0 k1 k2 k3 n k5 hm hs
      simp only [Bool.and_eq_true, beq_iff_eq, Bool.not_eq_true'] at e
      obtain ⟨rfl, rfl, rfl, h1, h2, h3⟩ := e
      obtain ⟨nm, bs, mro, ns, qn, hd, sn, sub, ab, col, del⟩ := d
      dsimp only at hm h1 h2
      subst hm h1 h2
      have hsl : s = #[k0, k1, k2, k3, some (.builtin "ValueError.__new__"), k5] := by
        obtain ⟨l⟩ := s
        simp only at hs
        rw [hs]
      subst hsl
      exact ⟨nm, qn, ns, bs, m, sn, sub, ab, col, dd, k0, k1, k2, k3, k5, lk, h3⟩
    · cases e
  · cases e
theorem strsB_ok : ∀ {vs : List Value} {zs : List Str}, strsB vs zs = true → Vals (zs.map V.str) vs ∧ vs.length = zs.length
  | [], [], _ => ⟨.nil, rfl⟩
  | [], _ :: _, h => by cases h
  | v :: vs, [], h => by cases v <;> cases h
  | v :: vs, z :: zs, h => by
    cases v with
    | str x t =>
      obtain ⟨h1, h2⟩ := and2 (show ((x == z) && strsB vs zs) = true from h)
      obtain ⟨r1, r2⟩ := strsB_ok h2
      have e : x = z := beq_iff_eq.mp h1
      subst e
      exact ⟨.cons ⟨t, rfl⟩ r1, by rw [List.length_cons, List.length_cons, r2]⟩
    | _ => cases h
theorem tupB_ok {K : PySem.W.Frag} {a : Addr} {zs : List Str} (h : tupB K a zs = true) (hz : zs.length ≤ 1000) : ∀ H, SqT K H a (zs.map V.str) := by
  unfold tupB at h
  cases q : K.lookup a with
  | none =>
    rw [q] at h
    cases h
  | some ob =>
    rw [q] at h
    obtain ⟨oc, od, dt, osl⟩ := ob
    cases oc with
    | type t =>
      cases dt with
      | seq its n =>
        obtain ⟨h1, h2⟩ := and2 (show ((t == "tuple") && strsB its.toList zs) = true from h)
        obtain ⟨r1, r2⟩ := strsB_ok h2
        have e : t = "tuple" := beq_iff_eq.mp h1
        intro H
        refine .inr ⟨_, its, n, q, by rw [e], rfl, ?_, r1⟩
        have line : (1000 : Nat) ≤ sizeLine := by decide
        rw [Array.length_toList] at r2
        omega
      | _ => cases h
    | _ => cases dt <;> cases h
theorem rankB_ok {K : PySem.W.Frag} {a : Addr} {s : Str} (h : rankB K a s = true) : ∃ t, PySem.W.nsIn K a s = some (some (.int (rank s) t)) := by
  unfold rankB at h
  split at h
  · rename_i i t q
    rw [q, beq_iff_eq.mp h]
    exact ⟨t, rfl⟩
  · cases h
section
variable {P : Program} {w : World} {K : PySem.W.Frag} {mg : Str → Option Value} {h base : Heap}
theorem facts {f : Addr} (Y : K.In h) (G : h.Ns mainGlobals mg) (hfa : mg ("law" : Str) = some (.ref f)) (c : He.SaysX fa fn tabs tf ex w h K) :
    ∃ fd : FuncData, (∀ (s : Shared) (v : Value), BindsTo s fd ⟨[v], []⟩ [("_law_script", v)]) ∧ ∀ base : Heap, K.In base → base.Ns mainGlobals mg → LamX.TabB base mg (He.cT K ("law", none)).1 (He.cT K ("law", none)).2 → FnOk P w K mg base CX0 21 f fd ["_law_script"] (spLaw K (He.cT K ("law", none)).2) := by
  have D := c.t.d
  obtain ⟨eA, eR⟩ := and2 c.more
  obtain ⟨eB, eR⟩ := and2 eR
  obtain ⟨eC, eR⟩ := and2 eR
  obtain ⟨eD, eE⟩ := and2 eR
  obtain ⟨a1, eA⟩ := and2 eA
  obtain ⟨a2, eA⟩ := and2 eA
  obtain ⟨a3, eA⟩ := and2 eA
  obtain ⟨a4, eA⟩ := and2 eA
  obtain ⟨a5, eA⟩ := and2 eA
  obtain ⟨a6, a7⟩ := and2 eA
  obtain ⟨b1, eB⟩ := and2 eB
  obtain ⟨b2, eB⟩ := and2 eB
  obtain ⟨b3, eB⟩ := and2 eB
  obtain ⟨b4, b5⟩ := and2 eB
  obtain ⟨c1, c2⟩ := and2 eC
  obtain ⟨d1, eD⟩ := and2 eD
  obtain ⟨d2, eD⟩ := and2 eD
  obtain ⟨d3, eD⟩ := and2 eD
  obtain ⟨d4, d7⟩ := and2 eD
  obtain ⟨e1, eE⟩ := and2 eE
  obtain ⟨e2, eE⟩ := and2 eE
  obtain ⟨e3, e4⟩ := and2 eE

  have N : NTxt K mg := ⟨He.str_ok Y G (D.fact 42 (f := .str "LETTERS" "abcdefghijklmnopqrstuvwxyz") rfl), He.int_ok Y G (D.fact 43 (f := .int "LONGEST" 8) rfl), ⟨_, (He.glo_ok Y G (D.fact 2 (f := .glo "RESERVED") rfl)), tupB_ok a1 (by decide)⟩, ⟨_, (He.glo_ok Y G (D.fact 3 (f := .glo "CONSTANTS") rfl)), tupB_ok a2 (by decide)⟩, ⟨_, (He.glo_ok Y G (D.fact 4 (f := .glo "OPERATORS") rfl)), tupB_ok a3 (by decide)⟩, (He.free_ok Y G (D.fact 31 (f := .free "isinstance") rfl)), (He.free_ok Y G (D.fact 32 (f := .free "str") rfl)), (He.free_ok Y G (D.fact 33 (f := .free "len") rfl)), (He.free_ok Y G (D.fact 34 (f := .free "all") rfl))⟩
  obtain ⟨es, nd, KD⟩ := c.t.tab 0 (t := (fun K => He.ga K "RANKS", ["(", "or", "and", "not"])) rfl
  have CT : CTxt K w mg := ⟨N, ⟨_, es, nd, (He.glo_ok Y G (D.fact 5 (f := .glo "RANKS") rfl)), KD, fun s hs => by
    have hs2 : (s == "(" || (s == "or" || (s == "and" || s == "not"))) = true := hs
    rcases (Bool.or_eq_true _ _).mp hs2 with e | hs2
    · rw [beq_iff_eq.mp e]; exact rankB_ok a4
    · rcases (Bool.or_eq_true _ _).mp hs2 with e | hs2
      · rw [beq_iff_eq.mp e]; exact rankB_ok a5
      · rcases (Bool.or_eq_true _ _).mp hs2 with e | e
        · rw [beq_iff_eq.mp e]; exact rankB_ok a6
        · rw [beq_iff_eq.mp e]; exact rankB_ok a7⟩, (He.free_ok Y G (D.fact 37 (f := .free "tuple") rfl))⟩
  have XC : FCls K (He.ga K "Formula") := ⟨He.cls_ok (D.fact 44 (f := .cls "Formula") rfl), He.noat_ok (D.fact 45 (f := .noat "Formula" "code") rfl)⟩
  have XF := xfB_ok b5
  have OX : OexC K (He.ga K "BadFormula") := ⟨shapeB_ok b1, of_decide_eq_true b2, XF.exC, of_decide_eq_true b3, b4⟩
  have noB : PySem.W.findIn K (.ref (He.ga K "BadFormula")) "text" = some none := He.noat_ok (D.fact 46 (f := .noat "BadFormula" "text") rfl)
  have BT : BTxt K mg (He.ga K "BadFormula") (He.ma K (He.ga K "BadFormula") "__init__") := ⟨OX, noB, of_decide_eq_true c1, of_decide_eq_true c2, (He.glo_ok Y G (D.fact 0 (f := .glo "BadFormula") rfl))⟩
  have MT : MTxt K mg (He.ga K "Formula") (He.ma K (He.ga K "Formula") "__init__") := ⟨(He.glo_ok Y G (D.fact 1 (f := .glo "Formula") rfl)), He.mkr_ok (D.fact 47 (f := .mkr "Formula") rfl), of_decide_eq_true d7, of_decide_eq_true d1, of_decide_eq_true d2, of_decide_eq_true d3, of_decide_eq_true d4⟩
  have kt : ∀ t ∈ ["NoneType", "bool", "int", "str", "list", "tuple"], PySem.W.kitOne K (.type t) (.ref (He.ga K "Formula")) = some false ∧ PySem.W.notFirst K (He.ga K "Formula") (.type t) = true := fun t ht => by
    obtain ⟨k1, k2⟩ := and2 (List.all_eq_true.mp e4 t ht)
    exact ⟨of_decide_eq_true k1, k2⟩
  have KT : KTxt K (He.ga K "Formula") (He.ma K (He.ga K "Formula") "__eq__") := ⟨of_decide_eq_true e1, e2, of_decide_eq_true e3, kt⟩
  have LT2 : LTxt mg := ⟨(He.free_ok Y G (D.fact 35 (f := .free "int") rfl)), (He.free_ok Y G (D.fact 33 (f := .free "len") rfl)), (He.free_ok Y G (D.fact 36 (f := .free "range") rfl))⟩
  obtain ⟨fd0, FBI⟩ := D.def_ 0 (d := dInit2) rfl
  obtain ⟨fm0, FI0⟩ := D.def_ 1 (d := dM "__init__" "Formula.__init__" 0) rfl
  obtain ⟨fm6, FI6⟩ := D.def_ 2 (d := dM "__eq__" "Formula.__eq__" 6) rfl
  obtain ⟨fd7, F7⟩ := D.def_ 3 (d := dTop "is_name" 7) rfl
  have g7 := (He.glo_ok Y G (D.fact 6 (f := .glo "is_name") rfl))
  obtain ⟨fd109, F109⟩ := D.def_ 4 (d := dTop "subsets" 109) rfl
  have g109 := (He.glo_ok Y G (D.fact 7 (f := .glo "subsets") rfl))
  obtain ⟨fd116, F116⟩ := D.def_ 5 (d := dTop "choice" 116) rfl
  have g116 := (He.glo_ok Y G (D.fact 8 (f := .glo "choice") rfl))
  obtain ⟨fd14, F14⟩ := D.def_ 6 (d := dTop "as_formula" 14) rfl
  have g14 := (He.glo_ok Y G (D.fact 9 (f := .glo "as_formula") rfl))
  obtain ⟨fd15, F15⟩ := D.def_ 7 (d := dTop "is_word" 15) rfl
  have g15 := (He.glo_ok Y G (D.fact 10 (f := .glo "is_word") rfl))
  obtain ⟨fd16, F16⟩ := D.def_ 8 (d := dTop "signs_of" 16) rfl
  have g16 := (He.glo_ok Y G (D.fact 11 (f := .glo "signs_of") rfl))
  obtain ⟨fd17, F17⟩ := D.def_ 9 (d := dTop "can_stand" 17) rfl
  have g17 := (He.glo_ok Y G (D.fact 12 (f := .glo "can_stand") rfl))
  obtain ⟨fd18, F18⟩ := D.def_ 10 (d := dTop "code_of" 18) rfl
  have g18 := (He.glo_ok Y G (D.fact 13 (f := .glo "code_of") rfl))
  obtain ⟨fd21, F21⟩ := D.def_ 11 (d := dTop "words_of" 21) rfl
  have g21 := (He.glo_ok Y G (D.fact 14 (f := .glo "words_of") rfl))
  obtain ⟨fd22, F22⟩ := D.def_ 12 (d := dTop "worth" 22) rfl
  have g22 := (He.glo_ok Y G (D.fact 15 (f := .glo "worth") rfl))
  obtain ⟨fd23, F23⟩ := D.def_ 13 (d := dTop "differing" 23) rfl
  have g23 := (He.glo_ok Y G (D.fact 16 (f := .glo "differing") rfl))
  obtain ⟨fd300, F300⟩ := D.def_ 14 (d := dTop "table_of" 300) rfl
  have g300 := (He.glo_ok Y G (D.fact 17 (f := .glo "table_of") rfl))
  obtain ⟨fd24, F24⟩ := D.def_ 15 (d := dTop "column" 24) rfl
  have g24 := (He.glo_ok Y G (D.fact 18 (f := .glo "column") rfl))
  obtain ⟨fd26, F26⟩ := D.def_ 16 (d := dTop "_law_cell" 26) rfl
  have g26 := (He.glo_ok Y G (D.fact 19 (f := .glo "_law_cell") rfl))
  obtain ⟨fd27, F27⟩ := D.def_ 17 (d := dTop "_law_row" 27) rfl
  have g27 := (He.glo_ok Y G (D.fact 20 (f := .glo "_law_row") rfl))
  obtain ⟨fd28, F28⟩ := D.def_ 18 (d := dTop "_law_tree" 28) rfl
  have g28 := (He.glo_ok Y G (D.fact 21 (f := .glo "_law_tree") rfl))
  obtain ⟨fd29, F29⟩ := D.def_ 19 (d := dTop "_law_true" 29) rfl
  have g29 := (He.glo_ok Y G (D.fact 22 (f := .glo "_law_true") rfl))
  obtain ⟨fd30, F30⟩ := D.def_ 20 (d := dTop "_law_flat" 30) rfl
  have g30 := (He.glo_ok Y G (D.fact 23 (f := .glo "_law_flat") rfl))
  obtain ⟨fd31, F31⟩ := D.def_ 21 (d := dTop "_law_text" 31) rfl
  have g31 := (He.glo_ok Y G (D.fact 24 (f := .glo "_law_text") rfl))
  obtain ⟨fd32, F32⟩ := D.def_ 22 (d := dTop "_law_close" 32) rfl
  have g32 := (He.glo_ok Y G (D.fact 25 (f := .glo "_law_close") rfl))
  obtain ⟨fd136, F136⟩ := D.def_ 23 (d := dTop "_law_words_of" 136) rfl
  have g136 := (He.glo_ok Y G (D.fact 26 (f := .glo "_law_words_of") rfl))
  obtain ⟨fd137, F137⟩ := D.def_ 24 (d := dTop "_law_turned" 137) rfl
  have g137 := (He.glo_ok Y G (D.fact 27 (f := .glo "_law_turned") rfl))
  obtain ⟨fd138, F138⟩ := D.def_ 25 (d := dTop "_law_first" 138) rfl
  have g138 := (He.glo_ok Y G (D.fact 28 (f := .glo "_law_first") rfl))
  obtain ⟨fd139, F139⟩ := D.def_ 26 (d := dTop "_law_met" 139) rfl
  have g139 := (He.glo_ok Y G (D.fact 29 (f := .glo "_law_met") rfl))
  obtain ⟨fd140, F140⟩ := D.def_ 27 (d := dTop "law" 140) rfl
  have eL := hfa.symm.trans (He.glo_ok Y G (D.fact 30 (f := .glo "law") rfl))
  cases eL
  have bL := FunD.bindsA (ps := ["_law_script"]) F140 fun _ _ _ _ _ _ us hl => match us, hl with | [_], _ => rfl
  have hcode : fd140.code = .ref (He.cT K ("law", none)).1 := by
    obtain ⟨oc, od, dV, kV, doc, pm, an, cdv, ct, osl, e, lk, hcd, _, _⟩ := F140.ex
    obtain ⟨c0, hc0⟩ := He.codeIn_ref hcd
    have e2 : fd140.code = .ref c0 := by rw [e, ← hc0] <;> rfl
    have e3 := He.codeOf_eq (K := K) (p := ("law", none)) lk e2
    rw [e2]
    show Value.ref c0 = .ref (He.codeOf K ("law", none))
    rw [e3]
  refine ⟨fd140, fun s v => bL s [v] rfl, fun base _ _ TB => ?_⟩
  have k16 := ok_signs (P := P) (w := w) (mg := mg) (base := base) F16 N F7 g7 F15 g15 F17 g17
  have k18 := ok_code (P := P) (w := w) (mg := mg) (base := base) F18 CT
  have kI := ok_initF (P := P) (w := w) (mg := mg) (base := base) FI0 CT XC BT FBI k16 F16 g16 k18 F18 g18
  have k21 := ok_words (P := P) (w := w) (mg := mg) (base := base) F21 N XC
  have k22 := ok_worth (P := P) (w := w) (mg := mg) (base := base) F22 N
  have k300 := ok_table (P := P) (w := w) (mg := mg) (base := base) F300 XC LT2 (He.free_ok Y G (D.fact 41 (f := .free "enumerate") rfl)) k22 F22 g22 F24 g24
  have k23 := ok_diff (P := P) (w := w) (mg := mg) (base := base) F23 k300 F300 g300 k21 F21 g21
  have k109 := ok_subs (P := P) (w := w) (mg := mg) (base := base) F109 LT2 (He.free_ok Y G (D.fact 37 (f := .free "tuple") rfl))
  have k14 := ok_asX (P := P) (w := w) (mg := mg) (base := base) F14 CT XC MT kI FI0
  have kE := ok_feq (P := P) (w := w) (mg := mg) (base := base) FI6 CT XC MT k23 F23 g23
  have k116 := ok_choice (P := P) (w := w) (mg := mg) (base := base) F116 XC LT2 (of_decide_eq_true d7) (He.free_ok Y G (D.fact 39 (f := .free "sum") rfl)) (He.free_ok Y G (D.fact 38 (f := .free "list") rfl)) k14 F14 g14 k23 F23 g23 k21 F21 g21 k109 F109 g109
  have k26 := ok_cell (P := P) (w := w) (mg := mg) (base := base) F26 LT2
  have k27 := ok_row (P := P) (w := w) (mg := mg) (base := base) F27 LT2
  have t0 := base_tree (P := P) (w := w) (mg := mg) (base := base) F28 LT2
  have t1 := step_tree F28 LT2 g28 0 t0
  have t2 := step_tree F28 LT2 g28 1 t1
  have t3 := step_tree F28 LT2 g28 2 t2
  have r0 := base_true (P := P) (w := w) (mg := mg) (base := base) F29
  have r1 := step_true F29 g29 0 r0
  have r2 := step_true F29 g29 1 r1
  have r3 := step_true F29 g29 2 r2
  have r4 := step_true F29 g29 3 r3
  have r5 := step_true F29 g29 4 r4
  have r6 := step_true F29 g29 5 r5
  have r7 := step_true F29 g29 6 r6
  have r8 := step_true F29 g29 7 r7
  have r9 := step_true F29 g29 8 r8
  have l0 := base_flat (P := P) (w := w) (mg := mg) (base := base) F30
  have l1 := step_flat F30 g30 0 l0
  have l2 := step_flat F30 g30 1 l1
  have l3 := step_flat F30 g30 2 l2
  have l4 := step_flat F30 g30 3 l3
  have l5 := step_flat F30 g30 4 l4
  have l6 := step_flat F30 g30 5 l5
  have l7 := step_flat F30 g30 6 l6
  have l8 := step_flat F30 g30 7 l7
  have l9 := step_flat F30 g30 8 l8
  have x0 := base_ltext (P := P) (w := w) (mg := mg) (base := base) F31
  have y0 := ok_close 0 0 F32 F31 g31 x0
  have x1 := step_ltext 1 0 F31 F32 g32 y0 F30 g30 (l0.mono (by decide))
  have y1 := ok_close 2 1 F32 F31 g31 x1
  have x2 := step_ltext 3 1 F31 F32 g32 y1 F30 g30 (l1.mono (by decide))
  have y2 := ok_close 4 2 F32 F31 g31 x2
  have x3 := step_ltext 5 2 F31 F32 g32 y2 F30 g30 (l2.mono (by decide))
  have y3 := ok_close 6 3 F32 F31 g31 x3
  have x4 := step_ltext 7 3 F31 F32 g32 y3 F30 g30 (l3.mono (by decide))
  have y4 := ok_close 8 4 F32 F31 g31 x4
  have x5 := step_ltext 9 4 F31 F32 g32 y4 F30 g30 (l4.mono (by decide))
  have y5 := ok_close 10 5 F32 F31 g31 x5
  have x6 := step_ltext 11 5 F31 F32 g32 y5 F30 g30 (l5.mono (by decide))
  have y6 := ok_close 12 6 F32 F31 g31 x6
  have x7 := step_ltext 13 6 F31 F32 g32 y6 F30 g30 (l6.mono (by decide))
  have y7 := ok_close 14 7 F32 F31 g31 x7
  have x8 := step_ltext 15 7 F31 F32 g32 y7 F30 g30 (l7.mono (by decide))
  have y8 := ok_close 16 8 F32 F31 g31 x8
  have x9 := step_ltext 17 8 F31 F32 g32 y8 F30 g30 (l8.mono (by decide))
  have v0 := base_lwords (P := P) (w := w) (mg := mg) (base := base) F136
  have v1 := step_lwords F136 g136 0 v0
  have v2 := step_lwords F136 g136 1 v1
  have v3 := step_lwords F136 g136 2 v2
  have v4 := step_lwords F136 g136 3 v3
  have v5 := step_lwords F136 g136 4 v4
  have v6 := step_lwords F136 g136 5 v5
  have v7 := step_lwords F136 g136 6 v6
  have v8 := step_lwords F136 g136 7 v7
  have v9 := step_lwords F136 g136 8 v8
  have v10 := step_lwords F136 g136 9 v9
  have u0 := base_turned (P := P) (w := w) (mg := mg) (base := base) F137
  have u1 := step_turned F137 g137 0 u0
  have u2 := step_turned F137 g137 1 u1
  have u3 := step_turned F137 g137 2 u2
  have u4 := step_turned F137 g137 3 u3
  have k138 := ok_first (P := P) (w := w) (mg := mg) (base := base) 9 F138 LT2 v10 F136 g136 r9 F29 g29
  exact ok_law F140 hcode N XC MT KT TB (He.free_ok Y G (D.fact 40 (f := .free "any") rfl)) (He.glo_ok Y G (D.fact 0 (f := .glo "BadFormula") rfl)) XF noB (He.exm_ok (D.fact 48 (f := .exm "BadFormula" "BadFormula" true) rfl)) kE FI6 k116 F116 g116 k138 F138 g138 F139 g139 x9 F31 g31 kI FI0 F26 g26 k26 F27 g27 k27 F28 g28 t3 F137 g137 u4
end
end Fx
open PySem PySem.W PySem.Calls PyProof.Rows
theorem PySem.Challenge.cw_allticked_k03_whole_formulas_compared_holds : PySem.Challenge.rw_allticked_k03_whole_formulas_compared.Holds := by
  w_on; o_law
  refine HandSHeadRun.head_any (r := Fx.R) (q := view Fx.R.prog [41]) (H := Fx.hk) (ob := Fx.ob) (M := 9000) (loose := Fx.loose) (d := HandSHeadRun.topDef Fx.R.prog 41) (kwd := []) Fx.ob_eq
    (by kernel_rfl) (fun s => by kernel_rfl) Fx.run (by kernel_rfl) (by kernel_rfl) (by kernel_rfl) (by rfl) (by first | assumption | decide +kernel) (by decide +kernel) ⟨rfl, rfl, rfl, rfl, rfl, by decide +kernel⟩ ?hw ?hc
  case hw => w_witness2
  case hc =>
    refine LamX.walk_ofTsE (l := PySem.Challenge.rw_allticked_k03_whole_formulas_compared) (n := 63) (k := 21) (x := "_law_script") (CX := fun _ => L2.CX0) (by rfl) (by decide) (by kernel_rfl) ⟨rfl, by decide, by decide⟩ ?F (fun _ _ _ _ _ z => z)
    intro w mg fa h Y G hmg0
    obtain ⟨K, KX, c⟩ := Y
    have hmg : mg ("law" : PySem.Str) = some (.ref fa) := by
      have e : (HandSHeadRun.topDef Fx.R.prog 41).name = ("law" : PySem.Str) := by kernel_rfl
      rw [← e]
      exact hmg0
    obtain ⟨fd, hb, hF⟩ := Fx.facts (P := (PySem.Challenge.rw_allticked_k03_whole_formulas_compared).prog) (w := w) KX G hmg c
    have one : ∀ {R : Addr × Addr → Prop}, R (He.cT K ("law", none)) → ∀ p ∈ [He.cT K ("law", none)], R p := fun h p hp => by
      rw [List.mem_singleton.mp hp]
      exact h
    have mem : (("law", none) : He.Defn) ∈ Fx.tf := List.mem_singleton.mpr rfl
    exact ⟨K, KX, fd, [He.cT K ("law", none)], Fx.spLaw K (He.cT K ("law", none)).2, one (R := fun p => h.get? p.2 = some { cls := .none, data := .fields #[] }) (c.empty _ mem), one (R := fun p => K.lookup p.2 = none) (c.out _ mem), one (R := fun p => PySem.W.CodeHd h p.1 p.2) (PySem.W.codeHd_of_K KX (c.hd _ mem)), hb,
      fun H a ns hl _ hT hS => ⟨a, ns, rfl, hS, hT _ List.mem_cons_self, fun _ => rfl⟩, fun base X G2 T => hF base X G2 (T _ List.mem_cons_self)⟩
