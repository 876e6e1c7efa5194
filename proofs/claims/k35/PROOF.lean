import PyProof.Rows.All
import Wide.All
import OpenK.AllK
import Wide.FinOn
import HandS.ForMost
import HandS.Wide
import HandS.WideBits
import HandS.MakeKwOnly
import HandS.Defaults
import HandS.StrMore
import HandS.IsInst
import HandS.TupAny
import HandS.Flow
import KE.GoesMore
import KE.GoesEnum
import HandS.Conv
import HandS.Evl
import KE.KIntText
import HandS.Text
import HandS.Style
import HandS.ReplaceList
import HandS.ReplaceLit
import HandS.ReplaceDef
import KE.GoesZip
import KE.DataMinMax
import HandS.SortKw
import HandS.RaiseMore
import HandS.Ends
import PyProof.StrLawsRepr
import HandS.Zip
import HandS.TryOnly
import HandS.Deep
import KE.DataMinKey
import HandS.TupMul
import HandS.TupLe
import PySem.Challenge.RW_shortfigures_k35_known_ladders
set_option Elab.async false
set_option linter.all false
set_option maxRecDepth 100000
set_option maxHeartbeats 4000000
namespace My
open PySem PySem.Spec PyProof.Rows L2

/-! ### the text by places -/
def top (i : Nat) : Stmt := PySem.Challenge.pw_shortfigures_k35_known_ladders.main.body.getD i (.Pass ⟨0, 0, 0, 0⟩)
abbrev sSpring : Stmt := top 94
abbrev sGulp : Stmt := top 95
abbrev sSome : Stmt := top 96
theorem scGulp : FnScope ["_law_spring_here", "_law_many", "_law_digit"] ["_law_spring_here", "_law_many"] (defScope sGulp) := ⟨rfl, rfl, rfl, by decide +kernel, rfl, by decide +kernel, by decide +kernel⟩
theorem scSome : FnScope ["_law_spring_here", "_law_things"] ["_law_spring_here", "_law_things"] (defScope sSome) := ⟨rfl, rfl, rfl, by decide +kernel, rfl, by decide +kernel, by decide +kernel⟩
theorem scSpring : FnScope ["_law_script", "_law_k", "_law_own", "_law_mixed", "_law_entry"] ["_law_script", "_law_k"] (defScope sSpring) := ⟨rfl, rfl, rfl, by decide +kernel, rfl, by decide +kernel, by decide +kernel⟩

/-! ### heaps -/
/-- all that was tracked stands, but a -/
def But (a : Addr) (H H' : Hp) : Prop := ∀ b o, H b = some o → b ≠ a → H' b = some o
theorem But.refl (a : Addr) (H : Hp) : But a H H := fun _ _ e _ => e
theorem But.trans {a : Addr} {H H1 H2 : Hp} (x : But a H H1) (y : But a H1 H2) : But a H H2 := fun b o e n => y b o (x b o e n) n
theorem Same.but {a : Addr} {H H1 : Hp} (x : Same H H1) : But a H H1 := fun b o e _ => x b o e
theorem But.upd (a : Addr) (H : Hp) (o : HO) : But a H (upd H a o) := fun b _ e n => by rw [upd_ne n]; exact e
theorem same_upd {H : Hp} {p : Addr} {o : HO} (h : H p = none) : Same H (upd H p o) := fun b x e => by
  rw [upd_ne (ne_of_none e h)]
  exact e
theorem Same.refl (H : Hp) : Same H H := fun _ _ e => e
/-- a spring: a list of three ints -/
def Spr (H : Hp) (a : Addr) : Prop := ∃ x y z : Int, H a = some (.lst [.int x, .int y, .int z])
theorem Spr.same {H H1 : Hp} {a : Addr} (s : Spr H a) (k : Same H H1) : Spr H1 a := by
  obtain ⟨x, y, z, e⟩ := s
  exact ⟨x, y, z, k _ _ e⟩
theorem But.new {a p : Addr} {H H1 : Hp} {o : HO} (x : But a H H1) (h : H1 p = none) : But a H (L2.upd H1 p o) := x.trans (Same.but (same_upd h))
/-! ### promises -/
def spGulp : Sp := fun vs H Q _ => ∃ (a : Addr) (m : Int), vs = [.ref a, .int m] ∧ Spr H a ∧ 0 < m ∧ m.natAbs < 2 ^ 64 ∧
  ∀ (r : Int) (H' : Hp), 0 ≤ r → r < m → Spr H' a → But a H H' → Q (.int r) H'
def spSome (K : PySem.W.Frag) : Sp := fun vs H Q _ => ∃ (a t : Addr) (xs : List V), vs = [.ref a, .ref t] ∧ Spr H a ∧ (SqL K H t xs ∨ SqT K H t xs) ∧ t ≠ a ∧ xs ≠ [] ∧ xs.length < 1000 ∧
  ∀ (v : V) (H' : Hp), v ∈ xs → Spr H' a → But a H H' → Q v H'
theorem divp_small (i : Int) {j : Int} (h : 0 < j) (hj : j.natAbs < 2 ^ 64) : CDivP i j := ⟨h, PyProof.noPylong_of_log2 (Nat.lt_of_lt_of_le (PySem.Flt.log2_lt_of (by decide) hj) (by decide))⟩
theorem but_sql {K : PySem.W.Frag} {a t : Addr} {xs : List V} {H H' : Hp} (b : But a H H') (n : t ≠ a) (h : SqL K H t xs) : SqL K H' t xs := by
  rcases h with (h | ⟨o, h⟩) | h
  · exact .inl (.inl (b _ _ h n))
  · exact .inl (.inr ⟨o, b _ _ h n⟩)
  · exact .inr h
theorem but_sqt {K : PySem.W.Frag} {a t : Addr} {xs : List V} {H H' : Hp} (b : But a H H') (n : t ≠ a) (h : SqT K H t xs) : SqT K H' t xs := by
  rcases h with (h | ⟨o, h⟩) | h
  · exact .inl (.inl (b _ _ h n))
  · exact .inl (.inr ⟨o, b _ _ h n⟩)
  · exact .inr h
/-- what the walk asks of built-ins -/
structure Bt (mg : Str → Option Value) : Prop where
  len : mg "len" = none
  int : mg "int" = none
  divmod : mg "divmod" = none
  abs : mg "abs" = none
  all : mg "all" = none
  range : mg "range" = none
  max : mg "max" = none
  min : mg "min" = none
  str : mg "str" = none
  tuple : mg "tuple" = none
  isinstance : mg "isinstance" = none
  enumerate : mg "enumerate" = none
  bool : mg "bool" = none
section
variable {P : Program} {w : World} {K : PySem.W.Frag} {mg : Str → Option Value} {base : Heap}
theorem ok_gulp {f : Addr} {fd : FuncData} (F : Fun K "_law_gulp" "_law_gulp" sGulp f fd) (B : Bt mg) : FnOk P w K mg base CX0 2 f fd ["_law_spring_here", "_law_many"] spGulp := by
  refine F.ok scGulp (fun vs H Q E h => ?_) (fun cdv A outer s H vs Q E hr h => ?_)
  · obtain ⟨a, m, rfl, _⟩ := h
    rfl
  · obtain ⟨a, m, rfl, ⟨x, y, z, ha⟩, hm, hm2, k⟩ := h
    refine ⟨_, pss_cons (ps_asg (pe_op op_add (pe_ix ix_list (pv 0) pe_int (fun _ _ => rfl)) pe_int) (pg_sub (pv 0) pe_int set_list))
      (pss_cons (ps_if (pt_cmpR op_gt (pe_ix ix_list (pv 0) pe_int (fun _ _ => rfl)) pe_int (nomark _))
        (pss_cons (ps_asg (pe_callB call_divmodW (by rfl) B.divmod (by decide +kernel) (pa_cons (pe_callTy call_int1 (by rfl) B.int (by decide +kernel) (pa_cons (pe_ix ix_list (pv 0) pe_int (fun _ _ => rfl)) pa_nil)) (pa_cons (pv 1) pa_nil)))
            (pg_tup rfl (pgs_cons (pg_sub (pv 0) pe_int set_list) (pgs_cons (pg_name (i := 2) scGulp.nd rfl (.inl rfl)) pgs_nil))))
          (pss_one (ps_ret (pv 2)))) pss_nil)
      (pss_cons (ps_asg (pe_op op_mod (pe_callTy call_int1 (by rfl) B.int (by decide +kernel) (pa_cons
          (pe_op op_add (pe_op op_add (pe_op op_mul (pe_ix ix_list (pv 0) pe_int (fun _ _ => rfl)) pe_int) (pe_op op_mul (pe_ix ix_list (pv 0) pe_int (fun _ _ => rfl)) pe_int))
            (pe_op op_mul (pe_op op_fdiv (pe_ix ix_list (pv 0) pe_int (fun _ _ => rfl)) pe_int) pe_int)) pa_nil)) pe_int) (pg_sub (pv 0) pe_int set_list))
      (pss_one (ps_ret (pe_op op_mod (pe_callTy call_int1 (by rfl) B.int (by decide +kernel) (pa_cons (pe_op op_fdiv (pe_ix ix_list (pv 0) pe_int (fun _ _ => rfl)) pe_int) pa_nil)) (pv 1)))))), ?_⟩
    have hA : SqL K H a [.int x, .int y, .int z] := SqL.of ha
    -- sp[0] = sp[0] + 5
    refine ⟨.ref a, rfl, a, _, 0, .int x, rfl, rfl, hA, rfl, x, 5, rfl, rfl, .ref a, rfl, a, _, 0, 0, rfl, rfl, ha, rfl, ?_⟩
    have h1 : (upd H a (.lst [.int (x + 5), .int y, .int z])) a = some (.lst [.int (x + 5), .int y, .int z]) := upd_same
    have b1 : But a H (upd H a (.lst [.int (x + 5), .int y, .int z])) := But.upd _ _ _
    have hA1 : SqL K (upd H a (.lst [.int (x + 5), .int y, .int z])) a [.int (x + 5), .int y, .int z] := SqL.of h1
    refine ⟨.ref a, rfl, a, _, 1, .int y, rfl, rfl, hA1, rfl, y, 0, rfl, rfl, _, rfl, ite2 (fun _ => ?_) (fun _ => ?_)⟩
    · refine ⟨.ref a, rfl, a, _, 1, .int y, rfl, rfl, hA1, rfl, .inl ⟨y, rfl, .int m, rfl, y, m, rfl, divp_small _ hm hm2, fun p hp => ?_⟩⟩
      have npa : a ≠ p := ne_of_none h1 hp
      refine ⟨p, _, rfl, SqT.of upd_same, rfl, .int (y / m), [.int (y % m)], rfl, .ref a, rfl, a, _, 1, 1, rfl, rfl, (by rw [upd_ne npa]; exact h1), rfl, .int (y % m), [], rfl, rfl, _, rfl, ?_⟩
      refine k (y % m) _ (Int.emod_nonneg _ (by omega)) (Int.emod_lt_of_pos _ hm) ⟨_, _, _, upd_same⟩ ?_
      exact (b1.new hp).trans (But.upd _ _ _)
    · refine ⟨.ref a, rfl, a, _, 2, .int z, rfl, rfl, hA1, rfl, z, 46021, rfl, rfl, .inr ⟨by decide, by decide⟩, .ref a, rfl, a, _, 0, .int (x + 5), rfl, rfl, hA1, rfl, _, 80021, rfl, rfl, .inr ⟨by decide, by decide⟩, _, _, rfl, rfl,
        .ref a, rfl, a, _, 2, .int z, rfl, rfl, hA1, rfl, z, 3001, rfl, rfl, ⟨by decide, by decide⟩, _, 31, rfl, rfl, .inr ⟨by decide, by decide⟩, _, _, rfl, rfl, .inl ⟨_, rfl, _, 1999999859, rfl, rfl, (by show (0 : Int) < 1999999859; decide), .ref a, rfl, a, _, 2, 2, rfl, rfl, h1, rfl, ?_⟩⟩
      refine ⟨.ref a, rfl, a, _, 2, _, rfl, rfl, SqL.of upd_same, rfl, _, 263, rfl, rfl, ⟨by decide, by decide⟩, .inl ⟨_, rfl, .int m, rfl, _, m, rfl, rfl, hm, ?_⟩⟩
      exact k _ _ (Int.emod_nonneg _ (by omega)) (Int.emod_lt_of_pos _ hm) ⟨_, _, _, upd_same⟩ (b1.trans (But.upd _ _ _))
end
end My

namespace My
open PySem PySem.Spec PyProof.Rows L2
abbrev sLaw : Stmt := top 100
theorem scLaw : FnScope ["_law_script", "_law_k"] ["_law_script"] (defScope sLaw) := ⟨rfl, rfl, rfl, by decide +kernel, rfl, by decide +kernel, by decide +kernel⟩
def spSpring (K : PySem.W.Frag) : Sp := fun vs H Q _ => ∃ (s : Addr) (k : Int) (ns : List Int), vs = [.ref s, .int k] ∧ SqL K H s (ns.map V.int) ∧ 0 ≤ k ∧ ns.length ≤ 63 ∧
  ∀ (p : Addr) (H' : Hp), Same H H' → H p = none → Spr H' p → Q (.ref p) H'
/-- what every _law_right promises -/
def spRight : Sp := fun vs H Q _ => ∃ a : Addr, vs = [.ref a] ∧ Spr H a ∧ ∀ H', But a H H' → Q (.bl true) H'
def spLaw (K : PySem.W.Frag) : Sp := fun vs H Q _ => ∃ (a : Addr) (ns : List Int), vs = [.ref a] ∧ SqL K H a (ns.map V.int) ∧ ns.length ≤ 63 ∧ ∀ H', Q (.bl true) H'
section
variable {P : Program} {w : World} {K : PySem.W.Frag} {mg : Str → Option Value} {base : Heap}
theorem ok_some {f fG : Addr} {fd fdG : FuncData} (F : Fun K "_law_some_of" "_law_some_of" sSome f fd) (FG : Fun K "_law_gulp" "_law_gulp" sGulp fG fdG) (bG : Binds K fdG ["_law_spring_here", "_law_many"] []) (gG : mg "_law_gulp" = some (.ref fG)) (B : Bt mg) :
    FnOk P w K mg base CX0 3 f fd ["_law_spring_here", "_law_things"] (spSome K) := by
  have G : FnOk P w K mg base CX0 2 fG fdG ["_law_spring_here", "_law_many"] spGulp := ok_gulp FG B
  refine F.ok scSome (fun vs H Q E h => ?_) (fun cdv A outer s H vs Q E hr h => ?_)
  · obtain ⟨a, t, xs, rfl, _⟩ := h
    rfl
  · obtain ⟨a, t, xs, rfl, ha, ht, nta, hne, hlen, k⟩ := h
    refine ⟨_, pss_one (ps_ret (pe_ix (IxR.or ix_list ix_tup) (pv 1) (pe_call G hr (by rfl) gG FG.kp bG .nil pass0 (pa_cons (pv 0) (pa_cons (pe_callB call_len_seq (by rfl) B.len PySem.boot_len (pa_cons (pv 1) pa_nil)) pa_nil))) (fun _ _ => rfl))), ?_⟩
    have hpos : 0 < xs.length := List.length_pos_iff.mpr hne
    refine ⟨.ref t, rfl, .ref a, rfl, .ref t, rfl, t, xs, rfl, ht, a, (xs.length : Int), rfl, ha, by omega, by omega, fun r H' h0 h1 s' b' => ?_⟩
    obtain ⟨i, rfl⟩ : ∃ i : Nat, r = (i : Int) := ⟨r.toNat, by omega⟩
    have hi : i < xs.length := by omega
    have e : xs[i]? = some xs[i] := List.getElem?_eq_getElem hi
    have hm : xs[i] ∈ xs := List.getElem_mem hi
    rcases ht with ht | ht
    · exact .inl ⟨t, xs, i, xs[i], rfl, rfl, but_sql b' nta ht, atI_nat e, k _ _ hm s' b'⟩
    · exact .inr ⟨t, xs, i, xs[i], rfl, rfl, but_sqt b' nta ht, atI_nat e, k _ _ hm s' b'⟩
theorem ok_spring {f : Addr} {fd : FuncData} (F : Fun K "_law_spring" "_law_spring" sSpring f fd) (B : Bt mg) : FnOk P w K mg base CX0 2 f fd ["_law_script", "_law_k"] (spSpring K) := by
  refine F.ok scSpring (fun vs H Q E h => ?_) (fun cdv A outer s H vs Q E hr h => ?_)
  · obtain ⟨a, t, xs, rfl, _⟩ := h
    rfl
  · obtain ⟨a, k, ns, rfl, hs, hk, hlen, q⟩ := h
    refine ⟨_, pss_cons (ps_set (i := 2) scSpring.nd rfl (.inl rfl) (pe_ifExp (pt_cmpR op_lt (pv 1) (pe_callB call_len_seq (by rfl) B.len PySem.boot_len (pa_cons (pv 0) pa_nil)) (nomark _))
          (pe_callTy call_int1 (by rfl) B.int (by decide +kernel) (pa_cons (pe_ix ix_list (pv 0) (pv 1) (fun _ _ => rfl)) pa_nil))
          (pe_op op_add (pe_op op_mul pe_int (pv 1)) pe_int)))
      (pss_cons (ps_set (i := 3) scSpring.nd rfl (.inl rfl) (pe_op op_add pe_int (pe_op op_mul pe_int (pv 1))))
      (pss_cons (ps_for PassesOwn.never rfl (pi_list (pe_slice sl_list (pv 0) po_none (po_some pe_int))) (pg_name (i := 4) scSpring.nd rfl (.inl rfl))
        (pss_one (ps_set (i := 3) scSpring.nd rfl (.inl rfl) (pe_op op_mod (pe_callTy call_int1 (by rfl) B.int (by decide +kernel) (pa_cons
          (pe_op op_add (pe_op op_mul (pv 3) pe_int) (pe_op op_mod (pe_callTy call_int1 (by rfl) B.int (by decide +kernel) (pa_cons (pv 4) pa_nil)) pe_int)) pa_nil)) pe_int))))
      (pss_one (ps_ret (pe_lst (pa_cons pe_int (pa_cons
        (pe_ifExp (PW.pt (pw_or (pt_cmpR op_lt (pv 2) pe_int (nomark _)) (pw_or1 (pt_cmpR op_ge (pv 2) (pe_op op_pow pe_int pe_int) (nomark _))))) (pe_callB call_abs (by rfl) B.abs (by decide +kernel) (pa_cons (pv 2) pa_nil)) pe_int)
        (pa_cons (pe_op op_mod (pe_callTy call_int1 (by rfl) B.int (by decide +kernel) (pa_cons (pe_op op_add (pe_op op_mul (pv 3) pe_int) (pe_op op_mod (pv 2) pe_int)) pa_nil)) pe_int) pa_nil)))))))), ?_⟩
    have cm : ∀ {i : Nat} {x : V}, (cutV (ns.map V.int) none (some 13))[i]? = some x → ∃ z, x = V.int z := fun e => by
      have h1 := List.mem_of_getElem? e
      have h2 := List.mem_of_mem_drop (List.mem_of_mem_take h1)
      obtain ⟨z, _, rfl⟩ := List.mem_map.mp h2
      exact ⟨z, rfl⟩
    refine ⟨.int k, rfl, .ref a, rfl, a, _, rfl, .inl hs, _, _, rfl, rfl, _, rfl, ite2 (fun e => ?_) (fun e => ?_)⟩
    · have hk2 : k < ((ns.map V.int).length : Int) := of_decide_eq_true e
      rw [List.length_map] at hk2
      obtain ⟨i, rfl⟩ : ∃ i : Nat, k = (i : Int) := ⟨k.toNat, by omega⟩
      have hi : i < ns.length := by omega
      have e : (ns.map V.int)[i]? = some (.int ns[i]) := by
        rw [List.getElem?_map, List.getElem?_eq_getElem hi]
        rfl
      refine ⟨.ref a, rfl, .int i, rfl, a, _, i, _, rfl, rfl, hs, atI_nat e, .inl ⟨ns[i], rfl, ?_⟩⟩
      generalize ns[i] = own
      generalize (i : Int) = k at hk hk2 ⊢
      refine ⟨.int k, rfl, 1709, k, rfl, rfl, .inl ⟨by decide, by decide⟩, 60013, _, rfl, rfl, ?_⟩
      refine ⟨.ref a, rfl, 13, rfl, a, _, rfl, hs, fun p np => ?_⟩
      refine ⟨p, rfl, ⟨_, SqL.of upd_same⟩, for_list (K := K) (a := p) (xs := cutV (ns.map V.int) none (some 13)) (fun i σ H2 => ∃ (mx : Int) (v : Option V), σ = [some (.ref a), some (.int k), some (.int own), some (.int mx), v] ∧ H2 = upd H p (.lst (cutV (ns.map V.int) none (some 13))))
        ⟨_, none, rfl, rfl⟩ (fun i σ H2 _ ⟨_, _, _, e2⟩ => by rw [e2]; exact SqL.of upd_same) ?_ ?_⟩
      · rintro i y σ H2 hi ⟨mx, v, rfl, rfl⟩
        obtain ⟨z, rfl⟩ := cm hi
        refine ⟨.int mx, rfl, mx, 38699, rfl, rfl, .inr ⟨by decide, by decide⟩, .int z, rfl, .inl ⟨z, rfl, z, 1999999859, rfl, rfl, (by show (0 : Int) < 1999999859; decide), _, _, rfl, rfl, .inl ⟨_, rfl, _, 1999999859, rfl, rfl, (by show (0 : Int) < 1999999859; decide), ?_⟩⟩⟩
        exact ⟨_, _, rfl, rfl⟩
      · rintro σ H2 ⟨mx, v, rfl, rfl⟩
        have fin : ∀ g : Int, ∀ (Hq : Hp), Hq = upd H p (.lst (cutV (ns.map V.int) none (some 13))) → ∀ l, Hq l = none → Q (.ref l) (upd Hq l (.lst [.int 3, .int g, .int ((mx * 11 + own % 1999999859) % 1999999859)])) := fun g Hq e l nl => by
          subst e
          have sm := (same_upd np (o := .lst (cutV (ns.map V.int) none (some 13))))
          exact q l _ (fun b o x => same_upd nl _ _ (sm _ _ x)) (sm.free nl) ⟨_, _, _, upd_same⟩
        refine ⟨.int own, rfl, own, 0, rfl, rfl, _, rfl, ite2 (fun _ => ?_) (fun _ => ?_)⟩
        · refine ite2 (fun _ => ?_) (fun hh => absurd rfl hh)
          refine ⟨.int own, rfl, own, rfl, .int mx, rfl, mx, 11, rfl, rfl, .inr ⟨by decide, by decide⟩, .int own, rfl, own, 1999999859, rfl, rfl, (by show (0 : Int) < 1999999859; decide), _, _, rfl, rfl, .inl ⟨_, rfl, _, 1999999859, rfl, rfl, (by show (0 : Int) < 1999999859; decide), ?_⟩⟩
          refine ⟨(by show 3 ≤ sizeLine; decide), fun l nl => ?_⟩
          exact fin _ _ rfl l nl
        · refine ⟨.int own, rfl, 10, 13, rfl, rfl, ⟨by decide, by decide, by decide⟩, own, _, rfl, rfl, _, rfl, ite2 (fun _ => ?_) (fun _ => ?_)⟩
          · refine ⟨.int own, rfl, own, rfl, .int mx, rfl, mx, 11, rfl, rfl, .inr ⟨by decide, by decide⟩, .int own, rfl, own, 1999999859, rfl, rfl, (by show (0 : Int) < 1999999859; decide), _, _, rfl, rfl, .inl ⟨_, rfl, _, 1999999859, rfl, rfl, (by show (0 : Int) < 1999999859; decide), ?_⟩⟩
            refine ⟨(by show 3 ≤ sizeLine; decide), fun l nl => ?_⟩
            exact fin _ _ rfl l nl
          · refine ⟨.int mx, rfl, mx, 11, rfl, rfl, .inr ⟨by decide, by decide⟩, .int own, rfl, own, 1999999859, rfl, rfl, (by show (0 : Int) < 1999999859; decide), _, _, rfl, rfl, .inl ⟨_, rfl, _, 1999999859, rfl, rfl, (by show (0 : Int) < 1999999859; decide), ?_⟩⟩
            refine ⟨(by show 3 ≤ sizeLine; decide), fun l nl => ?_⟩
            exact fin _ _ rfl l nl
    · refine ⟨.int k, rfl, 37, k, rfl, rfl, .inl ⟨by decide, by decide⟩, _, 13, rfl, rfl, ?_⟩
      refine ⟨.int k, rfl, 1709, k, rfl, rfl, .inl ⟨by decide, by decide⟩, 60013, _, rfl, rfl, ?_⟩
      refine ⟨.ref a, rfl, 13, rfl, a, _, rfl, hs, fun p np => ?_⟩
      refine ⟨p, rfl, ⟨_, SqL.of upd_same⟩, for_list (K := K) (a := p) (xs := cutV (ns.map V.int) none (some 13)) (fun i σ H2 => ∃ (mx : Int) (v : Option V), σ = [some (.ref a), some (.int k), some (.int (37 * k + 13)), some (.int mx), v] ∧ H2 = upd H p (.lst (cutV (ns.map V.int) none (some 13))))
        ⟨_, none, rfl, rfl⟩ (fun i σ H2 _ ⟨_, _, _, e2⟩ => by rw [e2]; exact SqL.of upd_same) ?_ ?_⟩
      · rintro i y σ H2 hi ⟨mx, v, rfl, rfl⟩
        obtain ⟨z, rfl⟩ := cm hi
        refine ⟨.int mx, rfl, mx, 38699, rfl, rfl, .inr ⟨by decide, by decide⟩, .int z, rfl, .inl ⟨z, rfl, z, 1999999859, rfl, rfl, (by show (0 : Int) < 1999999859; decide), _, _, rfl, rfl, .inl ⟨_, rfl, _, 1999999859, rfl, rfl, (by show (0 : Int) < 1999999859; decide), ?_⟩⟩⟩
        exact ⟨_, _, rfl, rfl⟩
      · rintro σ H2 ⟨mx, v, rfl, rfl⟩
        have fin : ∀ g : Int, ∀ (Hq : Hp), Hq = upd H p (.lst (cutV (ns.map V.int) none (some 13))) → ∀ l, Hq l = none → Q (.ref l) (upd Hq l (.lst [.int 3, .int g, .int ((mx * 11 + (37 * k + 13) % 1999999859) % 1999999859)])) := fun g Hq e l nl => by
          subst e
          have sm := (same_upd np (o := .lst (cutV (ns.map V.int) none (some 13))))
          exact q l _ (fun b o x => same_upd nl _ _ (sm _ _ x)) (sm.free nl) ⟨_, _, _, upd_same⟩
        refine ⟨.int (37 * k + 13), rfl, (37 * k + 13), 0, rfl, rfl, _, rfl, ite2 (fun _ => ?_) (fun _ => ?_)⟩
        · refine ite2 (fun _ => ?_) (fun hh => absurd rfl hh)
          refine ⟨.int (37 * k + 13), rfl, (37 * k + 13), rfl, .int mx, rfl, mx, 11, rfl, rfl, .inr ⟨by decide, by decide⟩, .int (37 * k + 13), rfl, (37 * k + 13), 1999999859, rfl, rfl, (by show (0 : Int) < 1999999859; decide), _, _, rfl, rfl, .inl ⟨_, rfl, _, 1999999859, rfl, rfl, (by show (0 : Int) < 1999999859; decide), ?_⟩⟩
          refine ⟨(by show 3 ≤ sizeLine; decide), fun l nl => ?_⟩
          exact fin _ _ rfl l nl
        · refine ⟨.int (37 * k + 13), rfl, 10, 13, rfl, rfl, ⟨by decide, by decide, by decide⟩, (37 * k + 13), _, rfl, rfl, _, rfl, ite2 (fun _ => ?_) (fun _ => ?_)⟩
          · refine ⟨.int (37 * k + 13), rfl, (37 * k + 13), rfl, .int mx, rfl, mx, 11, rfl, rfl, .inr ⟨by decide, by decide⟩, .int (37 * k + 13), rfl, (37 * k + 13), 1999999859, rfl, rfl, (by show (0 : Int) < 1999999859; decide), _, _, rfl, rfl, .inl ⟨_, rfl, _, 1999999859, rfl, rfl, (by show (0 : Int) < 1999999859; decide), ?_⟩⟩
            refine ⟨(by show 3 ≤ sizeLine; decide), fun l nl => ?_⟩
            exact fin _ _ rfl l nl
          · refine ⟨.int mx, rfl, mx, 11, rfl, rfl, .inr ⟨by decide, by decide⟩, .int (37 * k + 13), rfl, (37 * k + 13), 1999999859, rfl, rfl, (by show (0 : Int) < 1999999859; decide), _, _, rfl, rfl, .inl ⟨_, rfl, _, 1999999859, rfl, rfl, (by show (0 : Int) < 1999999859; decide), ?_⟩⟩
            refine ⟨(by show 3 ≤ sizeLine; decide), fun l nl => ?_⟩
            exact fin _ _ rfl l nl
theorem ok_law {kR : Nat} {f fS fR : Addr} {fd fdS fdR : FuncData} (F : Fun K "law" "law" sLaw f fd) (FS : Fun K "_law_spring" "_law_spring" sSpring fS fdS) (bS : Binds K fdS ["_law_script", "_law_k"] []) (gS : mg "_law_spring" = some (.ref fS))
    (kpR : PySem.W.keepIn K (.ref fR) = true) (GR : FnOk P w K mg base CX0 (kR + 2) fR fdR ["_law_spring_here"] spRight) (bR : Binds K fdR ["_law_spring_here"] []) (gR : mg "_law_right" = some (.ref fR)) (B : Bt mg) :
    FnOk P w K mg base CX0 (kR + 3) f fd ["_law_script"] (spLaw K) := by
  have GS : FnOk P w K mg base CX0 2 fS fdS ["_law_script", "_law_k"] (spSpring K) := ok_spring FS B
  refine F.ok scLaw (fun vs H Q E h => ?_) (fun cdv A outer s H vs Q E hr h => ?_)
  · obtain ⟨a, xs, rfl, _⟩ := h
    rfl
  · obtain ⟨a, ns, rfl, hs, hlen, q⟩ := h
    have hr1 : Room 2 _ := hr.mono (by omega)
    refine ⟨_, pss_one (ps_ret (pe_callB (cr_all rfl) (by rfl) B.all (by decide +kernel) (pa_cons
      (pe_lc (own := [("_law_k", 1)]) (g := gName 1) (tt := tYes) rfl scLaw.nd
        (pi_range1 (by rfl) B.range (pa_cons (pe_callB (call_max2 rfl) (by rfl) B.max (by decide +kernel) (pa_cons pe_int (pa_cons (pe_callB (call_min2 rfl) (by rfl) B.min (by decide +kernel) (pa_cons (pe_callB call_len_seq (by rfl) B.len PySem.boot_len (pa_cons (pv 0) pa_nil)) (pa_cons pe_int pa_nil))) pa_nil))) pa_nil))
        (blkOk_by (own := [("_law_k", 1)]) (N := ["_law_script", "_law_k"]) (sc := defScope sLaw) (by decide +kernel)) (fun _ _ _ _ _ => pg_name (i := 1) scLaw.nd rfl (Or.inl rfl)) (fun _ _ _ _ _ => pts_nil)
        (fun _ _ _ _ _ => pe_call GR hr (by rfl) gR kpR bR .nil pass0 (pa_cons (pe_call GS hr1 (by rfl) gS FS.kp bS .nil pass0 (pa_cons (pv 0) (pa_cons (pv 1) pa_nil))) pa_nil)))
      pa_nil))), ?_⟩
    refine ⟨.ref a, rfl, a, _, rfl, .inl hs, _, 5, rfl, 2, _, rfl, _, rfl, ?_, ?_, ?_⟩
    · split <;> (try split) <;> rw [List.length_map] at * <;> omega
    · split <;> (try split) <;> rw [List.length_map] at * <;> omega
    · intro D nD
      refine lc_range (n := _) (fun i H2 => Same H H2 ∧ H2 D = some (.lst (List.replicate i (V.bl true)))) ⟨same_upd nD, upd_same⟩ ?_ ?_
      · rintro i H2 hi ⟨sm, hD⟩
        refine ⟨rfl, .ref a, rfl, .int (0 + (i : Int)), rfl, a, _, ns, rfl, sm.seq hs, by omega, hlen, fun p H3 sm3 np hp => ?_⟩
        have nDp : D ≠ p := ne_of_none hD np
        refine ⟨p, rfl, hp, fun H4 b4 => ?_⟩
        have hD4 : H4 D = some (.lst (List.replicate i (V.bl true))) := b4 _ _ (sm3 _ _ hD) nDp
        refine ⟨_, hD4, ?_, fun b o e => ?_, ?_⟩
        · rw [List.length_replicate]
          have hi2 : i < 6 := by
            revert hi
            split <;> (try split) <;> omega
          exact Nat.lt_of_lt_of_le hi2 (by decide)
        · have nbD : b ≠ D := ne_of_none e nD
          rw [upd_ne nbD]
          exact b4 _ _ (sm3 _ _ (sm _ _ e)) (ne_of_none (sm _ _ e) np)
        · rw [upd_same, List.replicate_succ']
      · rintro H2 ⟨sm, hD⟩
        obtain ⟨n, hD⟩ : ∃ n, H2 D = some (.lst (List.replicate n (V.bl true))) := ⟨_, hD⟩
        refine ⟨D, List.replicate n true, rfl, ?_, ?_⟩
        · rw [List.map_replicate]
          exact SqL.of hD
        · have e : (List.replicate n true).all id = true := by simp
          rw [e]
          exact q _
end
end My

namespace MyEn
open PySem
/-! enumerate(t), t a tuple -/
theorem new_tup (l : Addr) (its : Array Value) (n : Nat) (dc : Option Addr) (sl : Array (Option Value)) :
    Meets (Builtin.«enumerate.__new__» ⟨[.type "enumerate", .ref l], []⟩) (fun _ R s =>
      s.heap.get? l = some { cls := .type "tuple", dict := dc, data := .seq its n, slots := sl } ∧
      R (.ok (.ret (.ref (s.heap.push { cls := .type "tuple_iterator", data := .fields #[.ref l, .int 0 0] }).objs.size)))
        { s with heap := (s.heap.push { cls := .type "tuple_iterator", data := .fields #[.ref l, .int 0 0] }).push { cls := .type "enumerate", data := .fields #[.none, .bool false, .ref s.heap.objs.size, rawInt 0, .none, .none] } }) := .of_wp fun prog w A R s ⟨hl, h⟩ => by
  obtain ⟨hp, g, d, tk, os⟩ := s
  have hs := sub_enumerate
  have hT : Heap.IsTuple (Shared.heap ⟨hp, g, d, tk, os⟩) l its := ⟨_, hl, rfl, n, rfl⟩
  wp_walk using AutoSeq1.wpAny_loadPart' hl
  refine wpAny_stack_any (fun st => wpAny_pure ?_)
  split
  · rename_i c _ _ _ _ _
    cases (c == Value.type "enumerate") <;> (wp_walk using AutoSeq1.wpAny_loadPart' hl, wpAny_pyIter_tuple hT; exact ⟨_, rfl, h⟩)
  · (wp_walk using AutoSeq1.wpAny_loadPart' hl, wpAny_pyIter_tuple hT; exact ⟨_, rfl, h⟩)
section
variable {prog : Program} {w : World} {A : Around} {E : Value → Shared → Prop} {s : Shared}
theorem call_tup {l : Addr} {its : Array Value} {Q : Value → Shared → Prop} (hL : s.heap.IsTuple l its)
    (h : ∀ h', IsEnum h' (s.heap.objs.size + 1) s.heap.objs.size 0 .none → h'.IsTupleIter s.heap.objs.size l 0 → (∀ b o, s.heap.get? b = some o → h'.get? b = some o) → Q (.ref (s.heap.objs.size + 1)) { s with heap := h' }) :
    wpAny (model prog w) A (call (.type "enumerate") [.ref l]) Q E s := by
  obtain ⟨⟨c, dc, dt, sl⟩, hl, hc, n, hd⟩ := hL
  have hc' : c = .type "tuple" := hc
  have hd' : dt = .seq its n := hd
  subst hc' hd'
  refine callType_new F.called_enumerate (by decide) (F.typeCall_enumerate_1 _) (F.newCall_enumerate_1 _) (fun obj => F.args_object_init_2 obj _) F.entry_enumerate_new (new_tup l its n dc sl) ⟨hl, ?_⟩
  generalize hI : (s.heap.push { cls := .type "tuple_iterator", data := .fields #[.ref l, .int 0 0] }) = hI1
  have hz : hI1.objs.size = s.heap.objs.size + 1 := by rw [← hI]; exact Heap.size_push ..
  have he : IsEnum (hI1.push { cls := .type "enumerate", data := .fields #[.none, .bool false, .ref s.heap.objs.size, rawInt 0, .none, .none] }) (s.heap.objs.size + 1) s.heap.objs.size 0 .none := by
    have q := Heap.get?_push_size hI1 (o := { cls := .type "enumerate", data := .fields #[.none, .bool false, .ref s.heap.objs.size, rawInt 0, .none, .none] }) rfl
    rw [hz] at q
    exact q
  have hk : ∀ b o, s.heap.get? b = some o → hI1.get? b = some o := fun b o x => by rw [← hI]; exact Heap.get?_push_of_some _ x
  have hit : hI1.IsTupleIter s.heap.objs.size l 0 := by rw [← hI]; exact ⟨_, Heap.get?_push_size _ rfl, rfl, rfl⟩
  show _ ∧ _
  rw [hz]
  obtain ⟨oi, h1, h2⟩ := hit
  exact ⟨⟨_, he, rfl⟩, h _ he ⟨oi, Heap.get?_push_of_some _ h1, h2⟩ (fun b o x => Heap.get?_push_of_some _ (hk b o x))⟩
end
end MyEn
namespace L2
open PySem PySem.Spec PyProof.Rows
/-- the tuple at a, each item in a new pair -/
def Iten (K : PySem.W.Frag) (a : Addr) : It :=
  ⟨fun i H => ∃ (xs : List V) (x : V), SqT K H a xs ∧ xs[i]? = some x,
   fun i H v H' => ∃ T x, v = .ref T ∧ H T = none ∧ H' = upd H T (.tup [.int (i : Nat), x]) ∧ ∀ xs, SqT K H a xs → xs[i]? = some x,
   fun i H => ∃ xs : List V, SqT K H a xs ∧ xs.length ≤ i⟩
theorem turn_enT {P : Program} {w : World} {K : PySem.W.Frag} {elts : List Expr} {kk : Nat} {tpos : Pos} (a e it : Addr) (hai : a ≠ it) :
    Turn P w K (.Tuple elts kk tpos) (Iten K a) [e, it] e (fun i h => (∃ old, IsEnum h e it ((i : Nat) : Int) old) ∧ h.IsTupleIter it a i ∧ e ≠ it ∧ e ≠ a) where
  mem := by simp
  obj := fun i h st b hb => by
    obtain ⟨⟨old, he⟩, ⟨o, ho, hc, hd⟩, hne, _⟩ := st
    have e' : b = e ∨ b = it := by simpa using hb
    rcases e' with z | z
    · rw [z]
      refine ⟨_, he, ?_⟩
      intro v q
      cases q
    · rw [z]
      refine ⟨o, ho, ?_⟩
      intro v q
      rw [hd] at q
      cases q
  keep := fun i h h' st k => let ⟨⟨old, he⟩, hi, hne⟩ := st; ⟨⟨old, k e (by simp) _ he⟩, hi.at fun o q => k it (by simp) o q, hne⟩
  item := by
    intro X hP hw hK hc i pins s σ H E I hf st hg
    subst hP hw hK
    obtain ⟨⟨old, he⟩, hit, hne, hea⟩ := st
    obtain ⟨xs, x, hq, hx⟩ := hg
    obtain ⟨its, rv, p, hz⟩ := I.tuple hq
    obtain ⟨u, hu, ru⟩ := rv.get hx
    have hel : e < s.heap.objs.size := Heap.lt_size he
    have hil : it < s.heap.objs.size := by obtain ⟨_, q, _⟩ := hit; exact Heap.lt_size q
    have hlen : i < its.toArray.size := by
      have := (List.getElem?_eq_some_iff.mp hu).1
      simpa using this
    have D := Draws.tuple (prog := X.prog) (w := X.w) (A := X.A.in1) (I.ok.hd hc) it a hai its.toArray
    refine wpAny_pyNext_enum_itemD D he ⟨hit, show s.heap.IsTuple a its.toArray from p⟩ hlen hne (by simp; exact ⟨hne, hea⟩) fun y h' tk hy ho hit' hT hsz hk => ?_
    have hyu : y = u := by
      have h1 : its.toArray[i]? = some y := hy
      have h2 : its.toArray[i]? = some u := by simpa using hu
      rw [h1] at h2
      exact Option.some.inj h2
    subst hyu
    refine ⟨_, rfl, wpAny_letOwnedTupleGo_enum (s := { s with heap := h', toks := tk + 1 }) ho fun h'' he' sb => ?_⟩
    have hT2 : h''.get? s.heap.objs.size = some { cls := .type "tuple", data := .seq #[.int i tk, y] } := (sb.2 _ (Nat.ne_of_gt hel)).trans hT
    have new : ObjOk X.prog X.w (upd H s.heap.objs.size (.tup [.int (i : Nat), x])) h'' s.heap.objs.size (.tup [.int (i : Nat), x]) :=
      ⟨(by show 2 ≤ sizeLine; decide), [.int i tk, y], .cons ⟨_, rfl⟩ (.cons ru .nil), ⟨_, hT2, rfl, _, rfl⟩⟩
    have stay : ∀ b o, b ∉ [e, it] → s.heap.get? b = some o → h''.get? b = some o := fun b o hb q => by
      have n1 : b ≠ e := fun z => hb (by simp [z])
      have n2 : b ≠ it := fun z => hb (by simp [z])
      exact (sb.2 b n1).trans (hk b o n1 n2 q)
    have I1 : Inv X pins σ (upd H s.heap.objs.size (.tup [.int (i : Nat), x])) { s with heap := h'', toks := tk + 1 } := I.turnedNew (ch := [e, it]) stay hf (Nat.le_refl _) new
    have hsucc : ((i + 1 : Nat) : Int) = (i : Int) + 1 := by omega
    refine ⟨.ref s.heap.objs.size, _, I1, rfl, ⟨_, x, rfl, I.hok.fresh (Nat.le_refl _), rfl, fun ys hy => (I.tuple_inj hy hq) ▸ hx⟩, ⟨⟨y, by rw [hsucc]; exact he'⟩, hit'.1.at fun o q => (sb.2 it (Ne.symm hne)).trans q, hne, hea⟩, fun b hb => ?_⟩
    have hb' : b < s.heap.objs.size := by
      have e' : b = e ∨ b = it := by simpa using hb
      rcases e' with z | z <;> (rw [z]; assumption)
    rw [upd_ne (Nat.ne_of_lt hb')]
    exact (hf b hb).1
  done := by
    intro X hP hw hK hc i pins s σ H E I hf st hg
    subst hP hw hK
    obtain ⟨⟨old, he⟩, hit, hne, hea⟩ := st
    obtain ⟨xs, hq, hx⟩ := hg
    obtain ⟨its, rv, p, hz⟩ := I.tuple hq
    obtain ⟨f0, f1, f2, f3, f4, f5⟩ := hf it (by simp)
    have hl := rv.length
    have hT : s.heap.IsTuple a its.toArray := p
    have hnone : its.toArray[i]? = none := by simp; omega
    have D : Draws X.prog X.w X.A.in1 it [it, a] i (fun _ _ => False) (fun j h => j = i ∧ h.IsTupleIter it a i ∧ h.IsTuple a its.toArray) :=
      ⟨fun _ _ st => let ⟨o, ho, _⟩ := st.2.1; ⟨o, ho⟩, fun _ _ _ st hk => ⟨st.1, st.2.1.at fun o e => hk it (by simp) o e, st.2.2.at fun o e => hk a (by simp) o e⟩,
       fun j _ _ _ hj st _ => absurd st.1 (Nat.ne_of_lt hj), fun s Q E st hE => wpAny_nextOf_tuple_end (I.ok.hd hc) st.2.1 st.2.2 hnone hE⟩
    exact wpAny_pyNext_enum_endD D he ⟨rfl, hit, hT⟩ fun h' eb => ⟨rfl, I.turned (t' := s.toks) (fun b o hb q => eb b o hb q) f0 f1 f3 f4 f5⟩
  self := fun A i s Q E st h => let ⟨⟨_, he⟩, _⟩ := st; wpAny_pyIter_enum he h

def iEnT (K : PySem.W.Frag) (ta : TA) : TI := fun σ H R => ta σ H fun vs H1 => ∃ a xs, vs = [.ref a] ∧ SqT K H1 a xs ∧ R (Iten K a) H1
theorem pi_enT {X : Cx} {e : Expr} {ta : TA} {p pos tpos : Pos} {elts : List Expr} {kk : Nat} (hg : Gl X "enumerate") (hm : X.mg "enumerate" = none) (ha : PA X [e] ta) (hs : starEach [e] X.env = [(false, eval e X.env)] := by rfl) :
    PI X (.Tuple elts kk tpos) (.Call (.Name "enumerate" p) [e] [] pos) (iEnT X.K ta) := by
  constructor
  intro pins s σ H R I h
  refine Call_ (ld_blt I hg hm boot_enumerate (PyProof.Rows.callWith_type1 (thn (ha.run pos pins s σ H _ I h) ?_) hs rfl))
  rintro us s1 ⟨vs, H1, I1, r1, a, xs, rfl, hq, q⟩
  cases r1 with
  | cons r rr =>
    cases rr
    cases r
    obtain ⟨its, rv, p', hz⟩ := I1.tuple hq
    have hT : s1.heap.IsTuple a its.toArray := p'
    have hlt : a < s1.heap.objs.size := by obtain ⟨o, ho, _⟩ := hT; exact Heap.lt_size ho
    refine MyEn.call_tup hT fun h' he hit hk => wpAny_pyIter_enum he ?_
    have I2 : Inv X pins σ H1 { s1 with heap := h' } := I1.kept (t' := s1.toks) hk
    refine ⟨s1.heap.objs.size + 1, [s1.heap.objs.size + 1, s1.heap.objs.size], _, _, H1, rfl, I2, turn_enT a (s1.heap.objs.size + 1) s1.heap.objs.size (Nat.ne_of_lt hlt), ⟨⟨.none, he⟩, hit, Nat.succ_ne_self _, Nat.ne_of_gt (Nat.lt_succ_of_lt hlt)⟩, ?_, q⟩
    intro b hb
    have e' : b = s1.heap.objs.size + 1 ∨ b = s1.heap.objs.size := by simpa using hb
    have hle : s1.heap.objs.size ≤ b := e'.elim (fun z => z ▸ Nat.le_succ _) (fun z => z ▸ Nat.le_refl _)
    exact I1.fpOk hle (I1.hok.fresh hle)
/-- for place, item in enumerate(t): by an invariant; the pair is new each time -/
theorem for_enT {K : PySem.W.Frag} {a : Addr} {xs : List V} {g : TG} {tb : TS} {D : Ends} {σ : St} {H : Hp} (Pv : Nat → St → Hp → Prop) (h0 : Pv 0 σ H)
    (hl : ∀ i σ H, i ≤ xs.length → Pv i σ H → SqT K H a xs)
    (ht : ∀ (i : Nat) (x : V) (σ : St) (H : Hp) (T : Addr), xs[i]? = some x → Pv i σ H → H T = none → g (.ref T) σ (upd H T (.tup [.int (i : Nat), x])) fun σ2 H2 => tb { nx := Pv (i + 1), rt := D.rt, bk := D.nx, ct := Pv (i + 1) } σ2 H2)
    (he : ∀ σ H, Pv xs.length σ H → D.nx σ H) :
    ∃ W : Nat → Nat → St → Hp → Prop, (∃ m, W 0 m σ H) ∧ ∀ i m σ H, W i m σ H → ((Iten K a).stop i H ∧ D.nx σ H) ∨
      ((Iten K a).go i H ∧ ∃ N : St → Hp → Prop, (∀ σ' H', N σ' H' → ∃ m', m' < m ∧ W (i + 1) m' σ' H') ∧
        ∀ x H', (Iten K a).yld i H x H' → g x σ H' fun σ2 H2 => tb { nx := N, rt := D.rt, bk := D.nx, ct := N } σ2 H2) := by
  refine ⟨fun i m σ H => Pv i σ H ∧ i + m = xs.length, ⟨xs.length, h0, by omega⟩, fun i m σ H hW => ?_⟩
  obtain ⟨hp, hm⟩ := hW
  have hsq := hl i σ H (by omega) hp
  by_cases hi : i < xs.length
  · refine .inr ⟨⟨xs, xs[i], hsq, List.getElem?_eq_getElem hi⟩, Pv (i + 1), fun σ' H' hN => ⟨m - 1, by omega, hN, by omega⟩, ?_⟩
    rintro x H' ⟨T, y, rfl, hT, rfl, hy⟩
    exact ht i y σ H T (hy xs hsq) hp hT
  · have : i = xs.length := by omega
    subst this
    exact .inl ⟨⟨xs, hsq, Nat.le_refl _⟩, he σ H hp⟩
end L2

namespace My
open PySem PySem.Spec PyProof.Rows L2
/-- a def of the text: where it stands, how it is bound -/
structure Dd (K : PySem.W.Frag) (mg : Str → Option Value) (x : Str) (st : Stmt) (ps : List Str) where
  f : Addr
  fd : FuncData
  F : Fun K x x st f fd
  b : Binds K fd ps []
  g : mg x = some (.ref f)
abbrev sWithin : Stmt := top 15
abbrev sInteger : Stmt := top 14
abbrev sUnit : Stmt := top 26
abbrev sUName : Stmt := top 27
abbrev sFits : Stmt := top 28
abbrev sCUnits : Stmt := top 25
/-- is_within, with what it calls -/
structure DdW (K : PySem.W.Frag) (mg : Str → Option Value) extends Dd K mg "is_within" sWithin ["value", "low", "high"] where
  dI : Dd K mg "is_integer" sInteger ["value"]
theorem scInteger : FnScope ["value"] ["value"] (defScope sInteger) := ⟨rfl, rfl, rfl, by decide +kernel, rfl, by decide +kernel, by decide +kernel⟩
theorem scWithin : FnScope ["value", "low", "high"] ["value", "low", "high"] (defScope sWithin) := ⟨rfl, rfl, rfl, by decide +kernel, rfl, by decide +kernel, by decide +kernel⟩
theorem scUnit : FnScope ["unit"] ["unit"] (defScope sUnit) := ⟨rfl, rfl, rfl, by decide +kernel, rfl, by decide +kernel, by decide +kernel⟩
theorem scUName : FnScope ["name"] ["name"] (defScope sUName) := ⟨rfl, rfl, rfl, by decide +kernel, rfl, by decide +kernel, by decide +kernel⟩
def letters : Str := "ABCDEFGHIJKLMNOPQRSTUVWXYZabcdefghijklmnopqrstuvwxyz"
/-- the constants of the text -/
structure Gc (K : PySem.W.Frag) (mg : Str → Option Value) : Prop where
  units : ∃ t, mg "MOST_UNITS" = some (.int 6 t)
  decs : ∃ t, mg "MOST_DECIMALS" = some (.int 3 t)
  least : ∃ t, mg "MOST_LEAST" = some (.int 1000 t)
  num : ∃ t, mg "MOST_NUMBER" = some (.int 1000000000000000000 t)
  mlet : ∃ t, mg "MOST_LETTERS" = some (.int 3 t)
  letters : ∃ t, mg "LETTERS" = some (.str letters t)
  parts : ∃ a, mg "PARTS" = some (.ref a) ∧ ∀ H, SqT K H a [.int 1, .int 10, .int 100, .int 1000]
  rounds : ∃ a, mg "ROUNDINGS" = some (.ref a) ∧ ∀ H, SqT K H a [.str "down", .str "up", .str "near", .str "even"]
/-- a name of a unit, as the program asks -/
def GoodN (z : Str) : Prop := z.length ≤ 3 ∧ Txt.stripChars z letters = "" ∧ PyData.strOk z = true ∧ z.cps.toList.all (letters.cps.contains ·) = true
theorem tyx_tup {K : PySem.W.Frag} {H : Hp} {p : Addr} {xs : List V} (h : SqT K H p xs) : TyX K H (.ref p) (.type "tuple") := by
  rcases h with (h | ⟨o, h⟩) | ⟨o, its, n, h1, h2, _⟩
  · exact .base (.tup h)
  · exact .fTuple h
  · exact .kTuple h1 h2
theorem same_sqt {K : PySem.W.Frag} {a : Addr} {xs : List V} {H H' : Hp} (b : Same H H') (h : SqT K H a xs) : SqT K H' a xs := by
  rcases h with (h | ⟨o, h⟩) | h
  · exact .inl (.inl (b _ _ h))
  · exact .inl (.inr ⟨o, b _ _ h⟩)
  · exact .inr h
def spInteger : Sp := fun vs H Q _ => ∃ v : Int, vs = [.int v] ∧ Q (.bl true) H
def spWithin : Sp := fun vs H Q _ => ∃ v lo hi : Int, vs = [.int v, .int lo, .int hi] ∧ Q (.bl (decide (lo ≤ v ∧ v ≤ hi))) H
def spUName : Sp := fun vs H Q _ => ∃ z : Str, vs = [.str z] ∧ GoodN z ∧ Q (.bl true) H
def spUnit (K : PySem.W.Frag) : Sp := fun vs H Q _ => ∃ (p : Addr) (z : Str) (n : Int), vs = [.ref p] ∧ SqT K H p [.str z, .int n] ∧ GoodN z ∧ 1 ≤ n ∧ n ≤ 1000000000000000000 ∧ Q (.bl true) H
section
variable {P : Program} {w : World} {K : PySem.W.Frag} {mg : Str → Option Value} {base : Heap}
theorem ok_integer (d : Dd K mg "is_integer" sInteger ["value"]) (B : Bt mg) : FnOk P w K mg base CX0 1 d.f d.fd ["value"] spInteger := by
  refine d.F.ok scInteger (fun vs H Q E h => ?_) (fun cdv A outer s H vs Q E hr h => ?_)
  · obtain ⟨_, rfl, _⟩ := h
    rfl
  · obtain ⟨v, rfl, q⟩ := h
    refine ⟨_, pss_one (ps_ret (pe_and (pe_callB call_isi (by rfl) B.isinstance (by decide +kernel) (pa_cons (pv 0) (pa_cons (pe_bltn (v := .ty "int") (by rfl) B.int (by decide +kernel) rfl) pa_nil)))
      (pe_one (pe_not (pe_callB call_isi (by rfl) B.isinstance (by decide +kernel) (pa_cons (pv 0) (pa_cons (pe_bltn (v := .ty "bool") (by rfl) B.bool (by decide +kernel) rfl) pa_nil))))))), ?_⟩
    refine ⟨_, rfl, _, _, _, _, true, rfl, .ty "int", .base (.int v), kit_ty (by decide +kernel), _, rfl, iteT ?_⟩
    exact ⟨_, rfl, _, _, _, _, false, rfl, .ty "bool", .base (.int v), kit_ty (by decide +kernel), _, rfl, q⟩
theorem ok_within (d : DdW K mg) (B : Bt mg) : FnOk P w K mg base CX0 2 d.f d.fd ["value", "low", "high"] spWithin := by
  have GI : FnOk P w K mg base CX0 1 d.dI.f d.dI.fd ["value"] spInteger := ok_integer d.dI B
  refine d.F.ok scWithin (fun vs H Q E h => ?_) (fun cdv A outer s H vs Q E hr h => ?_)
  · obtain ⟨_, _, _, rfl, _⟩ := h
    rfl
  · obtain ⟨v, lo, hi, rfl, q⟩ := h
    refine ⟨_, pss_one (ps_ret (pe_and (pe_call GI hr (by rfl) d.dI.g d.dI.F.kp d.dI.b .nil pass0 (pa_cons (pv 0) pa_nil))
        (pe_one (pe_chain op_le op_le (pv 1) (pv 0) (pv 2))))), ?_⟩
    refine ⟨.int v, rfl, v, rfl, _, rfl, iteT ?_⟩
    refine ⟨.int lo, rfl, .int v, rfl, lo, v, rfl, rfl, _, rfl, ite2 (fun e => ?_) (fun e => ?_)⟩
    · have h1 : lo ≤ v := of_decide_eq_true e
      refine ⟨.int hi, rfl, v, hi, rfl, rfl, ?_⟩
      have e2 : decide (v ≤ hi) = decide (lo ≤ v ∧ v ≤ hi) := by simp [h1]
      show Q (.bl (decide (v ≤ hi))) H
      rw [e2]
      exact q
    · have h1 : ¬ lo ≤ v := fun z => e (decide_eq_true z)
      have e2 : false = decide (lo ≤ v ∧ v ≤ hi) := by simp [h1]
      rw [e2]
      exact q
theorem ok_uname (d : Dd K mg "is_unit_name" sUName ["name"]) (B : Bt mg) (G : Gc K mg) : FnOk P w K mg base CX0 2 d.f d.fd ["name"] spUName := by
  obtain ⟨t1, g1⟩ := G.mlet
  obtain ⟨t2, g2⟩ := G.letters
  refine d.F.ok scUName (fun vs H Q E h => ?_) (fun cdv A outer s H vs Q E hr h => ?_)
  · obtain ⟨_, rfl, _⟩ := h
    rfl
  · obtain ⟨z, rfl, ⟨h1, h2, _⟩, q⟩ := h
    refine ⟨_, pss_one (ps_ret (pe_and (pe_callB call_isi (by rfl) B.isinstance (by decide +kernel) (pa_cons (pv 0) (pa_cons (pe_bltn (v := .ty "str") (by rfl) B.str (by decide +kernel) rfl) pa_nil)))
      (pe_and (pe_cmpR op_le (pe_callB call_len_str (by rfl) B.len PySem.boot_len (pa_cons (pv 0) pa_nil)) (pe_glob (v := .int 3) (by rfl) g1 ⟨_, rfl⟩) (nomark _))
        (pe_one (pe_cmpR op_eq (pe_bm PySem.F.plainAttrs_str PySem.F.slot_str_strip PySem.F.type_str_strip mt_stripChars (pv 0) (pa_cons (pe_glob (v := .str letters) (by rfl) g2 ⟨_, rfl⟩) pa_nil)) pe_str (nomark _)))))), ?_⟩
    refine ⟨_, rfl, _, _, _, _, true, rfl, .ty "str", .base (.str z), kit_ty (by decide +kernel), _, rfl, iteT ?_⟩
    refine ⟨.str z, rfl, z, rfl, Nat.le_trans h1 (by decide), _, _, rfl, rfl, _, rfl, ?_⟩
    have e3 : decide ((z.length : Int) ≤ 3) = true := decide_eq_true (by omega)
    rw [if_pos e3]
    refine ⟨.str z, rfl, rfl, z, _, rfl, rfl, Nat.le_trans h1 (by decide), rfl, ?_⟩
    have e4 : decide (V.str (Txt.stripChars z letters) = V.str "") = true := decide_eq_true (by rw [h2])
    rw [e4]
    exact q
theorem ok_unit (d : Dd K mg "is_unit" sUnit ["unit"]) (dN : Dd K mg "is_unit_name" sUName ["name"]) (dW : DdW K mg) (B : Bt mg) (G : Gc K mg) : FnOk P w K mg base CX0 3 d.f d.fd ["unit"] (spUnit K) := by
  obtain ⟨t1, g1⟩ := G.num
  have GN : FnOk P w K mg base CX0 2 dN.f dN.fd ["name"] spUName := ok_uname dN B G
  have GW : FnOk P w K mg base CX0 2 dW.f dW.fd ["value", "low", "high"] spWithin := ok_within dW B
  refine d.F.ok scUnit (fun vs H Q E h => ?_) (fun cdv A outer s H vs Q E hr h => ?_)
  · obtain ⟨_, _, _, rfl, _⟩ := h
    rfl
  · obtain ⟨p, z, n, rfl, hp, hz, h1, h2, q⟩ := h
    refine ⟨_, pss_cons (ps_if (PW.pt (pw_or (pt_not (pt_val (pe_callB call_isi (by rfl) B.isinstance (by decide +kernel) (pa_cons (pv 0) (pa_cons (pe_bltn (v := .ty "tuple") (by rfl) B.tuple (by decide +kernel) rfl) pa_nil)))))
        (pw_or1 (pt_cmpR op_ne (pe_callB call_len_seq (by rfl) B.len PySem.boot_len (pa_cons (pv 0) pa_nil)) pe_int (nomark _))))) (pss_one (ps_ret pe_bl)) pss_nil)
      (pss_one (ps_ret (pe_and (pe_call GN hr (by rfl) dN.g dN.F.kp dN.b .nil pass0 (pa_cons (pe_ix ix_tup (pv 0) pe_int (fun _ _ => rfl)) pa_nil))
        (pe_one (pe_call GW hr (by rfl) dW.g dW.F.kp dW.b .nil pass0 (pa_cons (pe_ix ix_tup (pv 0) pe_int (fun _ _ => rfl)) (pa_cons pe_int (pa_cons (pe_glob (v := .int 1000000000000000000) (by rfl) g1 ⟨_, rfl⟩) pa_nil)))))))), ?_⟩
    refine ⟨_, rfl, _, _, _, _, true, rfl, .ty "tuple", tyx_tup hp, kit_ty (by decide +kernel), _, rfl, iteF ?_⟩
    refine ⟨.ref p, rfl, p, _, rfl, .inr hp, rfl, _, rfl, iteNS rfl ?_⟩
    refine ⟨.ref p, rfl, p, _, 0, .str z, rfl, rfl, hp, rfl, z, rfl, hz, _, rfl, iteT ?_⟩
    refine ⟨.ref p, rfl, p, _, 1, .int n, rfl, rfl, hp, rfl, n, 1, _, rfl, ?_⟩
    have e : decide (1 ≤ n ∧ n ≤ 1000000000000000000) = true := decide_eq_true ⟨h1, h2⟩
    rw [e]
    exact q
/-- the pairs of units stand -/
abbrev UP (K : PySem.W.Frag) (H : Hp) : List Addr → List (Str × Int) → Prop := PySem.Paired fun p u => SqT K H p [.str u.1, .int u.2]
/-- a tuple of units stands at a -/
def UA (K : PySem.W.Frag) (H : Hp) (a : Addr) (us : List (Str × Int)) : Prop := ∃ ps : List Addr, SqT K H a (ps.map V.ref) ∧ UP K H ps us
end
end My

namespace My
open PySem PySem.Spec PyProof.Rows L2
theorem paired_at {α β : Type} {F : α → β → Prop} : ∀ {l : List α} {m : List β} {i : Nat} {b : β}, PySem.Paired F l m → m[i]? = some b → ∃ a, l[i]? = some a ∧ F a b
  | _, _, _, _, .nil, e => by simp at e
  | _, _, 0, _, .cons r _, e => by simp at e; subst e; exact ⟨_, rfl, r⟩
  | _, _, i + 1, b, .cons _ t, e => by
    obtain ⟨u, h1, h2⟩ := paired_at (i := i) (b := b) t (by simpa using e)
    exact ⟨u, by simpa using h1, h2⟩
theorem paired_imp {α β : Type} {F G : α → β → Prop} (h : ∀ a b, F a b → G a b) : ∀ {l : List α} {m : List β}, PySem.Paired F l m → PySem.Paired G l m
  | _, _, .nil => .nil
  | _, _, .cons r t => .cons (h _ _ r) (paired_imp h t)
theorem UP.len {K : PySem.W.Frag} {H : Hp} {ps : List Addr} {us : List (Str × Int)} (h : UP K H ps us) : ps.length = us.length := PySem.Paired.length h
theorem UA.same {K : PySem.W.Frag} {H H' : Hp} {a : Addr} {us : List (Str × Int)} (s : Same H H') (h : UA K H a us) : UA K H' a us := by
  obtain ⟨ps, h1, h2⟩ := h
  exact ⟨ps, same_sqt s h1, paired_imp (fun _ _ => same_sqt s) h2⟩
theorem atI_end {α : Type} {xs : List α} {v : α} (h0 : 0 < xs.length) (h : xs[xs.length - 1]? = some v) : atI xs (-1) = some v := by
  unfold atI ixN
  have e1 : ¬ ((0 : Int) ≤ -1) := by omega
  have e2 : -(xs.length : Int) ≤ -1 := by omega
  have e3 : ((-1 : Int) + (xs.length : Int)).toNat = xs.length - 1 := by omega
  rw [if_neg e1, if_pos e2, e3]
  exact h
theorem get_ref {ps : List Addr} {i : Nat} {p : Addr} (h : ps[i]? = some p) : (ps.map V.ref)[i]? = some (.ref p) := by
  rw [List.getElem?_map, h]
  rfl
theorem of_get_ref {ps : List Addr} {i : Nat} {x : V} (h : (ps.map V.ref)[i]? = some x) : ∃ p, ps[i]? = some p ∧ x = .ref p := by
  rw [List.getElem?_map] at h
  cases e : ps[i]? with
  | none => rw [e] at h; cases h
  | some p => rw [e] at h; exact ⟨p, rfl, (Option.some.inj h).symm⟩
theorem paired_fst {α β : Type} {F : α → β → Prop} : ∀ {l : List α} {m : List β} {i : Nat} {a : α}, PySem.Paired F l m → l[i]? = some a → ∃ b, m[i]? = some b ∧ F a b
  | _, _, _, _, .nil, e => by simp at e
  | _, _, 0, _, .cons r _, e => by simp at e; subst e; exact ⟨_, rfl, r⟩
  | _, _, i + 1, b, .cons _ t, e => by
    obtain ⟨u, h1, h2⟩ := paired_fst (i := i) (a := b) t (by simpa using e)
    exact ⟨u, by simpa using h1, h2⟩
/-- a unit may stand behind others -/
def Fit (us : List (Str × Int)) (u : Str × Int) : Prop := (us = [] ∧ u.2 = 1) ∨ ∃ l, us[us.length - 1]? = some l ∧ us ≠ [] ∧ 0 < l.2 ∧ l.2 < u.2 ∧ u.2 % l.2 = 0 ∧ ∀ v ∈ us, v.1 ≠ u.1
theorem scFits : FnScope ["before", "unit", "name", "size", "last_size", "other"] ["before", "unit"] (defScope sFits) := ⟨rfl, rfl, rfl, by decide +kernel, rfl, by decide +kernel, by decide +kernel⟩
def spFits (K : PySem.W.Frag) : Sp := fun vs H Q _ => ∃ (b p : Addr) (us : List (Str × Int)) (u : Str × Int), vs = [.ref b, .ref p] ∧ UA K H b us ∧ SqT K H p [.str u.1, .int u.2] ∧ Fit us u ∧ us.length ≤ 6 ∧ ∀ H', Same H H' → Q (.bl true) H'
section
variable {P : Program} {w : World} {K : PySem.W.Frag} {mg : Str → Option Value} {base : Heap}
theorem ok_fits (d : Dd K mg "fits_behind" sFits ["before", "unit"]) (B : Bt mg) : FnOk P w K mg base CX0 2 d.f d.fd ["before", "unit"] (spFits K) := by
  refine d.F.ok scFits (fun vs H Q E h => ?_) (fun cdv A outer s H vs Q E hr h => ?_)
  · obtain ⟨_, _, _, _, rfl, _⟩ := h
    rfl
  · obtain ⟨b, p, us, ⟨z, n⟩, rfl, ⟨ps, hb, hu⟩, hp, hf, hlen, q⟩ := h
    refine ⟨_, pss_cons (ps_asg (pv 1) (pg_tup rfl (pgs_cons (pg_name (i := 2) scFits.nd rfl (.inl rfl)) (pgs_cons (pg_name (i := 3) scFits.nd rfl (.inl rfl)) pgs_nil))))
      (pss_cons (ps_if (pt_not (pt_truth (pv 0) (fun _ => rfl))) (pss_one (ps_ret (pe_cmpR op_eq (pv 3) pe_int (nomark _)))) pss_nil)
      (pss_cons (ps_set (i := 4) scFits.nd rfl (.inl rfl) (pe_ix ix_tup (pe_ix ix_tup (pv 0) (pe_un un_neg pe_int) (fun _ _ => rfl)) pe_int (fun _ _ => rfl)))
      (pss_one (ps_ret (pe_and (pe_cmpR op_gt (pv 3) (pv 4) (nomark _)) (pe_and (pe_cmpR op_eq (pe_op op_mod (pv 3) (pv 4)) pe_int (nomark _))
        (pe_one (pe_cmpR op_notIn_seq (pv 2)
          (pe_lc (own := [("other", 5)]) (g := gName 5) (tt := tYes) rfl scFits.nd (pi_tup (pv 0))
            (blkOk_by (own := [("other", 5)]) (N := ["before", "unit", "name", "size", "last_size", "other"]) (sc := defScope sFits) (by decide +kernel)) (fun _ _ _ _ _ => pg_name (i := 5) scFits.nd rfl (Or.inl rfl)) (fun _ _ _ _ _ => pts_nil)
            (fun _ _ _ _ _ => pe_ix (r := rIxT K) ix_tup (pv 5) pe_int (fun _ _ => rfl))) (by rfl))))))))), ?_⟩
    have el := UP.len hu
    refine ⟨.ref p, rfl, p, _, rfl, hp, rfl, .str z, [.int n], rfl, .int n, [], rfl, rfl, ?_⟩
    refine ⟨.ref b, rfl, _, .inr (.inl ⟨_, hb, rfl⟩), ?_⟩
    rcases hf with ⟨rfl, h1⟩ | ⟨⟨lz, ln⟩, hl, hne, h0, h1, h2, h3⟩
    · have e : ps = [] := List.length_eq_zero_iff.mp el
      subst e
      refine iteT ?_
      refine ⟨.int n, rfl, rfl, ?_⟩
      have e : decide (V.int n = V.int 1) = true := decide_eq_true (congrArg V.int h1)
      rw [e]
      exact q _ (Same.refl _)
    · obtain ⟨pl, hpl, hsl⟩ := paired_at hu hl
      have hps : ps ≠ [] := fun z => by
        rw [z] at hpl
        simp at hpl
      have hpos : 0 < ps.length := List.length_pos_iff.mpr hps
      have e0 : (!!(ps.map V.ref).isEmpty) = false := by
        cases ps with
        | nil => exact absurd rfl hps
        | cons a l => rfl
      rw [e0]
      refine iteF ?_
      refine ⟨.ref b, rfl, 1, rfl, b, _, -1, .ref pl, rfl, rfl, hb, atI_end (by rw [List.length_map]; exact hpos) (by rw [List.length_map, el]; exact get_ref hpl), pl, _, 1, .int ln, rfl, rfl, hsl, rfl, ?_⟩
      refine ⟨.int n, rfl, .int ln, rfl, n, ln, rfl, rfl, _, rfl, ?_⟩
      rw [if_pos (decide_eq_true h1)]
      refine ⟨.int n, rfl, .int ln, rfl, n, ln, rfl, rfl, h0, rfl, _, rfl, ?_⟩
      rw [if_pos (decide_eq_true (congrArg V.int h2 : V.int (n % ln) = V.int 0))]
      refine ⟨.str z, rfl, .ref b, rfl, b, rfl, ⟨_, hb⟩, fun D nD => ?_⟩
      refine lc_tup (K := K) (a := b) (xs := ps.map V.ref) (fun i H2 => Same H H2 ∧ H2 D = some (.lst ((us.take i).map fun u => V.str u.1))) ⟨same_upd nD, upd_same⟩ (fun i H2 _ h => same_sqt h.1 hb) ?_ ?_
      · rintro i x H2 hi ⟨sm, hD⟩
        obtain ⟨pi, hpi, rfl⟩ := of_get_ref hi
        obtain ⟨⟨uz, un⟩, hui, hsi⟩ := paired_fst hu hpi
        refine ⟨rfl, .ref pi, rfl, pi, _, 0, .str uz, rfl, rfl, same_sqt sm hsi, rfl, _, hD, ?_, fun c o e => ?_, ?_⟩
        · rw [List.length_map, List.length_take]
          exact Nat.lt_of_le_of_lt (Nat.le_trans (Nat.min_le_right _ _) hlen) (by decide)
        · rw [upd_ne (ne_of_none e nD)]
          exact sm _ _ e
        · rw [upd_same, List.take_add_one, hui, List.map_append]
          rfl
      · rintro H2 ⟨sm, hD⟩
        have et : us.take (ps.map V.ref).length = us := List.take_of_length_le (by rw [List.length_map, el]; exact Nat.le_refl _)
        rw [et] at hD
        refine ⟨D, _, rfl, .inl (SqL.of hD), rfl, ?_, ?_⟩
        · simp [List.all_map, flatV]
        · have e : inV (.str z) (us.map fun u => V.str u.1) = false := by
            unfold inV
            rw [List.any_eq_false]
            intro y hy
            obtain ⟨v, hv, rfl⟩ := List.mem_map.mp hy
            have := h3 v hv
            simpa [eqV] using this
          rw [if_pos rfl, e]
          exact q _ sm
end
end My

namespace My
open PySem PySem.Spec PyProof.Rows L2
theorem cut_take {xs : List V} (i : Nat) (hi : i ≤ xs.length) : cutV xs none (some (i : Int)) = xs.take i := by
  unfold cutV
  rw [HT.sIx_none, HT.sIx_nat, List.drop_zero, Nat.sub_zero, Nat.min_eq_left hi]
theorem cut_drop1 (xs : List V) : cutV xs (some 1) none = xs.drop 1 := by
  unfold cutV
  rw [HT.sIx_none, show HT.sIx xs.length 0 (some 1) = min 1 xs.length from HT.sIx_nat xs.length 0 1]
  cases xs with
  | nil => rfl
  | cons x r =>
    have e : min 1 (x :: r).length = 1 := by rw [List.length_cons]; omega
    rw [e]
    exact List.take_of_length_le (by rw [List.length_drop]; exact Nat.le_refl _)
theorem paired_take {α β : Type} {F : α → β → Prop} : ∀ {l : List α} {m : List β} (i : Nat), PySem.Paired F l m → PySem.Paired F (l.take i) (m.take i)
  | _, _, 0, _ => .nil
  | _, _, _ + 1, .nil => .nil
  | _, _, i + 1, .cons r t => .cons r (paired_take i t)
theorem paired_drop {α β : Type} {F : α → β → Prop} : ∀ {l : List α} {m : List β} (i : Nat), PySem.Paired F l m → PySem.Paired F (l.drop i) (m.drop i)
  | _, _, 0, r => r
  | _, _, _ + 1, .nil => .nil
  | _, _, i + 1, .cons _ t => paired_drop i t
/-- the units of a ladder -/
structure GoodUs (us : List (Str × Int)) : Prop where
  lo : 1 ≤ us.length
  hi : us.length ≤ 6
  each : ∀ i u, us[i]? = some u → GoodN u.1 ∧ 1 ≤ u.2 ∧ u.2 ≤ 1000000000000000000 ∧ Fit (us.take i) u
theorem scCUnits : FnScope ["units", "place", "unit"] ["units"] (defScope sCUnits) := ⟨rfl, rfl, rfl, by decide +kernel, rfl, by decide +kernel, by decide +kernel⟩
def spCUnits (K : PySem.W.Frag) : Sp := fun vs H Q _ => ∃ (a : Addr) (us : List (Str × Int)), vs = [.ref a] ∧ UA K H a us ∧ GoodUs us ∧ ∀ H', Same H H' → Q .non H'
section
variable {P : Program} {w : World} {K : PySem.W.Frag} {mg : Str → Option Value} {base : Heap}
theorem ok_cunits (d : Dd K mg "check_units" sCUnits ["units"]) (dU : Dd K mg "is_unit" sUnit ["unit"]) (dN : Dd K mg "is_unit_name" sUName ["name"]) (dW : DdW K mg) (dF : Dd K mg "fits_behind" sFits ["before", "unit"])
    (B : Bt mg) (G : Gc K mg) : FnOk P w K mg base CX0 4 d.f d.fd ["units"] (spCUnits K) := by
  obtain ⟨t1, g1⟩ := G.units
  have GU : FnOk P w K mg base CX0 3 dU.f dU.fd ["unit"] (spUnit K) := ok_unit dU dN dW B G
  have GF : FnOk P w K mg base CX0 2 dF.f dF.fd ["before", "unit"] (spFits K) := ok_fits dF B
  refine d.F.ok scCUnits (fun vs H Q E h => ?_) (fun cdv A outer s H vs Q E hr h => ?_)
  · obtain ⟨_, _, rfl, _⟩ := h
    rfl
  · obtain ⟨a, us, rfl, ⟨ps, ha, hu⟩, g, q⟩ := h
    have hr1 : Room 2 _ := hr.mono (by decide)
    refine ⟨_, pss_cons (ps_if (PW.pt (pw_or (pt_not (pt_val (pe_callB call_isi (by rfl) B.isinstance (by decide +kernel) (pa_cons (pv 0) (pa_cons (pe_bltn (v := .ty "tuple") (by rfl) B.tuple (by decide +kernel) rfl) pa_nil)))))
        (pw_or1 (pt_not (pt_chain op_le op_le pe_int (pe_callB call_len_seq (by rfl) B.len PySem.boot_len (pa_cons (pv 0) pa_nil)) (pe_glob (v := .int 6) (by rfl) g1 ⟨_, rfl⟩)))))) (pss_one ps_never) pss_nil)
      (pss_one (ps_for PassesOwn.never rfl (pi_enT (by rfl) B.enumerate (pa_cons (pv 0) pa_nil)) (pg_tup rfl (pgs_cons (pg_name (i := 1) scCUnits.nd rfl (.inl rfl)) (pgs_cons (pg_name (i := 2) scCUnits.nd rfl (.inl rfl)) pgs_nil)))
        (pss_one (ps_if (PW.pt (pw_or (pt_not (pt_val (pe_call GU hr (by rfl) dU.g dU.F.kp dU.b .nil pass0 (pa_cons (pv 2) pa_nil))))
          (pw_or1 (pt_not (pt_val (pe_call GF hr1 (by rfl) dF.g dF.F.kp dF.b .nil pass0 (pa_cons (pe_slice sl_tupA (pv 0) po_none (po_some (pv 1))) (pa_cons (pv 2) pa_nil)))))))) (pss_one ps_never) pss_nil)))), ?_⟩
    have el := UP.len hu
    refine ⟨_, rfl, _, _, _, _, true, rfl, .ty "tuple", tyx_tup ha, kit_ty (by decide +kernel), _, rfl, iteF ?_⟩
    refine ⟨.ref a, rfl, a, _, rfl, .inr ha, 1, _, rfl, rfl, _, rfl, ?_⟩
    have e1 : decide ((1 : Int) ≤ ((ps.map V.ref).length : Int)) = true := decide_eq_true (by rw [List.length_map, el]; have := g.lo; omega)
    have e2 : decide (((ps.map V.ref).length : Int) ≤ 6) = true := decide_eq_true (by rw [List.length_map, el]; have := g.hi; omega)
    rw [e1]
    refine iteT ?_
    refine ⟨_, _, rfl, rfl, _, rfl, ?_⟩
    rw [e2]
    refine iteF ?_
    refine ⟨.ref a, rfl, a, _, rfl, ha, for_enT (K := K) (a := a) (xs := ps.map V.ref) (fun i σ H2 => Same H H2 ∧ ∃ v1 v2, σ = [some (.ref a), v1, v2]) ⟨Same.refl _, none, none, rfl⟩ (fun i σ H2 _ h => same_sqt h.1 ha) ?_ ?_⟩
    · rintro i x σ H2 T hi ⟨sm, v1, v2, rfl⟩ nT
      obtain ⟨p, hp, rfl⟩ := of_get_ref hi
      obtain ⟨u, hu2, hs⟩ := paired_fst hu hp
      obtain ⟨k1, k2, k3, k4⟩ := g.each i u hu2
      have smT : Same H (upd H2 T (.tup [.int (i : Nat), .ref p])) := sm.trans (same_upd nT)
      have hi2 : i < ps.length := (List.getElem?_eq_some_iff.mp hp).1
      refine ⟨T, _, rfl, .inl (.inl upd_same), rfl, .int (i : Nat), [.ref p], rfl, .ref p, [], rfl, rfl, ?_⟩
      refine ⟨.ref p, rfl, p, u.1, u.2, rfl, same_sqt smT hs, k1, k2, k3, true, rfl, iteF ?_⟩
      refine ⟨.ref a, rfl, .int (i : Nat), rfl, _, rfl, a, _, rfl, same_sqt smT ha, fun z => ?_, fun _ c nc => ?_⟩
      · obtain ⟨_, z⟩ := z
        rw [HT.sIx_nat, List.length_map] at z
        omega
      · have smc := smT.trans (same_upd nc (o := .tup (cutV (ps.map V.ref) none (some (i : Int)))))
        have hcut : UA K (upd (upd H2 T (.tup [.int (i : Nat), .ref p])) c (.tup (cutV (ps.map V.ref) none (some (i : Int))))) c (us.take i) := by
          refine ⟨ps.take i, ?_, paired_take i (paired_imp (fun _ _ => same_sqt smc) hu)⟩
          rw [List.map_take, ← cut_take i (by rw [List.length_map]; omega)]
          exact SqT.of upd_same
        refine ⟨.ref p, rfl, c, p, us.take i, u, rfl, hcut, same_sqt smc hs, k4, ?_, fun H3 sm3 => ?_⟩
        · rw [List.length_take]
          exact Nat.le_trans (Nat.min_le_right _ _) g.hi
        · refine ⟨true, rfl, iteF ?_⟩
          exact ⟨smc.trans sm3, _, _, rfl⟩
    · rintro σ H2 ⟨sm, _⟩
      exact q _ sm
end
end My

namespace My
open PySem PySem.Spec PyProof.Rows L2
def notTup : HO → Bool
  | .tup _ => false
  | .frz _ _ => false
  | _ => true
theorem But.sqt {K : PySem.W.Frag} {a t : Addr} {o : HO} {xs : List V} {H H' : Hp} (hp : H a = some o) (n : notTup o = true) (b : But a H H') (h : SqT K H t xs) : SqT K H' t xs := by
  rcases h with (h | ⟨ob, h⟩) | h
  · refine .inl (.inl (b _ _ h ?_))
    rintro rfl
    rw [hp] at h
    cases h
    cases n
  · refine .inl (.inr ⟨ob, b _ _ h ?_⟩)
    rintro rfl
    rw [hp] at h
    cases h
    cases n
  · exact .inr h
theorem UA.but {K : PySem.W.Frag} {a t : Addr} {o : HO} {us : List (Str × Int)} {H H' : Hp} (hp : H a = some o) (n : notTup o = true) (b : But a H H') (h : UA K H t us) : UA K H' t us := by
  obtain ⟨ps, h1, h2⟩ := h
  exact ⟨ps, b.sqt hp n h1, paired_imp (fun _ _ => b.sqt hp n) h2⟩
theorem parts_at {d : Nat} (h : d ≤ 3) : atI [V.int 1, V.int 10, V.int 100, V.int 1000] (d : Int) = some (.int ((10 : Int) ^ d)) := by
  match d, h with
  | 0, _ => rfl
  | 1, _ => rfl
  | 2, _ => rfl
  | 3, _ => rfl
  | n + 4, h => omega
theorem pow_lo (d : Nat) : (0 : Int) < 10 ^ d := Int.pow_pos (by decide)
theorem pow_hi {d : Nat} (h : d ≤ 3) : (10 : Int) ^ d ≤ 1000 := by
  match d, h with
  | 0, _ => decide
  | 1, _ => decide
  | 2, _ => decide
  | 3, _ => decide
  | n + 4, h => omega
abbrev sCDec : Stmt := top 49
abbrev sCRnd : Stmt := top 50
theorem scCDec : FnScope ["units", "decimals", "unit"] ["units", "decimals"] (defScope sCDec) := ⟨rfl, rfl, rfl, by decide +kernel, rfl, by decide +kernel, by decide +kernel⟩
theorem scCRnd : FnScope ["rounding"] ["rounding"] (defScope sCRnd) := ⟨rfl, rfl, rfl, by decide +kernel, rfl, by decide +kernel, by decide +kernel⟩
def spCDec (K : PySem.W.Frag) : Sp := fun vs H Q _ => ∃ (a : Addr) (us : List (Str × Int)) (d : Nat), vs = [.ref a, .int (d : Int)] ∧ UA K H a us ∧ 1 ≤ us.length ∧ d ≤ 3 ∧ (∀ u ∈ us.drop 1, u.2 % (2 * 10 ^ d) = 0) ∧ ∀ H', Same H H' → Q .non H'
def sorts : List Str := ["down", "up", "near", "even"]
def spCRnd : Sp := fun vs H Q _ => ∃ z : Str, vs = [.str z] ∧ z ∈ sorts ∧ Q .non H
section
variable {P : Program} {w : World} {K : PySem.W.Frag} {mg : Str → Option Value} {base : Heap}
theorem ok_crnd (d : Dd K mg "check_rounding" sCRnd ["rounding"]) (B : Bt mg) (G : Gc K mg) : FnOk P w K mg base CX0 2 d.f d.fd ["rounding"] spCRnd := by
  obtain ⟨a1, g1, g2⟩ := G.rounds
  refine d.F.ok scCRnd (fun vs H Q E h => ?_) (fun cdv A outer s H vs Q E hr h => ?_)
  · obtain ⟨_, rfl, _⟩ := h
    rfl
  · obtain ⟨z, rfl, hz, q⟩ := h
    refine ⟨_, pss_one (ps_if (PW.pt (pw_or (pt_not (pt_val (pe_callB call_isi (by rfl) B.isinstance (by decide +kernel) (pa_cons (pv 0) (pa_cons (pe_bltn (v := .ty "str") (by rfl) B.str (by decide +kernel) rfl) pa_nil)))))
        (pw_or1 (pt_cmpR op_notIn_seq (pv 0) (pe_glob (v := .ref a1) (by rfl) g1 rfl) (by rfl))))) (pss_one ps_never) pss_nil), ?_⟩
    refine ⟨_, rfl, _, _, _, _, true, rfl, .ty "str", .base (.str z), kit_ty (by decide +kernel), _, rfl, iteF ?_⟩
    refine ⟨_, rfl, a1, _, rfl, .inr (g2 H), rfl, rfl, ?_⟩
    have e : inV (.str z) [.str "down", .str "up", .str "near", .str "even"] = true := by
      unfold inV sorts at *
      simp only [List.mem_cons, List.not_mem_nil, or_false] at hz
      rcases hz with rfl | rfl | rfl | rfl <;> decide +kernel
    rw [if_pos rfl, e]
    refine ⟨_, rfl, iteF ?_⟩
    exact q
theorem ok_cdec (d : Dd K mg "check_decimals" sCDec ["units", "decimals"]) (dW : DdW K mg) (B : Bt mg) (G : Gc K mg) : FnOk P w K mg base CX0 3 d.f d.fd ["units", "decimals"] (spCDec K) := by
  obtain ⟨t1, g1⟩ := G.decs
  obtain ⟨a2, g2, g3⟩ := G.parts
  have GW : FnOk P w K mg base CX0 2 dW.f dW.fd ["value", "low", "high"] spWithin := ok_within dW B
  refine d.F.ok scCDec (fun vs H Q E h => ?_) (fun cdv A outer s H vs Q E hr h => ?_)
  · obtain ⟨_, _, _, rfl, _⟩ := h
    rfl
  · obtain ⟨a, us, dn, rfl, ⟨ps, ha, hu⟩, hlen, hd, hall, q⟩ := h
    refine ⟨_, pss_cons (ps_if (pt_not (pt_val (pe_call GW hr (by rfl) dW.g dW.F.kp dW.b .nil pass0 (pa_cons (pv 1) (pa_cons pe_int (pa_cons (pe_glob (v := .int 3) (by rfl) g1 ⟨_, rfl⟩) pa_nil)))))) (pss_one ps_never) pss_nil)
      (pss_one (ps_for PassesOwn.never rfl (pi_tup (pe_slice sl_tupA (pv 0) (po_some pe_int) po_none)) (pg_name (i := 2) scCDec.nd rfl (.inl rfl))
        (pss_one (ps_if (pt_cmpR op_ne (pe_op op_mod (pe_ix ix_tup (pv 2) pe_int (fun _ _ => rfl)) (pe_op op_mul pe_int (pe_ix ix_tup (pe_glob (v := .ref a2) (by rfl) g2 rfl) (pv 1) (fun _ _ => rfl)))) pe_int (nomark _)) (pss_one ps_never) pss_nil)))), ?_⟩
    have el := UP.len hu
    refine ⟨.int (dn : Int), rfl, dn, 0, 3, rfl, ?_⟩
    rw [decide_eq_true (show (0 : Int) ≤ (dn : Int) ∧ (dn : Int) ≤ 3 by omega)]
    refine ⟨true, rfl, iteF ?_⟩
    refine ⟨.ref a, rfl, 1, rfl, a, _, rfl, ha, fun z => ?_, fun _ c nc => ?_⟩
    · obtain ⟨z, _⟩ := z
      rw [show HT.sIx (ps.map V.ref).length 0 (some 1) = min 1 (ps.map V.ref).length from HT.sIx_nat _ 0 1, List.length_map] at z
      omega
    · have smc : Same H (upd H c (.tup (cutV (ps.map V.ref) (some 1) none))) := same_upd nc
      refine ⟨c, rfl, ⟨_, SqT.of upd_same⟩, for_tup (K := K) (a := c) (xs := cutV (ps.map V.ref) (some 1) none) (fun i σ H2 => Same (upd H c (.tup (cutV (ps.map V.ref) (some 1) none))) H2 ∧ ∃ v, σ = [some (.ref a), some (.int (dn : Int)), v])
        ⟨Same.refl _, none, rfl⟩ (fun i σ H2 _ h => same_sqt h.1 (SqT.of upd_same)) ?_ ?_⟩
      · rintro i x σ H2 hi ⟨sm, v, rfl⟩
        rw [cut_drop1, ← List.map_drop] at hi
        obtain ⟨p, hp, rfl⟩ := of_get_ref hi
        obtain ⟨u, hu2, hs⟩ := paired_fst (paired_drop 1 hu) hp
        have hm : u ∈ us.drop 1 := List.mem_of_getElem? hu2
        have hz := hall u hm
        have hpos := pow_lo dn
        have hhi := pow_hi hd
        refine ⟨.ref p, rfl, p, _, 1, .int u.2, rfl, rfl, same_sqt sm (same_sqt smc hs), rfl, .int (dn : Int), rfl, a2, _, dn, _, rfl, rfl, g3 H2, parts_at hd, 2, _, rfl, rfl, .inl ⟨by decide, by decide⟩, u.2, _, rfl, rfl, (by show (0 : Int) < 2 * 10 ^ dn; omega), rfl, _, rfl, ?_⟩
        have e : (!decide (V.int (u.2 % (2 * 10 ^ dn)) = V.int 0)) = false := by rw [hz]; rfl
        rw [e]
        refine iteF ?_
        exact ⟨sm, _, rfl⟩
      · rintro σ H2 ⟨sm, _⟩
        exact q _ (smc.trans sm)
end
end My

namespace My
open PySem PySem.Spec PyProof.Rows L2
abbrev sLInit : Stmt := inClass (top 43) 0
theorem scLInit : FnScope ["self", "units", "decimals", "rounding", "carry", "least", "unit"] ["self", "units", "decimals", "rounding", "carry", "least"] (defScope sLInit) := ⟨rfl, rfl, rfl, by decide +kernel, rfl, by decide +kernel, by decide +kernel⟩
/-- the class Ladder -/
structure LadC (K : PySem.W.Frag) (mg : Str → Option Value) where
  C : Addr
  f : Addr
  fd : FuncData
  F : Fun K "__init__" "Ladder.__init__" sLInit f fd
  M : Mk K C f
  g : mg "Ladder" = some (.ref C)
  cl : Cls K C
  nUnits : NoAttr K C "units"
  nDec : NoAttr K C "decimals"
  nRnd : NoAttr K C "rounding"
  nCarry : NoAttr K C "carry"
  nLeast : NoAttr K C "least"
  nTold : NoAttr K C "told"
  nSteps : NoAttr K C "steps"
  nThr : NoAttr K C "thresholds"
/-- the attributes of a ladder, in their order -/
def fs5 (u : Addr) (d : Nat) (s : Str) (c : Bool) (l : Int) : List (Str × V) :=
  putF "least" (.int l) (putF "carry" (.bl c) (putF "rounding" (.str s) (putF "decimals" (.int (d : Int)) (putF "units" (.ref u) []))))
def flds (u : Addr) (d : Nat) (s : Str) (c : Bool) (l : Int) (t st th : Addr) : List (Str × V) :=
  putF "thresholds" (.ref th) (putF "steps" (.ref st) (putF "told" (.ref t) (fs5 u d s c l)))
local macro_rules | `(tactic| walk_at "my look") => `(tactic| (unfold flds fs5; repeat (first | rw [lookup_putF, if_pos rfl] | rw [lookup_putF, if_neg (by decide +kernel)])))
section
variable (u : Addr) (d : Nat) (s : Str) (c : Bool) (l : Int) (t st th : Addr)
theorem fl_units : (flds u d s c l t st th).lookup ("units" : Str) = some (.ref u) := by walk_at "my look"
theorem fl_dec : (flds u d s c l t st th).lookup ("decimals" : Str) = some (.int (d : Int)) := by walk_at "my look"
theorem fl_rnd : (flds u d s c l t st th).lookup ("rounding" : Str) = some (.str s) := by walk_at "my look"
theorem fl_carry : (flds u d s c l t st th).lookup ("carry" : Str) = some (.bl c) := by walk_at "my look"
theorem fl_least : (flds u d s c l t st th).lookup ("least" : Str) = some (.int l) := by walk_at "my look"
theorem fl_told : (flds u d s c l t st th).lookup ("told" : Str) = some (.ref t) := by walk_at "my look"
theorem fl_steps : (flds u d s c l t st th).lookup ("steps" : Str) = some (.ref st) := by walk_at "my look"
theorem fl_thr : (flds u d s c l t st th).lookup ("thresholds" : Str) = some (.ref th) := by walk_at "my look"
end
/-- steps and thresholds -/
def stepsOf (us : List (Str × Int)) (d : Nat) : List Int := 1 :: (us.drop 1).map fun u => u.2 / 10 ^ d
def thrsOf (us : List (Str × Int)) (l : Int) : List Int := 0 :: (us.drop 1).map fun u => u.2 * l
/-- what a ladder is made of -/
structure Good (us : List (Str × Int)) (d : Nat) (s : Str) (l : Int) : Prop where
  u : GoodUs us
  d3 : d ≤ 3
  div : ∀ u ∈ us.drop 1, u.2 % (2 * 10 ^ d) = 0
  srt : s ∈ sorts
  l1 : 1 ≤ l
  l2 : l ≤ 1000
def spLInit (K : PySem.W.Frag) (C : Addr) : Sp := fun vs H Q _ => ∃ (p dx ua : Addr) (us : List (Str × Int)) (d : Nat) (s : Str) (c : Bool) (l : Int), vs = [.ref p, .ref ua, .int (d : Int), .str s, .bl c, .int l] ∧ H p = some (.ins C dx []) ∧ UA K H ua us ∧ Good us d s l ∧
  ∀ (H' : Hp) (t st th : Addr), But p H H' → H' p = some (.ins C dx (flds ua d s c l t st th)) → SqT K H' t [.ref ua, .int (d : Int), .str s, .bl c, .int l] → SqT K H' st ((stepsOf us d).map V.int) → SqT K H' th ((thrsOf us l).map V.int) → Q .non H'
/-- [.. for unit in t], t a tuple of units, each to an int -/
theorem comp_units {K : PySem.W.Frag} {tl te : TE} {k : Nat} {σ : L2.St} {H : Hp} {Q : VK} {fn : Str × Int → Int} {vs : List (Str × Int)} {ps : List Addr} (hu : UP K H ps vs) (hlen : vs.length ≤ 6)
    (htl : ∀ Qt : VK, (∀ c H1, Same H H1 → SqT K H1 c (ps.map V.ref) → Qt (.ref c) H1) → tl σ H Qt)
    (hte : ∀ (pu : Addr) (u : Str × Int) (H4 : Hp) (Qe : VK), u ∈ vs → Same H H4 → SqT K H4 pu [.str u.1, .int u.2] → Qe (.int (fn u)) H4 → te ((wipe σ [k]).set k (some (.ref pu))) H4 Qe)
    (hw : ∀ y, wipe ((wipe σ [k]).set k (some y)) [k] = wipe σ [k])
    (hq : ∀ D H4, Same H H4 → H D = none → H4 D = some (.lst ((vs.map fn).map V.int)) → Q (.ref D) H4) : tLc (iTup K tl) (gName k) tYes te [k] σ H Q := by
  refine htl _ fun c H1 s1 hc => ⟨c, rfl, ⟨_, hc⟩, fun D nD => ?_⟩
  have el := UP.len hu
  refine lc_tup (K := K) (a := c) (xs := ps.map V.ref) (fun i H4 => Same H1 H4 ∧ H4 D = some (.lst (((vs.take i).map fn).map V.int))) ⟨same_upd nD, upd_same⟩ (fun i H4 _ h => same_sqt h.1 hc) ?_ ?_
  · rintro i y H4 hi ⟨sm, hD⟩
    obtain ⟨pu, hpu, rfl⟩ := of_get_ref hi
    obtain ⟨u, hu2, hs⟩ := paired_fst hu hpu
    refine ⟨hw _, hte pu u H4 _ (List.mem_of_getElem? hu2) (s1.trans sm) (same_sqt (s1.trans sm) hs) ⟨_, hD, ?_, fun b o e => ?_, ?_⟩⟩
    · rw [List.length_map, List.length_map, List.length_take]
      exact Nat.lt_of_le_of_lt (Nat.le_trans (Nat.min_le_right _ _) hlen) (by decide)
    · rw [upd_ne (ne_of_none e nD)]
      exact sm _ _ e
    · rw [upd_same, List.take_add_one, hu2, List.map_append, List.map_append]
      rfl
  · rintro H4 ⟨sm, hD⟩
    rw [List.length_map, el, List.take_of_length_le (Nat.le_refl _)] at hD
    exact hq D H4 (s1.trans sm) (s1.free nD) hD
/-- t[1:] of a tuple that is not empty -/
theorem rest_of {K : PySem.W.Frag} {H : Hp} {a : Addr} {xs : List V} {te : TE} {σ : L2.St} {Q : VK} (ha : SqT K H a xs) (h1 : 1 ≤ xs.length) (hte : ∀ Qt : VK, Qt (.ref a) H → te σ H Qt) (hq : ∀ c H1, Same H H1 → SqT K H1 c (xs.drop 1) → Q (.ref c) H1) :
    tSl (rSlA K) te (tPart (tC (.int 1))) tNoPart σ H Q := by
  refine hte _ ⟨1, rfl, a, xs, rfl, ha, fun z => ?_, fun _ c nc => ?_⟩
  · obtain ⟨z, _⟩ := z
    rw [show HT.sIx xs.length 0 (some 1) = min 1 xs.length from HT.sIx_nat _ 0 1] at z
    omega
  · refine hq c _ (same_upd nc) ?_
    rw [← cut_drop1]
    exact SqT.of upd_same
theorem few {f : Str} {v : V} {fs : List (Str × V)} {n : Nat} (h : fs.length ≤ n) : (putF f v fs).length ≤ n + 1 := Nat.le_trans (length_putF f v fs) (Nat.succ_le_succ h)
section
variable {P : Program} {w : World} {K : PySem.W.Frag} {mg : Str → Option Value} {base : Heap}
theorem ok_linit (L : LadC K mg) (dC : Dd K mg "check_units" sCUnits ["units"]) (dU : Dd K mg "is_unit" sUnit ["unit"]) (dN : Dd K mg "is_unit_name" sUName ["name"]) (dW : DdW K mg) (dF : Dd K mg "fits_behind" sFits ["before", "unit"])
    (dD : Dd K mg "check_decimals" sCDec ["units", "decimals"]) (dR : Dd K mg "check_rounding" sCRnd ["rounding"]) (B : Bt mg) (G : Gc K mg) :
    FnOk P w K mg base CX0 5 L.f L.fd ["self", "units", "decimals", "rounding", "carry", "least"] (spLInit K L.C) := by
  obtain ⟨a2, g2, g3⟩ := G.parts
  obtain ⟨t1, g1⟩ := G.least
  have GC : FnOk P w K mg base CX0 4 dC.f dC.fd ["units"] (spCUnits K) := ok_cunits dC dU dN dW dF B G
  have GD : FnOk P w K mg base CX0 3 dD.f dD.fd ["units", "decimals"] (spCDec K) := ok_cdec dD dW B G
  have GR : FnOk P w K mg base CX0 2 dR.f dR.fd ["rounding"] spCRnd := ok_crnd dR B G
  have GW : FnOk P w K mg base CX0 2 dW.f dW.fd ["value", "low", "high"] spWithin := ok_within dW B
  refine L.F.ok scLInit (fun vs H Q E h => ?_) (fun cdv A outer s H vs Q E hr h => ?_)
  · obtain ⟨_, _, _, _, _, _, _, _, rfl, _⟩ := h
    rfl
  · obtain ⟨p, dx, ua, us, dn, rs, cy, lt, rfl, hp, hU, g, q⟩ := h
    have hr2 : Room 3 _ := hr.mono (by decide)
    have hr1 : Room 2 _ := hr.mono (by decide)
    have nd := scLInit.nd
    refine ⟨_, pss_cons (ps_expr (pe_call GC hr (by rfl) dC.g dC.F.kp dC.b .nil pass0 (pa_cons (pv 1) pa_nil)))
      (pss_cons (ps_expr (pe_call GD hr2 (by rfl) dD.g dD.F.kp dD.b .nil pass0 (pa_cons (pv 1) (pa_cons (pv 2) pa_nil))))
      (pss_cons (ps_expr (pe_call GR hr1 (by rfl) dR.g dR.F.kp dR.b .nil pass0 (pa_cons (pv 3) pa_nil)))
      (pss_cons (ps_if (pt_not (pt_val (pe_callB call_isi (by rfl) B.isinstance (by decide +kernel) (pa_cons (pv 4) (pa_cons (pe_bltn (v := .ty "bool") (by rfl) B.bool (by decide +kernel) rfl) pa_nil))))) (pss_one ps_never) pss_nil)
      (pss_cons (ps_if (pt_not (pt_val (pe_call GW hr1 (by rfl) dW.g dW.F.kp dW.b .nil pass0 (pa_cons (pv 5) (pa_cons pe_int (pa_cons (pe_glob (v := .int 1000) (by rfl) g1 ⟨_, rfl⟩) pa_nil)))))) (pss_one ps_never) pss_nil)
      (pss_cons (ps_fld (pv 0) (pv 1) rfl)
      (pss_cons (ps_fld (pv 0) (pv 2) rfl)
      (pss_cons (ps_fld (pv 0) (pv 3) rfl)
      (pss_cons (ps_fld (pv 0) (pv 4) rfl)
      (pss_cons (ps_fld (pv 0) (pv 5) rfl)
      (Evl.pss_cut (ps_fld (pv 0) (pe_tup (pa_cons (pv 1) (pa_cons (pv 2) (pa_cons (pv 3) (pa_cons (pv 4) (pa_cons (pv 5) pa_nil)))))) rfl)
      (Evl.pss_cut (ps_fld (pv 0) (pe_op op_catA (pe_tup (pa_cons pe_int pa_nil)) (pe_tupleOf (by rfl) B.tuple
        (pe_lc (own := [("unit", 6)]) (g := gName 6) (tt := tYes) rfl nd (pi_tup (pe_slice sl_tupA (pv 1) (po_some pe_int) po_none))
            (blkOk_by (own := [("unit", 6)]) (N := ["self", "units", "decimals", "rounding", "carry", "least", "unit"]) (sc := defScope sLInit) (by decide +kernel)) (fun _ _ _ _ _ => pg_name (i := 6) nd rfl (Or.inl rfl)) (fun _ _ _ _ _ => pts_nil)
            (fun _ _ _ _ _ => pe_op op_fdiv (pe_ix (r := rIxT K) ix_tup (pv 6) pe_int (fun _ _ => rfl)) (pe_ix (r := rIxT K) ix_tup (pe_glob (v := .ref a2) (by rfl) g2 rfl) (pv 2) (fun _ _ => rfl)))))) rfl)
      (pss_one (ps_fld (pv 0) (pe_op op_catA (pe_tup (pa_cons pe_int pa_nil)) (pe_tupleOf (by rfl) B.tuple
        (pe_lc (own := [("unit", 6)]) (g := gName 6) (tt := tYes) rfl nd (pi_tup (pe_slice sl_tupA (pv 1) (po_some pe_int) po_none))
            (blkOk_by (own := [("unit", 6)]) (N := ["self", "units", "decimals", "rounding", "carry", "least", "unit"]) (sc := defScope sLInit) (by decide +kernel)) (fun _ _ _ _ _ => pg_name (i := 6) nd rfl (Or.inl rfl)) (fun _ _ _ _ _ => pts_nil)
            (fun _ _ _ _ _ => pe_op op_mul (pe_ix (r := rIxT K) ix_tup (pv 6) pe_int (fun _ _ => rfl)) (pv 5))))) rfl))))))))))))), ?_⟩
    have nt : notTup (.ins L.C dx []) = true := rfl
    -- the checks
    refine ⟨.ref ua, rfl, ua, us, rfl, hU, g.u, fun H1 s1 => ?_⟩
    refine ⟨.ref ua, rfl, .int (dn : Int), rfl, ua, us, dn, rfl, hU.same s1, g.u.lo, g.d3, g.div, fun H2 s2 => ?_⟩
    have s12 := s1.trans s2
    refine ⟨.str rs, rfl, rs, rfl, g.srt, ?_⟩
    refine ⟨_, rfl, _, _, _, _, true, rfl, .ty "bool", .base (.bl cy), kit_ty (by decide +kernel), _, rfl, iteF ?_⟩
    refine ⟨.int lt, rfl, lt, 1, 1000, rfl, ?_⟩
    rw [decide_eq_true (show (1 : Int) ≤ lt ∧ lt ≤ 1000 from ⟨g.l1, g.l2⟩)]
    refine ⟨true, rfl, iteF ?_⟩
    -- the fields
    have hp2 : H2 p = some (.ins L.C dx []) := s12 _ _ hp
    have cl := L.cl
    refine ⟨_, rfl, _, rfl, p, L.C, dx, _, rfl, hp2, cl, L.nUnits, by decide, ?_⟩
    refine ⟨_, rfl, _, rfl, p, L.C, dx, _, rfl, upd_same, cl, L.nDec, (by show 1 < 1000; decide), ?_⟩
    refine ⟨_, rfl, _, rfl, p, L.C, dx, _, rfl, upd_same, cl, L.nRnd, Nat.lt_of_le_of_lt (few (few (Nat.zero_le 0))) (by decide), ?_⟩
    refine ⟨_, rfl, _, rfl, p, L.C, dx, _, rfl, upd_same, cl, L.nCarry, Nat.lt_of_le_of_lt (few (few (few (Nat.zero_le 0)))) (by decide), ?_⟩
    refine ⟨_, rfl, _, rfl, p, L.C, dx, _, rfl, upd_same, cl, L.nLeast, Nat.lt_of_le_of_lt (few (few (few (few (Nat.zero_le 0))))) (by decide), ?_⟩
    have b5 : ∀ {H' : Hp}, But p H2 H' → But p H H' := fun b => (Same.but s12).trans b
    have lt5 : (fs5 ua dn rs cy lt).length ≤ 5 := few (few (few (few (few (Nat.zero_le 0)))))
    refine ⟨fun σ' H' => ∃ t, σ' = [some (.ref p), some (.ref ua), some (.int (dn : Int)), some (.str rs), some (.bl cy), some (.int lt), none] ∧ But p H H' ∧ H' p = some (.ins L.C dx (putF "told" (.ref t) (fs5 ua dn rs cy lt))) ∧
      SqT K H' t [.ref ua, .int (dn : Int), .str rs, .bl cy, .int lt], ?_, ?_⟩
    · refine ⟨_, rfl, _, rfl, _, rfl, _, rfl, _, rfl, (by show 5 ≤ sizeLine; decide), fun t nt' => ?_⟩
      have npt : p ≠ t := ne_of_none upd_same nt'
      refine ⟨_, rfl, p, L.C, dx, _, rfl, (by rw [upd_ne npt]; exact upd_same), cl, L.nTold, Nat.lt_of_le_of_lt lt5 (by decide), ?_⟩
      refine ⟨t, rfl, b5 ?_, upd_same, ?_⟩
      · exact (((((((But.upd _ _ _).trans (But.upd _ _ _)).trans (But.upd _ _ _)).trans (But.upd _ _ _)).trans (But.upd _ _ _)).trans (Same.but (same_upd nt')))).trans (But.upd _ _ _)
      · refine SqT.of ?_
        rw [upd_ne npt.symm]
        exact upd_same
    rintro σ' H3 ⟨t, rfl, b3, hp3, ht3⟩
    have lt6 : (putF "told" (V.ref t) (fs5 ua dn rs cy lt)).length ≤ 6 := few lt5
    have lt7 : ∀ st, (putF "steps" (V.ref st) (putF "told" (V.ref t) (fs5 ua dn rs cy lt))).length ≤ 7 := fun st => few lt6
    have each : ∀ u ∈ us.drop 1, 1 ≤ u.2 ∧ u.2 ≤ 1000000000000000000 := fun u hm => by
      obtain ⟨j, hj⟩ := List.getElem?_of_mem (List.mem_of_mem_drop hm)
      obtain ⟨_, h1, h2, _⟩ := g.u.each j u hj
      exact ⟨h1, h2⟩
    have nt1 : ∀ fs, notTup (.ins L.C dx fs) = true := fun _ => rfl
    have hl6 : (us.drop 1).length ≤ 6 := by rw [List.length_drop]; have := g.u.hi; omega
    have lenr : ∀ fn : Str × Int → Int, (((us.drop 1).map fn).map V.int).length ≤ 6 := fun fn => by rw [List.length_map, List.length_map]; exact hl6
    refine ⟨fun σ' H' => ∃ st, σ' = [some (.ref p), some (.ref ua), some (.int (dn : Int)), some (.str rs), some (.bl cy), some (.int lt), none] ∧ But p H H' ∧ H' p = some (.ins L.C dx (putF "steps" (.ref st) (putF "told" (.ref t) (fs5 ua dn rs cy lt)))) ∧
      SqT K H' t [.ref ua, .int (dn : Int), .str rs, .bl cy, .int lt] ∧ SqT K H' st ((stepsOf us dn).map V.int), ?_, ?_⟩
    · refine ⟨(by show 1 ≤ sizeLine; decide), fun x nx => ?_⟩
      have sx := same_upd nx (o := .tup [.int 1])
      obtain ⟨ps, ha, hu⟩ := (hU.but hp nt b3).same sx
      have el := UP.len hu
      refine comp_units (paired_drop 1 hu) hl6 (fun Qt hq => rest_of (te := tVar 1) ha (by rw [List.length_map, el]; exact g.u.lo) (fun Qt h => ⟨_, rfl, h⟩) (fun c H1 s1 h => hq c H1 s1 (by rw [List.map_drop]; exact h))) (fn := fun u => u.2 / 10 ^ dn) ?_ (fun y => rfl) ?_
      · intro pu u H4 Qe hm sm hs q4
        exact ⟨.ref pu, rfl, pu, _, 1, .int u.2, rfl, rfl, hs, rfl, .int (dn : Int), rfl, a2, _, dn, _, rfl, rfl, g3 H4, parts_at g.d3, u.2, _, rfl, rfl, ⟨pow_lo dn, Int.lt_of_le_of_lt (pow_hi g.d3) (by decide)⟩, q4⟩
      · intro D H4 sm nD hD
        have hx4 : H4 x = some (.tup [.int 1]) := sm _ _ upd_same
        have fin : ∀ (st : Addr) (H5 : Hp), Same H4 H5 → SqT K H5 st ((stepsOf us dn).map V.int) → H5 p = some (.ins L.C dx (putF "told" (.ref t) (fs5 ua dn rs cy lt))) ∧ ∀ o, But p H (upd H5 p o) ∧ SqT K (upd H5 p o) t [.ref ua, .int (dn : Int), .str rs, .bl cy, .int lt] ∧ SqT K (upd H5 p o) st ((stepsOf us dn).map V.int) := fun st H5 s5 hst => by
          have s35 := (sx.trans sm).trans s5
          have hp5 := s35 _ _ hp3
          exact ⟨hp5, fun o => ⟨b3.trans ((Same.but s35).trans (But.upd _ _ _)), (But.upd _ _ _).sqt hp5 rfl (same_sqt s35 ht3), (But.upd _ _ _).sqt hp5 rfl hst⟩⟩
        refine .inl ⟨D, _, rfl, SqL.of hD, fun r nr => ?_⟩
        have sr := same_upd nr (o := .tup (((us.drop 1).map fun u => u.2 / 10 ^ dn).map V.int))
        refine ⟨x, r, [.int 1], ((us.drop 1).map fun u => u.2 / 10 ^ dn).map V.int, rfl, rfl, SqT.of (sr _ _ hx4), SqT.of upd_same, Nat.le_trans (Nat.add_le_add_left (lenr _) 1) (by decide), (fun z => nomatch z), fun _ z => ?_, fun _ z y ny => ?_⟩
        · obtain ⟨f1, f2⟩ := fin x _ sr (SqT.of (by
            have e : (stepsOf us dn).map V.int = [.int 1] := by unfold stepsOf; rw [List.map_cons, z]
            rw [e]
            exact sr _ _ hx4))
          obtain ⟨f3, f4, f5⟩ := f2 (.ins L.C dx (putF "steps" (.ref x) (putF "told" (.ref t) (fs5 ua dn rs cy lt))))
          exact ⟨_, rfl, p, L.C, dx, _, rfl, f1, cl, L.nSteps, Nat.lt_of_le_of_lt lt6 (by decide), x, rfl, f3, upd_same, f4, f5⟩
        · obtain ⟨f1, f2⟩ := fin y _ (sr.trans (same_upd ny)) (SqT.of upd_same)
          obtain ⟨f3, f4, f5⟩ := f2 (.ins L.C dx (putF "steps" (.ref y) (putF "told" (.ref t) (fs5 ua dn rs cy lt))))
          exact ⟨_, rfl, p, L.C, dx, _, rfl, f1, cl, L.nSteps, Nat.lt_of_le_of_lt lt6 (by decide), y, rfl, f3, upd_same, f4, f5⟩
    rintro σ' H6 ⟨st, rfl, b6, hp6, ht6, hs6⟩
    -- the thresholds
    refine ⟨(by show 1 ≤ sizeLine; decide), fun x nx => ?_⟩
    have sx := same_upd nx (o := .tup [.int 0])
    obtain ⟨ps, ha, hu⟩ := (hU.but hp nt b6).same sx
    have el := UP.len hu
    refine comp_units (paired_drop 1 hu) hl6 (fun Qt hq => rest_of (te := tVar 1) ha (by rw [List.length_map, el]; exact g.u.lo) (fun Qt h => ⟨_, rfl, h⟩) (fun c H1 s1 h => hq c H1 s1 (by rw [List.map_drop]; exact h))) (fn := fun u => u.2 * lt) ?_ (fun y => rfl) ?_
    · intro pu u H4 Qe hm sm hs q4
      obtain ⟨k1, k2⟩ := each u hm
      exact ⟨.ref pu, rfl, pu, _, 1, .int u.2, rfl, rfl, hs, rfl, .int lt, rfl, u.2, lt, rfl, rfl, .inl ⟨by omega, by omega⟩, q4⟩
    · intro D H4 sm nD hD
      have hx4 : H4 x = some (.tup [.int 0]) := sm _ _ upd_same
      have fin : ∀ (th : Addr) (H5 : Hp), Same H4 H5 → SqT K H5 th ((thrsOf us lt).map V.int) → H5 p = some (.ins L.C dx (putF "steps" (.ref st) (putF "told" (.ref t) (fs5 ua dn rs cy lt)))) ∧ Q .non (upd H5 p (.ins L.C dx (flds ua dn rs cy lt t st th))) := fun th H5 s5 hth => by
        have s35 := (sx.trans sm).trans s5
        have hp5 := s35 _ _ hp6
        exact ⟨hp5, q _ t st th (b6.trans ((Same.but s35).trans (But.upd _ _ _))) upd_same ((But.upd _ _ _).sqt hp5 rfl (same_sqt s35 ht6)) ((But.upd _ _ _).sqt hp5 rfl (same_sqt s35 hs6)) ((But.upd _ _ _).sqt hp5 rfl hth)⟩
      refine .inl ⟨D, _, rfl, SqL.of hD, fun r nr => ?_⟩
      have sr := same_upd nr (o := .tup (((us.drop 1).map fun u => u.2 * lt).map V.int))
      refine ⟨x, r, [.int 0], ((us.drop 1).map fun u => u.2 * lt).map V.int, rfl, rfl, SqT.of (sr _ _ hx4), SqT.of upd_same, Nat.le_trans (Nat.add_le_add_left (lenr _) 1) (by decide), (fun z => nomatch z), fun _ z => ?_, fun _ z y ny => ?_⟩
      · obtain ⟨f1, f2⟩ := fin x _ sr (SqT.of (by
          have e : (thrsOf us lt).map V.int = [.int 0] := by unfold thrsOf; rw [List.map_cons, z]
          rw [e]
          exact sr _ _ hx4))
        exact ⟨_, rfl, p, L.C, dx, _, rfl, f1, cl, L.nThr, Nat.lt_of_le_of_lt (lt7 _) (by decide), f2⟩
      · obtain ⟨f1, f2⟩ := fin y _ (sr.trans (same_upd ny)) (SqT.of upd_same)
        exact ⟨_, rfl, p, L.C, dx, _, rfl, f1, cl, L.nThr, Nat.lt_of_le_of_lt (lt7 _) (by decide), f2⟩
end
end My

namespace My
open PySem PySem.Spec PyProof.Rows L2
abbrev sPlaced : Stmt := top 31
abbrev sRounded : Stmt := top 33
abbrev sGoes : Stmt := top 34
abbrev sCar : Stmt := top 35
abbrev sWritten : Stmt := top 37
abbrev sShow : Stmt := top 44
abbrev sFigOf : Stmt := top 32
abbrev sCLad : Stmt := top 47
abbrev sCNum : Stmt := top 48
theorem scGoes : FnScope ["below", "rest", "step", "rounding"] ["below", "rest", "step", "rounding"] (defScope sGoes) := ⟨rfl, rfl, rfl, by decide +kernel, rfl, by decide +kernel, by decide +kernel⟩
theorem scRounded : FnScope ["number", "step", "rounding", "below", "rest"] ["number", "step", "rounding"] (defScope sRounded) := ⟨rfl, rfl, rfl, by decide +kernel, rfl, by decide +kernel, by decide +kernel⟩
theorem scCar : FnScope ["ladder", "place", "mark"] ["ladder", "place", "mark"] (defScope sCar) := ⟨rfl, rfl, rfl, by decide +kernel, rfl, by decide +kernel, by decide +kernel⟩
theorem scCLad : FnScope ["ladder"] ["ladder"] (defScope sCLad) := ⟨rfl, rfl, rfl, by decide +kernel, rfl, by decide +kernel, by decide +kernel⟩
theorem scCNum : FnScope ["number"] ["number"] (defScope sCNum) := ⟨rfl, rfl, rfl, by decide +kernel, rfl, by decide +kernel, by decide +kernel⟩
/-! ### the mirror -/
def goesUp (b r st : Int) (s : Str) : Bool :=
  if s = "up" then decide (0 < r) else if s = "near" then decide (st ≤ 2 * r) else if s = "even" then decide (st < 2 * r) || (decide (2 * r = st) && decide (b % 2 = 1)) else false
def rnd (n st : Int) (s : Str) : Int := if goesUp (n / st) (n % st) st s = true then n / st + 1 else n / st
/-- a ladder stands at p -/
def LadAt (K : PySem.W.Frag) (C : Addr) (H : Hp) (p : Addr) (us : List (Str × Int)) (d : Nat) (s : Str) (c : Bool) (l : Int) : Prop :=
  ∃ dx ua t st th, H p = some (.ins C dx (flds ua d s c l t st th)) ∧ UA K H ua us ∧ SqT K H t [.ref ua, .int (d : Int), .str s, .bl c, .int l] ∧ SqT K H st ((stepsOf us d).map V.int) ∧ SqT K H th ((thrsOf us l).map V.int)
theorem LadAt.same {K : PySem.W.Frag} {C : Addr} {H H' : Hp} {p : Addr} {us : List (Str × Int)} {d : Nat} {s : Str} {c : Bool} {l : Int} (k : Same H H') (h : LadAt K C H p us d s c l) : LadAt K C H' p us d s c l := by
  obtain ⟨dx, ua, t, st, th, h1, h2, h3, h4, h5⟩ := h
  exact ⟨dx, ua, t, st, th, k _ _ h1, h2.same k, same_sqt k h3, same_sqt k h4, same_sqt k h5⟩
theorem len_steps (us : List (Str × Int)) (d : Nat) (h : 1 ≤ us.length) : (stepsOf us d).length = us.length := by
  unfold stepsOf
  rw [List.length_cons, List.length_map, List.length_drop]
  omega
theorem len_thrs (us : List (Str × Int)) (l : Int) (h : 1 ≤ us.length) : (thrsOf us l).length = us.length := by
  unfold thrsOf
  rw [List.length_cons, List.length_map, List.length_drop]
  omega
def spGoes : Sp := fun vs H Q _ => ∃ (b r st : Int) (s : Str), vs = [.int b, .int r, .int st, .str s] ∧ Q (.bl (goesUp b r st s)) H
def spRounded : Sp := fun vs H Q _ => ∃ (n st : Int) (s : Str), vs = [.int n, .int st, .str s] ∧ 0 < st ∧ st.natAbs < 2 ^ 64 ∧ ∀ H', Same H H' → Q (.int (rnd n st s)) H'
def isCar (us : List (Str × Int)) (d : Nat) (c : Bool) (l : Int) (p : Nat) (m : Int) : Bool := c && (decide (p + 1 < us.length) && decide ((thrsOf us l).getD (p + 1) 0 ≤ m * (stepsOf us d).getD p 0))
def spCar (K : PySem.W.Frag) (C : Addr) : Sp := fun vs H Q _ => ∃ (a : Addr) (us : List (Str × Int)) (d : Nat) (s : Str) (c : Bool) (l : Int) (p : Nat) (m : Int), vs = [.ref a, .int (p : Int), .int m] ∧ LadAt K C H a us d s c l ∧ Good us d s l ∧ p < us.length ∧ Q (.bl (isCar us d c l p m)) H
def spCLad (K : PySem.W.Frag) (C : Addr) : Sp := fun vs H Q _ => ∃ (a : Addr) (us : List (Str × Int)) (d : Nat) (s : Str) (c : Bool) (l : Int), vs = [.ref a] ∧ LadAt K C H a us d s c l ∧ Q .non H
def spCNum : Sp := fun vs H Q _ => ∃ n : Int, vs = [.int n] ∧ 0 ≤ n ∧ n ≤ 1000000000000000000 ∧ Q .non H
/-- what isinstance asks of the class -/
structure LadI (K : PySem.W.Frag) (C : Addr) : Prop where
  i1 : PySem.W.findIn K (.ref C) "__class__" = some (some (.builtin "object.__class__"))
  i2 : PySem.W.specialIn K (.builtin "object.__class__") "__get__" = some (some (.builtin "getset_descriptor.__get__"))
  i3 : PySem.W.takesIn K (.builtin "object.__class__") = some true
  i4 : PySem.W.mroIn K C (.type "object") = some true
  i5 : PySem.W.kitOne K (.ref C) (.ref C) = some true
theorem steps_ok {us : List (Str × Int)} {d : Nat} {s : Str} {l : Int} (g : Good us d s l) {p : Nat} (hp : p < us.length) : (stepsOf us d)[p]? = some ((stepsOf us d).getD p 0) ∧ 0 < (stepsOf us d).getD p 0 ∧ (stepsOf us d).getD p 0 ≤ 1000000000000000000 := by
  have e := len_steps us d g.u.lo
  have h1 : (stepsOf us d)[p]? = some (stepsOf us d)[p] := List.getElem?_eq_getElem (by omega)
  have h2 : (stepsOf us d).getD p 0 = (stepsOf us d)[p] := by rw [List.getD_eq_getElem?_getD, h1]; rfl
  rw [h2]
  refine ⟨h1, ?_⟩
  have hm : (stepsOf us d)[p] ∈ stepsOf us d := List.getElem_mem _
  unfold stepsOf at hm
  rcases List.mem_cons.mp hm with z | z
  · have e2 : (stepsOf us d)[p] = 1 := z
    rw [e2]
    exact ⟨by decide, by decide⟩
  · obtain ⟨u, hu, e2⟩ := List.mem_map.mp z
    have e3 : u.2 / 10 ^ d = (stepsOf us d)[p] := e2
    rw [← e3]
    obtain ⟨j, hj⟩ := List.getElem?_of_mem (List.mem_of_mem_drop hu)
    obtain ⟨_, k1, k2, _⟩ := g.u.each j u hj
    have hz := g.div u hu
    have hp := pow_lo d
    have hq : (2 * 10 ^ d : Int) ∣ u.2 := Int.dvd_of_emod_eq_zero hz
    obtain ⟨q, hq⟩ := hq
    have e4 : u.2 / 10 ^ d = 2 * q := by
      rw [hq, show (2 * 10 ^ d * q : Int) = 2 * q * 10 ^ d by rw [Int.mul_assoc, Int.mul_assoc, Int.mul_comm (10 ^ d) q]]
      exact Int.mul_ediv_cancel _ (by omega)
    have hqpos : 0 < q := by
      rcases Int.lt_or_le 0 q with z | z
      · exact z
      · exfalso
        have : 2 * 10 ^ d * q ≤ 0 := Int.mul_nonpos_of_nonneg_of_nonpos (by omega) z
        omega
    constructor
    · omega
    · have : u.2 / 10 ^ d ≤ u.2 := Int.ediv_le_self _ (by omega)
      omega
section
variable {P : Program} {w : World} {K : PySem.W.Frag} {mg : Str → Option Value} {base : Heap}
theorem ok_goes (d : Dd K mg "goes_up" sGoes ["below", "rest", "step", "rounding"]) : FnOk P w K mg base CX0 2 d.f d.fd ["below", "rest", "step", "rounding"] spGoes := by
  refine d.F.ok scGoes (fun vs H Q E h => ?_) (fun cdv A outer s H vs Q E hr h => ?_)
  · obtain ⟨_, _, _, _, rfl, _⟩ := h
    rfl
  · obtain ⟨b, r, st, z, rfl, q⟩ := h
    refine ⟨_, pss_cons (ps_if (pt_cmpR op_eq (pv 3) pe_str (nomark _)) (pss_one (ps_ret (pe_cmpR op_gt (pv 1) pe_int (nomark _)))) pss_nil)
      (pss_cons (ps_if (pt_cmpR op_eq (pv 3) pe_str (nomark _)) (pss_one (ps_ret (pe_cmpR op_ge (pe_op op_mul pe_int (pv 1)) (pv 2) (nomark _)))) pss_nil)
      (pss_cons (ps_if (pt_cmpR op_eq (pv 3) pe_str (nomark _)) (pss_one (ps_ret (pe_or (pe_cmpR op_gt (pe_op op_mul pe_int (pv 1)) (pv 2) (nomark _))
        (pe_one (pe_and (pe_cmpR op_eq (pe_op op_mul pe_int (pv 1)) (pv 2) (nomark _)) (pe_one (pe_cmpR op_eq (pe_op op_mod (pv 0) pe_int) pe_int (nomark _)))))))) pss_nil)
      (pss_one (ps_ret pe_bl)))), ?_⟩
    unfold goesUp at q
    have hd : ∀ x : Str, decide (V.str z = V.str x) = true → z = x := fun x e => V.str.inj (of_decide_eq_true e)
    have hn : ∀ x : Str, ¬ decide (V.str z = V.str x) = true → ¬ z = x := fun x e y => e (decide_eq_true (congrArg V.str y))
    refine ⟨_, rfl, rfl, _, rfl, ite2 (fun e => ?_) (fun e => ?_)⟩
    · rw [if_pos (hd _ e)] at q
      exact ⟨_, rfl, r, 0, rfl, rfl, q⟩
    rw [if_neg (hn _ e)] at q
    refine ⟨_, rfl, rfl, _, rfl, ite2 (fun e => ?_) (fun e => ?_)⟩
    · rw [if_pos (hd _ e)] at q
      exact ⟨_, rfl, 2, r, rfl, rfl, .inl ⟨by decide, by decide⟩, _, rfl, _, st, rfl, rfl, q⟩
    rw [if_neg (hn _ e)] at q
    refine ⟨_, rfl, rfl, _, rfl, ite2 (fun e => ?_) (fun e => ?_)⟩
    · rw [if_pos (hd _ e)] at q
      refine ⟨_, rfl, 2, r, rfl, rfl, .inl ⟨by decide, by decide⟩, _, rfl, _, st, rfl, rfl, _, rfl, ite2 (fun e1 => ?_) (fun e1 => ?_)⟩
      · have e2 : decide (st < 2 * r) = true := e1
        rw [e2] at q
        exact q
      · have e2 : decide (st < 2 * r) = false := Bool.eq_false_iff.mpr e1
        rw [e2, Bool.false_or] at q
        refine ⟨_, rfl, 2, r, rfl, rfl, .inl ⟨by decide, by decide⟩, _, rfl, rfl, _, rfl, ite2 (fun e3 => ?_) (fun e3 => ?_)⟩
        · have e4 : (2 * r = st) := V.int.inj (of_decide_eq_true e3)
          rw [decide_eq_true e4, Bool.true_and] at q
          refine ⟨_, rfl, b, 2, rfl, rfl, (by show (0 : Int) < 2; decide), rfl, ?_⟩
          have e5 : decide (V.int (b % 2) = V.int 1) = decide (b % 2 = 1) := by simp
          show Q (.bl (decide (V.int (b % 2) = V.int 1))) H
          rw [e5]
          exact q
        · have e4 : ¬ (2 * r = st) := fun z => e3 (decide_eq_true (congrArg V.int z))
          rw [decide_eq_false e4, Bool.false_and] at q
          exact q
    rw [if_neg (hn _ e)] at q
    exact q
theorem ok_rounded (d : Dd K mg "rounded" sRounded ["number", "step", "rounding"]) (dG : Dd K mg "goes_up" sGoes ["below", "rest", "step", "rounding"]) (B : Bt mg) : FnOk P w K mg base CX0 3 d.f d.fd ["number", "step", "rounding"] spRounded := by
  have GG : FnOk P w K mg base CX0 2 dG.f dG.fd ["below", "rest", "step", "rounding"] spGoes := ok_goes dG
  refine d.F.ok scRounded (fun vs H Q E h => ?_) (fun cdv A outer s H vs Q E hr h => ?_)
  · obtain ⟨_, _, _, rfl, _⟩ := h
    rfl
  · obtain ⟨n, st, z, rfl, h0, h1, q⟩ := h
    refine ⟨_, pss_cons (ps_asg (pe_callB call_divmodW (by rfl) B.divmod (by decide +kernel) (pa_cons (pv 0) (pa_cons (pv 1) pa_nil))) (pg_tup rfl (pgs_cons (pg_name (i := 3) scRounded.nd rfl (.inl rfl)) (pgs_cons (pg_name (i := 4) scRounded.nd rfl (.inl rfl)) pgs_nil))))
      (pss_cons (ps_if (pt_val (pe_call GG hr (by rfl) dG.g dG.F.kp dG.b .nil pass0 (pa_cons (pv 3) (pa_cons (pv 4) (pa_cons (pv 1) (pa_cons (pv 2) pa_nil)))))) (pss_one (ps_ret (pe_op op_add (pv 3) pe_int))) pss_nil)
      (pss_one (ps_ret (pv 3)))), ?_⟩
    refine ⟨_, rfl, _, rfl, n, st, rfl, divp_small _ h0 h1, fun p np => ?_⟩
    refine ⟨p, _, rfl, SqT.of upd_same, rfl, _, _, rfl, _, _, rfl, rfl, ?_⟩
    have qq := q _ (same_upd np (o := .tup [.int (n / st), .int (n % st)]))
    unfold rnd at qq
    refine ⟨_, rfl, _, rfl, _, rfl, _, rfl, n / st, n % st, st, z, rfl, _, rfl, ite2 (fun e => ?_) (fun e => ?_)⟩
    · rw [if_pos e] at qq
      exact ⟨_, rfl, _, 1, rfl, rfl, qq⟩
    · rw [if_neg e] at qq
      exact ⟨_, rfl, qq⟩
theorem ok_cnum (d : Dd K mg "check_number" sCNum ["number"]) (dW : DdW K mg) (B : Bt mg) (G : Gc K mg) : FnOk P w K mg base CX0 3 d.f d.fd ["number"] spCNum := by
  obtain ⟨t1, g1⟩ := G.num
  have GW : FnOk P w K mg base CX0 2 dW.f dW.fd ["value", "low", "high"] spWithin := ok_within dW B
  refine d.F.ok scCNum (fun vs H Q E h => ?_) (fun cdv A outer s H vs Q E hr h => ?_)
  · obtain ⟨_, rfl, _⟩ := h
    rfl
  · obtain ⟨n, rfl, h0, h1, q⟩ := h
    refine ⟨_, pss_one (ps_if (pt_not (pt_val (pe_call GW hr (by rfl) dW.g dW.F.kp dW.b .nil pass0 (pa_cons (pv 0) (pa_cons pe_int (pa_cons (pe_glob (v := .int 1000000000000000000) (by rfl) g1 ⟨_, rfl⟩) pa_nil)))))) (pss_one ps_never) pss_nil), ?_⟩
    refine ⟨_, rfl, n, 0, _, rfl, ?_⟩
    rw [decide_eq_true (show (0 : Int) ≤ n ∧ n ≤ 1000000000000000000 from ⟨h0, h1⟩)]
    exact ⟨true, rfl, iteF q⟩
theorem ok_clad (d : Dd K mg "check_ladder" sCLad ["ladder"]) (L : LadC K mg) (I : LadI K L.C) (B : Bt mg) : FnOk P w K mg base CX0 2 d.f d.fd ["ladder"] (spCLad K L.C) := by
  refine d.F.ok scCLad (fun vs H Q E h => ?_) (fun cdv A outer s H vs Q E hr h => ?_)
  · obtain ⟨_, _, _, _, _, _, rfl, _⟩ := h
    rfl
  · obtain ⟨a, us, dn, z, c, l, rfl, ⟨dx, ua, t, st, th, hp, _⟩, q⟩ := h
    refine ⟨_, pss_one (ps_if (pt_not (pt_val (pe_callB call_isi (by rfl) B.isinstance (by decide +kernel) (pa_cons (pv 0) (pa_cons (pe_glob (v := .ref L.C) (by rfl) L.g rfl) pa_nil))))) (pss_one ps_never) pss_nil), ?_⟩
    exact ⟨_, rfl, _, _, _, _, true, rfl, .own L.C, .base (.ins hp L.cl I.i1 I.i2 I.i3 I.i4), I.i5, _, rfl, iteF q⟩
theorem ok_car (d : Dd K mg "is_carried" sCar ["ladder", "place", "mark"]) (L : LadC K mg) (B : Bt mg) : FnOk P w K mg base CX0 2 d.f d.fd ["ladder", "place", "mark"] (spCar K L.C) := by
  refine d.F.ok scCar (fun vs H Q E h => ?_) (fun cdv A outer s H vs Q E hr h => ?_)
  · obtain ⟨_, _, _, _, _, _, _, _, rfl, _⟩ := h
    rfl
  · obtain ⟨a, us, dn, z, c, l, p, m, rfl, ⟨dx, ua, t, st, th, hp, ⟨ps, hua, hu⟩, ht, hs, hth⟩, g, hlt, q⟩ := h
    refine ⟨_, pss_cons (ps_if (PW.pt (pw_or (pt_not (pt_val (pe_fld (pv 0) rfl))) (pw_or1 (pt_cmpR op_eq (pe_op op_add (pv 1) pe_int) (pe_callB call_len_seq (by rfl) B.len PySem.boot_len (pa_cons (pe_fld (pv 0) rfl) pa_nil)) (nomark _))))) (pss_one (ps_ret pe_bl)) pss_nil)
      (pss_one (ps_ret (pe_cmpR op_ge (pe_op op_mul (pv 2) (pe_ix ix_tup (pe_fld (pv 0) rfl) (pv 1) (fun _ _ => rfl))) (pe_ix ix_tup (pe_fld (pv 0) rfl) (pe_op op_add (pv 1) pe_int) (fun _ _ => rfl)) (nomark _)))), ?_⟩
    unfold isCar at q
    have el := UP.len hu
    refine ⟨_, rfl, a, L.C, dx, _, _, rfl, hp, L.cl, L.nCarry, fl_carry .., _, rfl, ?_⟩
    cases c with
    | false =>
      refine iteT ?_
      refine iteT ?_
      exact q
    | true =>
      refine iteF ?_
      rw [Bool.true_and] at q
      refine ⟨_, rfl, p, 1, rfl, rfl, _, rfl, a, L.C, dx, _, _, rfl, hp, L.cl, L.nUnits, fl_units .., ua, _, rfl, .inr hua, rfl, _, rfl, ite2 (fun e => ?_) (fun e => ?_)⟩
      · have e1 : (p : Int) + 1 = ((ps.map V.ref).length : Int) := V.int.inj (of_decide_eq_true e)
        rw [List.length_map, el] at e1
        rw [decide_eq_false (show ¬ p + 1 < us.length by omega), Bool.false_and] at q
        exact q
      · have e1 : ¬ (p : Int) + 1 = ((ps.map V.ref).length : Int) := fun z => e (decide_eq_true (congrArg V.int z))
        rw [List.length_map, el] at e1
        have h1 : p + 1 < us.length := by omega
        rw [decide_eq_true h1, Bool.true_and] at q
        obtain ⟨s1, s2, s3⟩ := steps_ok g hlt
        have lt := len_thrs us l g.u.lo
        have t1 : (thrsOf us l)[p + 1]? = some ((thrsOf us l).getD (p + 1) 0) := by
          have h2 : (thrsOf us l)[p + 1]? = some (thrsOf us l)[p + 1] := List.getElem?_eq_getElem (by omega)
          rw [List.getD_eq_getElem?_getD, h2]
          rfl
        refine ⟨_, rfl, _, rfl, a, L.C, dx, _, _, rfl, hp, L.cl, L.nSteps, fl_steps .., _, rfl, st, _, p, .int ((stepsOf us dn).getD p 0), rfl, rfl, hs, atI_nat (by rw [List.getElem?_map, s1]; rfl), m, _, rfl, rfl, .inr ⟨by omega, by omega⟩, ?_⟩
        refine ⟨_, rfl, a, L.C, dx, _, _, rfl, hp, L.cl, L.nThr, fl_thr .., _, rfl, p, 1, rfl, rfl, th, _, (p + 1 : Nat), .int ((thrsOf us l).getD (p + 1) 0), rfl, rfl, hth, atI_nat (by rw [List.getElem?_map, t1]; rfl), _, _, rfl, rfl, q⟩
end
end My

namespace My
open PySem PySem.Spec PyProof.Rows L2
/-! ### texts as lists of signs -/
theorem str_ext {x y : Str} (h : x.cps.toList = y.cps.toList) : x = y := by
  cases x
  cases y
  exact congrArg Str.mk (Array.toList_inj.mp h)
theorem str_app (x y : Str) : (x ++ y).cps.toList = x.cps.toList ++ y.cps.toList := Array.toList_append
theorem str_len (x : Str) : x.length = x.cps.toList.length := by show x.cps.size = _; simp
/-- the signs of a number -/
def dg (m : Int) : List Nat := (Str.ofString (toString m)).cps.toList
theorem dg_digits {m : Int} (h : 0 ≤ m) : ∀ c ∈ dg m, 48 ≤ c ∧ c ≤ 57 := by
  obtain ⟨k, rfl⟩ := Int.eq_ofNat_of_zero_le h
  intro c hc
  unfold dg at hc
  rw [PySem.W.KIN.signs_num] at hc
  obtain ⟨ch, hch, e⟩ := List.mem_map.mp hc
  have r := PyProof.Rows.digit_range (Nat.isDigit_of_mem_toDigits (by decide) (by decide) hch)
  rw [← e]
  exact r
theorem dg_pos {m : Int} (h : 0 ≤ m) : 1 ≤ (dg m).length := by
  obtain ⟨k, rfl⟩ := Int.eq_ofNat_of_zero_le h
  unfold dg
  rw [PySem.W.KIN.signs_num, List.length_map]
  exact toDigits_len_ge 10 k
theorem dg_small {m : Int} (h2 : m.natAbs < 10 ^ 40) : (dg m).length ≤ 41 := by
  unfold dg
  rw [← str_len]
  have e := PySem.int_text_length_le10 (a := m) (k := 40) (by decide) h2
  rw [PySem.ofString_length]
  exact e
/-- a number filled with zeros -/
def zf (d : Nat) (m : Int) : List Nat := List.replicate (d + 1 - (dg m).length) 48 ++ dg m
theorem zf_len (d : Nat) (m : Int) : (zf d m).length = max (d + 1) (dg m).length := by
  unfold zf
  rw [List.length_append, List.length_replicate]
  omega
def body (d : Nat) (m : Int) : List Nat := (zf d m).take ((zf d m).length - d) ++ 46 :: (zf d m).drop ((zf d m).length - d)
/-- the figure of a place and a mark -/
def writ (us : List (Str × Int)) (d p : Nat) (m : Int) : Str := if p = 0 ∨ d = 0 then Str.ofString (toString m) ++ (us.getD p ("", 0)).1 else ⟨(body d m).toArray⟩ ++ (us.getD p ("", 0)).1
theorem zfill_zf {d : Nat} {m : Int} (h : 0 ≤ m) : (Txt.zfill (Str.ofString (toString m)) ((d : Int) + 1)).cps.toList = zf d m := by
  have hl : (Str.ofString (toString m)).length = (dg m).length := str_len _
  unfold Txt.zfill
  rw [hl]
  by_cases c : ((d : Int) + 1) ≤ ((dg m).length : Int)
  · rw [if_pos c]
    unfold zf
    rw [show d + 1 - (dg m).length = 0 by omega]
    rfl
  · rw [if_neg c]
    have e1 : ((d : Int) + 1).toNat - (dg m).length = d + 1 - (dg m).length := by omega
    rw [e1]
    have hp := dg_pos h
    obtain ⟨c0, r, e2⟩ : ∃ c0 r, dg m = c0 :: r := by
      cases e : dg m with
      | nil => rw [e] at hp; exact absurd hp (by decide)
      | cons a l => exact ⟨a, l, rfl⟩
    have hc0 := dg_digits h c0 (by rw [e2]; exact List.mem_cons_self ..)
    have e3 : (Str.ofString (toString m)).cps[0]? = some c0 := by
      rw [← Array.getElem?_toList]
      show (dg m)[0]? = some c0
      rw [e2]
      rfl
    unfold zfilled
    rw [e3]
    split
    · rename_i q; have := Option.some.inj q; omega
    · rename_i q; have := Option.some.inj q; omega
    · unfold Builtin.Str.padded zf dg
      simp
theorem cut_to {z : Str} {d : Nat} (h1 : 1 ≤ d) : (cutS z none (some (-(d : Int)))).cps.toList = z.cps.toList.take (z.cps.toList.length - d) := by
  unfold cutS
  have e : HT.sIx z.length z.length (some (-(d : Int))) = z.length - d := by
    show (if (-(d : Int)) < 0 then ((-(d : Int)) + (z.length : Int)).toNat else min (-(d : Int)).toNat z.length) = _
    rw [if_pos (by omega)]
    omega
  rw [HT.sIx_none, e, str_len]
  simp
theorem cut_from {z : Str} {d : Nat} (h1 : 1 ≤ d) : (cutS z (some (-(d : Int))) none).cps.toList = z.cps.toList.drop (z.cps.toList.length - d) := by
  unfold cutS
  have e : HT.sIx z.length 0 (some (-(d : Int))) = z.length - d := by
    show (if (-(d : Int)) < 0 then ((-(d : Int)) + (z.length : Int)).toNat else min (-(d : Int)).toNat z.length) = _
    rw [if_pos (by omega)]
    omega
  rw [HT.sIx_none, e, str_len]
  simp only [List.toList_toArray]
  refine List.take_of_length_le ?_
  rw [List.length_drop]
  exact Nat.le_refl _
theorem cut_ton {z : Str} {k : Nat} (h1 : k ≤ z.cps.toList.length) : (cutS z none (some (k : Int))).cps.toList = z.cps.toList.take k := by
  unfold cutS
  rw [HT.sIx_none, HT.sIx_nat, str_len, Nat.min_eq_left h1]
  simp
theorem cut_fromn {z : Str} {k : Nat} (h1 : k ≤ z.cps.toList.length) : (cutS z (some (k : Int)) none).cps.toList = z.cps.toList.drop k := by
  unfold cutS
  rw [HT.sIx_none, HT.sIx_nat, str_len, Nat.min_eq_left h1]
  simp only [List.toList_toArray]
  refine List.take_of_length_le ?_
  rw [List.length_drop]
  exact Nat.le_refl _
theorem fold_app (n : Nat) : ∀ a : Array Nat, ((List.replicate n (#[48] : Array Nat)).foldl (· ++ ·) a).toList = a.toList ++ List.replicate n 48 := by
  induction n with
  | zero => intro a; simp
  | succ n ih =>
    intro a
    rw [List.replicate_succ, List.foldl_cons, ih]
    simp [List.replicate_succ]
theorem mul_zero (k : Int) : (Txt.mul ("0" : Str) k).cps.toList = List.replicate k.toNat 48 := by
  unfold Txt.mul
  by_cases h : k < 1
  · rw [if_pos h, show k.toNat = 0 by omega]
    rfl
  · rw [if_neg h]
    by_cases h1 : k = 1
    · subst h1
      rfl
    · have e : (k == 1 || ("0" : Str).length == 0) = false := by
        have e1 : (k == 1) = false := by simpa using h1
        rw [e1]
        rfl
      rw [e, if_neg Bool.false_ne_true]
      have e2 : ("0" : Str).cps = #[48] := rfl
      show ((List.replicate k.toNat ("0" : Str).cps).foldl (· ++ ·) #[]).toList = _
      rw [e2, fold_app]
      rfl
end My

namespace My
open PySem PySem.Spec PyProof.Rows L2
theorem scPlaced : FnScope ["ladder", "number", "place", "mark", "low"] ["ladder", "number"] (defScope sPlaced) := ⟨rfl, rfl, rfl, by decide +kernel, rfl, by decide +kernel, by decide +kernel⟩
theorem scWritten : FnScope ["ladder", "place", "mark", "name", "digits"] ["ladder", "place", "mark"] (defScope sWritten) := ⟨rfl, rfl, rfl, by decide +kernel, rfl, by decide +kernel, by decide +kernel⟩
theorem scShow : FnScope ["ladder", "number"] ["ladder", "number"] (defScope sShow) := ⟨rfl, rfl, rfl, by decide +kernel, rfl, by decide +kernel, by decide +kernel⟩
theorem scFigOf : FnScope ["ladder", "number", "place", "mark"] ["ladder", "number"] (defScope sFigOf) := ⟨rfl, rfl, rfl, by decide +kernel, rfl, by decide +kernel, by decide +kernel⟩
def cntOf (us : List (Str × Int)) (l n : Int) : Nat := ((thrsOf us l).filter fun t => decide (t ≤ n)).length
def placeOf (us : List (Str × Int)) (l n : Int) : Nat := cntOf us l n - 1
theorem cnt_pos {us : List (Str × Int)} {l n : Int} (h : 0 ≤ n) : 1 ≤ cntOf us l n := by
  unfold cntOf thrsOf
  rw [List.filter_cons, if_pos (decide_eq_true h), List.length_cons]
  omega
theorem cnt_le {us : List (Str × Int)} {l n : Int} (h : 1 ≤ us.length) : cntOf us l n ≤ us.length := by
  unfold cntOf
  rw [← len_thrs us l h]
  exact List.length_filter_le _ _
/-- the place and the mark by which a number is shown -/
def placedM (us : List (Str × Int)) (d : Nat) (s : Str) (c : Bool) (l n : Int) : Nat × Int :=
  if isCar us d c l (placeOf us l n) (rnd n ((stepsOf us d).getD (placeOf us l n) 0) s) = true
  then (placeOf us l n + 1, rnd n ((stepsOf us d).getD (placeOf us l n + 1) 0) s)
  else (placeOf us l n, rnd n ((stepsOf us d).getD (placeOf us l n) 0) s)
def spPlaced (K : PySem.W.Frag) (C : Addr) : Sp := fun vs H Q _ => ∃ (a : Addr) (us : List (Str × Int)) (d : Nat) (s : Str) (c : Bool) (l n : Int), vs = [.ref a, .int n] ∧ LadAt K C H a us d s c l ∧ Good us d s l ∧ 0 ≤ n ∧
  ∀ (r : Addr) (H' : Hp), Same H H' → SqT K H' r [.int ((placedM us d s c l n).1 : Int), .int (placedM us d s c l n).2] → Q (.ref r) H'
def spWritten (K : PySem.W.Frag) (C : Addr) : Sp := fun vs H Q _ => ∃ (a : Addr) (us : List (Str × Int)) (d : Nat) (s : Str) (c : Bool) (l : Int) (p : Nat) (m : Int), vs = [.ref a, .int (p : Int), .int m] ∧ LadAt K C H a us d s c l ∧ Good us d s l ∧ p < us.length ∧ 0 ≤ m ∧ m < 10 ^ 40 ∧ Q (.str (writ us d p m)) H
theorem isCar_lt {us : List (Str × Int)} {d : Nat} {c : Bool} {l : Int} {p : Nat} {m : Int} (h : isCar us d c l p m = true) : p + 1 < us.length := by
  unfold isCar at h
  rw [Bool.and_eq_true, Bool.and_eq_true] at h
  exact of_decide_eq_true h.2.1
theorem name_small {us : List (Str × Int)} (g : GoodUs us) (p : Nat) : (us.getD p ("", 0)).1.length ≤ 3 := by
  rw [List.getD_eq_getElem?_getD]
  cases e : us[p]? with
  | none => decide
  | some u => exact (g.each p u e).1.1
section
variable {P : Program} {w : World} {K : PySem.W.Frag} {mg : Str → Option Value} {base : Heap}
theorem ok_placed (d : Dd K mg "placed" sPlaced ["ladder", "number"]) (dR : Dd K mg "rounded" sRounded ["number", "step", "rounding"]) (dG : Dd K mg "goes_up" sGoes ["below", "rest", "step", "rounding"]) (dC : Dd K mg "is_carried" sCar ["ladder", "place", "mark"]) (L : LadC K mg) (B : Bt mg) :
    FnOk P w K mg base CX0 4 d.f d.fd ["ladder", "number"] (spPlaced K L.C) := by
  have GR : FnOk P w K mg base CX0 3 dR.f dR.fd ["number", "step", "rounding"] spRounded := ok_rounded dR dG B
  have GC : FnOk P w K mg base CX0 2 dC.f dC.fd ["ladder", "place", "mark"] (spCar K L.C) := ok_car dC L B
  refine d.F.ok scPlaced (fun vs H Q E h => ?_) (fun cdv A outer s H vs Q E hr h => ?_)
  · obtain ⟨_, _, _, _, _, _, _, rfl, _⟩ := h
    rfl
  · obtain ⟨a, us, dn, z, c, l, n, rfl, hL, g, h0, q⟩ := h
    have hr1 : Room 2 _ := hr.mono (by decide)
    have nd := scPlaced.nd
    refine ⟨_, Evl.pss_cut (ps_set (i := 2) nd rfl (.inl rfl) (pe_op op_sub (pe_callB call_len_seq (by rfl) B.len PySem.boot_len (pa_cons
        (pe_lc (own := [("low", 4)]) (g := gName 4) rfl nd (pi_tup (pe_fld (pv 0) rfl)) (blkOk_by (own := [("low", 4)]) (N := ["ladder", "number", "place", "mark", "low"]) (sc := defScope sPlaced) (by decide +kernel)) (fun _ _ _ _ _ => pg_name (i := 4) nd rfl (Or.inl rfl))
          (fun _ _ _ _ _ => pts_one (pt_cmpR op_le (pv 4) (pv 1) (nomark _))) (fun _ _ _ _ _ => pv 4)) pa_nil)) pe_int))
      (pss_cons (ps_set (i := 3) nd rfl (.inl rfl) (pe_call GR hr (by rfl) dR.g dR.F.kp dR.b .nil pass0 (pa_cons (pv 1) (pa_cons (pe_ix ix_tup (pe_fld (pv 0) rfl) (pv 2) (fun _ _ => rfl)) (pa_cons (pe_fld (pv 0) rfl) pa_nil)))))
      (pss_cons (ps_if (pt_not (pt_val (pe_call GC hr1 (by rfl) dC.g dC.F.kp dC.b .nil pass0 (pa_cons (pv 0) (pa_cons (pv 2) (pa_cons (pv 3) pa_nil)))))) (pss_one (ps_ret (pe_tup (pa_cons (pv 2) (pa_cons (pv 3) pa_nil))))) pss_nil)
      (pss_one (ps_ret (pe_tup (pa_cons (pe_op op_add (pv 2) pe_int) (pa_cons (pe_call GR hr (by rfl) dR.g dR.F.kp dR.b .nil pass0 (pa_cons (pv 1) (pa_cons (pe_ix ix_tup (pe_fld (pv 0) rfl) (pe_op op_add (pv 2) pe_int) (fun _ _ => rfl)) (pa_cons (pe_fld (pv 0) rfl) pa_nil)))) pa_nil))))))), ?_⟩
    have hc1 := cnt_pos (us := us) (l := l) h0
    have hc2 := cnt_le (l := l) (n := n) g.u.lo
    refine ⟨fun σ' H' => Same H H' ∧ σ' = [some (.ref a), some (.int n), some (.int (placeOf us l n : Int)), none, none], ?_, ?_⟩
    · obtain ⟨dx, ua, t, st, th, hp, hua, ht, hs, hth⟩ := hL
      refine ⟨.ref a, rfl, a, L.C, dx, _, _, rfl, hp, L.cl, L.nThr, fl_thr .., th, rfl, ⟨_, hth⟩, fun D nD => ?_⟩
      refine lc_tup (K := K) (a := th) (xs := (thrsOf us l).map V.int) (fun i H2 => Same H H2 ∧ H2 D = some (.lst ((((thrsOf us l).take i).filter fun t => decide (t ≤ n)).map V.int))) ⟨same_upd nD, upd_same⟩ (fun i H2 _ h => same_sqt h.1 hth) ?_ ?_
      · rintro i x H2 hi ⟨sm, hD⟩
        rw [List.getElem?_map] at hi
        cases e : (thrsOf us l)[i]? with
        | none => rw [e] at hi; cases hi
        | some y =>
          rw [e] at hi
          have ex := (Option.some.inj hi).symm
          subst ex
          have et : ((thrsOf us l).take (i + 1)).filter (fun t => decide (t ≤ n)) = ((thrsOf us l).take i).filter (fun t => decide (t ≤ n)) ++ (if decide (y ≤ n) = true then [y] else []) := by
            rw [List.take_add_one, e, List.filter_append]
            congr 1
            show List.filter _ [y] = _
            rw [List.filter_cons]
            rfl
          refine ⟨rfl, .int y, rfl, .int n, rfl, y, n, rfl, rfl, _, rfl, ite2 (fun c1 => ?_) (fun c1 => ?_)⟩
          · refine ⟨.int y, rfl, _, hD, ?_, fun b o eb => ?_, ?_⟩
            · rw [List.length_map]
              have k1 : (((thrsOf us l).take i).filter fun t => decide (t ≤ n)).length ≤ 6 := Nat.le_trans (List.length_filter_le _ _) (by rw [List.length_take, len_thrs us l g.u.lo]; have := g.u.hi; omega)
              exact Nat.lt_of_le_of_lt k1 (by decide)
            · rw [upd_ne (ne_of_none eb nD)]
              exact sm _ _ eb
            · have c2 : decide (y ≤ n) = true := c1
              rw [upd_same, et, if_pos c2, List.map_append]
              rfl
          · have c2 : ¬ decide (y ≤ n) = true := c1
            refine ⟨sm, ?_⟩
            rw [et, if_neg c2, List.append_nil]
            exact hD
      · rintro H2 ⟨sm, hD⟩
        rw [List.length_map, List.take_of_length_le (Nat.le_refl _)] at hD
        refine ⟨D, _, rfl, .inl (SqL.of hD), _, 1, rfl, rfl, sm, ?_⟩
        have e : (((((thrsOf us l).filter fun t => decide (t ≤ n)).map V.int).length : Nat) : Int) - 1 = (placeOf us l n : Int) := by
          rw [List.length_map]
          show ((cntOf us l n : Nat) : Int) - 1 = ((cntOf us l n - 1 : Nat) : Int)
          omega
        show [some (V.ref a), some (V.int n), some (V.int (((((thrsOf us l).filter fun t => decide (t ≤ n)).map V.int).length : Int) - 1)), none, none] = _
        rw [e]
    · rintro σ' H1 ⟨s1, rfl⟩
      have hpl : placeOf us l n < us.length := by unfold placeOf; omega
      obtain ⟨pm, unf⟩ : ∃ pm, placedM us dn z c l n = pm := ⟨_, rfl⟩
      rw [unf] at q
      unfold placedM at unf
      generalize placeOf us l n = p at hpl unf ⊢
      obtain ⟨dx, ua, t, st, th, hp, hua, ht, hs, hth⟩ := hL.same s1
      obtain ⟨k1, k2, k3⟩ := steps_ok g hpl
      refine ⟨_, rfl, _, rfl, a, L.C, dx, _, _, rfl, hp, L.cl, L.nSteps, fl_steps .., _, rfl, st, _, p, .int ((stepsOf us dn).getD p 0), rfl, rfl, hs, atI_nat (by rw [List.getElem?_map, k1]; rfl), _, rfl, a, L.C, dx, _, _, rfl, hp, L.cl, L.nRnd, fl_rnd .., n, _, z, rfl, k2, by omega, fun H2 s2 => ?_⟩
      have hL2 := (hL.same s1).same s2
      refine ⟨_, rfl, _, rfl, _, rfl, a, us, dn, z, c, l, p, _, rfl, hL2, g, hpl, ?_⟩
      cases ec : isCar us dn c l p (rnd n ((stepsOf us dn).getD p 0) z) with
      | false =>
        rw [ec, if_neg Bool.false_ne_true] at unf
        refine ⟨false, rfl, iteT ?_⟩
        refine ⟨_, rfl, _, rfl, (by show 2 ≤ sizeLine; decide), fun r nr => ?_⟩
        refine q r _ ((s1.trans s2).trans (same_upd nr)) ?_
        subst unf
        exact SqT.of upd_same
      | true =>
        rw [ec, if_pos rfl] at unf
        refine ⟨true, rfl, iteF ?_⟩
        have hp1 := isCar_lt ec
        obtain ⟨j1, j2, j3⟩ := steps_ok g hp1
        obtain ⟨dx', ua', t', st', th', hp', hua', ht', hs', hth'⟩ := hL2
        refine ⟨_, rfl, p, 1, rfl, rfl, _, rfl, _, rfl, a, L.C, dx', _, _, rfl, hp', L.cl, L.nSteps, fl_steps .., _, rfl, p, 1, rfl, rfl, st', _, ((p + 1 : Nat) : Int), .int ((stepsOf us dn).getD (p + 1) 0), rfl, rfl, hs', atI_nat (by rw [List.getElem?_map, j1]; rfl),
          _, rfl, a, L.C, dx', _, _, rfl, hp', L.cl, L.nRnd, fl_rnd .., n, _, z, rfl, j2, by omega, fun H3 s3 => ?_⟩
        refine ⟨(by show 2 ≤ sizeLine; decide), fun r nr => ?_⟩
        refine q r _ (((s1.trans s2).trans s3).trans (same_upd nr)) ?_
        subst unf
        exact SqT.of upd_same
end
end My

namespace My
open PySem PySem.Spec PyProof.Rows L2
theorem pad_ok {d : Nat} (h : d ≤ 3) : PadOk ((d : Int) + 1) = true := by
  match d, h with
  | 0, _ => decide +kernel
  | 1, _ => decide +kernel
  | 2, _ => decide +kernel
  | 3, _ => decide +kernel
  | n + 4, h => omega
theorem small41 {n k : Nat} (h : n ≤ 41) (hk : k ≤ 50) : n + k ≤ sizeLine := Nat.le_trans (Nat.add_le_add h hk) (by decide)
theorem rnd_lo {n st : Int} {s : Str} (h0 : 0 ≤ n) (h1 : 0 < st) : 0 ≤ rnd n st s ∧ rnd n st s ≤ n + 1 := by
  unfold rnd
  have a := Int.ediv_nonneg h0 (Int.le_of_lt h1)
  have b := Int.ediv_le_self st h0
  split <;> omega
theorem placedM_ok {us : List (Str × Int)} {d : Nat} {s : Str} {c : Bool} {l n : Int} (g : Good us d s l) (h0 : 0 ≤ n) : (placedM us d s c l n).1 < us.length ∧ 0 ≤ (placedM us d s c l n).2 ∧ (placedM us d s c l n).2 ≤ n + 1 := by
  have hc1 := cnt_pos (us := us) (l := l) h0
  have hc2 := cnt_le (l := l) (n := n) g.u.lo
  have hpl : placeOf us l n < us.length := by unfold placeOf; omega
  unfold placedM
  split
  · rename_i e
    have hp1 := isCar_lt e
    obtain ⟨k1, k2, k3⟩ := steps_ok g hp1
    exact ⟨hp1, rnd_lo h0 k2⟩
  · obtain ⟨k1, k2, k3⟩ := steps_ok g hpl
    exact ⟨hpl, rnd_lo h0 k2⟩
/-- the figure of a number -/
def shown (us : List (Str × Int)) (d : Nat) (s : Str) (c : Bool) (l n : Int) : Str := writ us d (placedM us d s c l n).1 (placedM us d s c l n).2
def spShow (K : PySem.W.Frag) (C : Addr) : Sp := fun vs H Q _ => ∃ (a : Addr) (us : List (Str × Int)) (d : Nat) (s : Str) (c : Bool) (l n : Int), vs = [.ref a, .int n] ∧ LadAt K C H a us d s c l ∧ Good us d s l ∧ 0 ≤ n ∧ n ≤ 1000000000000000000 ∧
  ∀ H', Same H H' → Q (.str (shown us d s c l n)) H'
def spFig (K : PySem.W.Frag) (C : Addr) : Sp := fun vs H Q _ => ∃ (a : Addr) (us : List (Str × Int)) (d : Nat) (s : Str) (c : Bool) (l n : Int), vs = [.ref a, .int n] ∧ LadAt K C H a us d s c l ∧ Good us d s l ∧ 0 ≤ n ∧ n ≤ 1000000000000000000000000000000 ∧
  ∀ H', Same H H' → Q (.str (shown us d s c l n)) H'
section
variable {P : Program} {w : World} {K : PySem.W.Frag} {mg : Str → Option Value} {base : Heap}
theorem ok_written (d : Dd K mg "written" sWritten ["ladder", "place", "mark"]) (L : LadC K mg) (B : Bt mg) : FnOk P w K mg base CX0 2 d.f d.fd ["ladder", "place", "mark"] (spWritten K L.C) := by
  refine d.F.ok scWritten (fun vs H Q E h => ?_) (fun cdv A outer s H vs Q E hr h => ?_)
  · obtain ⟨_, _, _, _, _, _, _, _, rfl, _⟩ := h
    rfl
  · obtain ⟨a, us, dn, z, c, l, p, m, rfl, ⟨dx, ua, t, st, th, hp, ⟨ps, hua, hu⟩, ht, hs, hth⟩, g, hlt, hm, hm2, q⟩ := h
    have nd := scWritten.nd
    refine ⟨_, pss_cons (ps_set (i := 3) nd rfl (.inl rfl) (pe_ix ix_tup (pe_ix ix_tup (pe_fld (pv 0) rfl) (pv 1) (fun _ _ => rfl)) pe_int (fun _ _ => rfl)))
      (pss_cons (ps_set (i := 4) nd rfl (.inl rfl) (pe_callTy call_str_int (by rfl) B.str (by decide +kernel) (pa_cons (pv 2) pa_nil)))
      (pss_cons (ps_if (PW.pt (pw_or (pt_cmpR op_eq (pv 1) pe_int (nomark _)) (pw_or1 (pt_cmpR op_eq (pe_fld (pv 0) rfl) pe_int (nomark _))))) (pss_one (ps_ret (pe_op op_add_str (pv 4) (pv 3)))) pss_nil)
      (pss_cons (ps_set (i := 4) nd rfl (.inl rfl) (pe_bm PySem.F.plainAttrs_str PySem.F.slot_str_zfill PySem.F.type_str_zfill mt_zfill (pv 4) (pa_cons (pe_op op_add (pe_fld (pv 0) rfl) pe_int) pa_nil)))
      (pss_one (ps_ret (pe_op op_add_str (pe_op op_add_str (pe_op op_add_str (pe_slice sl_str (pv 4) po_none (po_some (pe_un un_neg (pe_fld (pv 0) rfl)))) pe_str) (pe_slice sl_str (pv 4) (po_some (pe_un un_neg (pe_fld (pv 0) rfl))) po_none)) (pv 3))))))), ?_⟩
    obtain ⟨u, hu2⟩ : ∃ u, us[p]? = some u := ⟨us[p], List.getElem?_eq_getElem hlt⟩
    obtain ⟨pu, hpu, hsu⟩ := paired_at hu hu2
    have eN : (us.getD p ("", 0)).1 = u.1 := by rw [List.getD_eq_getElem?_getD, hu2]; rfl
    have lN : u.1.length ≤ 3 := (g.u.each p u hu2).1.1
    have hm3 : m.natAbs < 10 ^ 40 := by omega
    have ld := dg_small hm3
    have hp1 := dg_pos hm
    have lds : (Str.ofString (toString m)).length = (dg m).length := str_len _
    unfold writ at q
    rw [eN] at q
    have hlog : m.natAbs.log2 < 1920 := Nat.lt_of_lt_of_le (PySem.Flt.log2_lt_of (k := 200) (by decide) (Nat.lt_trans hm3 (by decide))) (by decide)
    refine ⟨_, rfl, a, L.C, dx, _, _, rfl, hp, L.cl, L.nUnits, fl_units .., _, rfl, ua, _, p, .ref pu, rfl, rfl, hua, atI_nat (get_ref hpu), pu, _, 0, .str u.1, rfl, rfl, hsu, rfl, ?_⟩
    refine ⟨_, rfl, m, rfl, hlog, ?_⟩
    have add1 : (p = 0 ∨ dn = 0) → Q (.str (Str.ofString (toString m) ++ u.1)) H := fun e => by rw [if_pos e] at q; exact q
    refine ⟨_, rfl, rfl, _, rfl, ite2 (fun e => ?_) (fun e => ?_)⟩
    · have e0 : p = 0 := by have := V.int.inj (of_decide_eq_true e); omega
      refine iteT ?_
      exact ⟨_, rfl, _, rfl, _, _, rfl, rfl, by rw [lds]; exact small41 ld (Nat.le_trans lN (by decide)), add1 (.inl e0)⟩
    · have e0 : ¬ p = 0 := fun z => e (decide_eq_true (by rw [z]; rfl))
      refine ⟨_, rfl, a, L.C, dx, _, _, rfl, hp, L.cl, L.nDec, fl_dec .., rfl, _, rfl, ite2 (fun e1 => ?_) (fun e1 => ?_)⟩
      · have e2 : dn = 0 := by have := V.int.inj (of_decide_eq_true e1); omega
        exact ⟨_, rfl, _, rfl, _, _, rfl, rfl, by rw [lds]; exact small41 ld (Nat.le_trans lN (by decide)), add1 (.inr e2)⟩
      · have e2 : ¬ dn = 0 := fun z => e1 (decide_eq_true (by rw [z]; rfl))
        rw [if_neg (fun z => z.elim e0 e2)] at q
        have d3 := g.d3
        have ez : (Txt.zfill (Str.ofString (toString m)) ((dn : Int) + 1)).cps.toList = zf dn m := zfill_zf hm
        have lz : (Txt.zfill (Str.ofString (toString m)) ((dn : Int) + 1)).length ≤ 41 := by rw [str_len, ez, zf_len]; omega
        refine ⟨_, rfl, rfl, _, rfl, a, L.C, dx, _, _, rfl, hp, L.cl, L.nDec, fl_dec .., _, 1, rfl, rfl, _, _, rfl, rfl, pad_ok d3, ?_⟩
        generalize Txt.zfill (Str.ofString (toString m)) ((dn : Int) + 1) = zz at ez lz ⊢
        have c1 : (cutS zz none (some (-(dn : Int)))).cps.toList = (zf dn m).take ((zf dn m).length - dn) := by rw [cut_to (by omega), ez]
        have c2 : (cutS zz (some (-(dn : Int))) none).cps.toList = (zf dn m).drop ((zf dn m).length - dn) := by rw [cut_from (by omega), ez]
        have lzf : (zf dn m).length ≤ 41 := by rw [← ez, ← str_len]; exact lz
        have lc1 : (cutS zz none (some (-(dn : Int)))).length ≤ 41 := by rw [str_len, c1, List.length_take]; omega
        have lc2 : (cutS zz (some (-(dn : Int))) none).length ≤ 41 := by rw [str_len, c2, List.length_drop]; omega
        have fin : (cutS zz none (some (-(dn : Int))) ++ ("." : Str) ++ cutS zz (some (-(dn : Int))) none) = (⟨(body dn m).toArray⟩ : Str) := by
          refine str_ext ?_
          rw [str_app, str_app, c1, c2, List.append_assoc]
          rfl
        have lp : (cutS zz none (some (-(dn : Int))) ++ ("." : Str)).length ≤ 42 := by
          rw [str_len, str_app, List.length_append, ← str_len]
          exact Nat.add_le_add lc1 (Nat.le_refl 1)
        refine ⟨_, rfl, _, rfl, a, L.C, dx, _, _, rfl, hp, L.cl, L.nDec, fl_dec .., dn, rfl, -(dn : Int), rfl, zz, rfl, Nat.le_trans lz (by decide), _, ".", rfl, rfl, Nat.le_trans (Nat.add_le_add lc1 (Nat.le_refl 1)) (by decide), ?_⟩
        refine ⟨_, rfl, _, rfl, a, L.C, dx, _, _, rfl, hp, L.cl, L.nDec, fl_dec .., dn, rfl, -(dn : Int), rfl, zz, rfl, Nat.le_trans lz (by decide), _, _, rfl, rfl, Nat.le_trans (Nat.add_le_add lp lc2) (by decide), _, rfl, _, u.1, rfl, rfl, ?_, ?_⟩
        · rw [fin, str_len]
          show (body dn m).length + u.1.length ≤ sizeLine
          have lb : (body dn m).length ≤ 42 := by
            unfold body
            rw [List.length_append, List.length_take, List.length_cons, List.length_drop]
            omega
          exact Nat.le_trans (Nat.add_le_add lb lN) (by decide)
        · show Q (.str ((cutS zz none (some (-(dn : Int))) ++ ("." : Str) ++ cutS zz (some (-(dn : Int))) none) ++ u.1)) H
          rw [fin]
          exact q
theorem ok_figof (d : Dd K mg "figure_of" sFigOf ["ladder", "number"]) (dP : Dd K mg "placed" sPlaced ["ladder", "number"])
    (dR : Dd K mg "rounded" sRounded ["number", "step", "rounding"]) (dG : Dd K mg "goes_up" sGoes ["below", "rest", "step", "rounding"]) (dC : Dd K mg "is_carried" sCar ["ladder", "place", "mark"]) (dT : Dd K mg "written" sWritten ["ladder", "place", "mark"])
    (L : LadC K mg) (B : Bt mg) : FnOk P w K mg base CX0 5 d.f d.fd ["ladder", "number"] (spFig K L.C) := by
  have GP : FnOk P w K mg base CX0 4 dP.f dP.fd ["ladder", "number"] (spPlaced K L.C) := ok_placed dP dR dG dC L B
  have GT : FnOk P w K mg base CX0 2 dT.f dT.fd ["ladder", "place", "mark"] (spWritten K L.C) := ok_written dT L B
  refine d.F.ok scFigOf (fun vs H Q E h => ?_) (fun cdv A outer s H vs Q E hr h => ?_)
  · obtain ⟨_, _, _, _, _, _, _, rfl, _⟩ := h
    rfl
  · obtain ⟨a, us, dn, z, c, l, n, rfl, hL, g, h0, h1, q⟩ := h
    have hr1 : Room 2 _ := hr.mono (by decide)
    have nd := scFigOf.nd
    refine ⟨_, pss_cons (ps_asg (pe_call GP hr (by rfl) dP.g dP.F.kp dP.b .nil pass0 (pa_cons (pv 0) (pa_cons (pv 1) pa_nil))) (pg_tup rfl (pgs_cons (pg_name (i := 2) nd rfl (.inl rfl)) (pgs_cons (pg_name (i := 3) nd rfl (.inl rfl)) pgs_nil))))
      (pss_one (ps_ret (pe_call GT hr1 (by rfl) dT.g dT.F.kp dT.b .nil pass0 (pa_cons (pv 0) (pa_cons (pv 2) (pa_cons (pv 3) pa_nil)))))), ?_⟩
    obtain ⟨k1, k2, k3⟩ := placedM_ok (c := c) g h0
    refine ⟨_, rfl, _, rfl, a, us, dn, z, c, l, n, rfl, hL, g, h0, fun r H1 s1 hr' => ?_⟩
    refine ⟨r, _, rfl, hr', rfl, _, _, rfl, _, _, rfl, rfl, ?_⟩
    exact ⟨_, rfl, _, rfl, _, rfl, a, us, dn, z, c, l, _, _, rfl, hL.same s1, g, k1, k2, by omega, q H1 s1⟩
theorem ok_show (d : Dd K mg "show" sShow ["ladder", "number"]) (dF : Dd K mg "figure_of" sFigOf ["ladder", "number"]) (dL : Dd K mg "check_ladder" sCLad ["ladder"]) (dN : Dd K mg "check_number" sCNum ["number"]) (dW : DdW K mg) (dP : Dd K mg "placed" sPlaced ["ladder", "number"])
    (dR : Dd K mg "rounded" sRounded ["number", "step", "rounding"]) (dG : Dd K mg "goes_up" sGoes ["below", "rest", "step", "rounding"]) (dC : Dd K mg "is_carried" sCar ["ladder", "place", "mark"]) (dT : Dd K mg "written" sWritten ["ladder", "place", "mark"])
    (L : LadC K mg) (I : LadI K L.C) (B : Bt mg) (G : Gc K mg) : FnOk P w K mg base CX0 6 d.f d.fd ["ladder", "number"] (spShow K L.C) := by
  have GL : FnOk P w K mg base CX0 2 dL.f dL.fd ["ladder"] (spCLad K L.C) := ok_clad dL L I B
  have GN : FnOk P w K mg base CX0 3 dN.f dN.fd ["number"] spCNum := ok_cnum dN dW B G
  have GF : FnOk P w K mg base CX0 5 dF.f dF.fd ["ladder", "number"] (spFig K L.C) := ok_figof dF dP dR dG dC dT L B
  refine d.F.ok scShow (fun vs H Q E h => ?_) (fun cdv A outer s H vs Q E hr h => ?_)
  · obtain ⟨_, _, _, _, _, _, _, rfl, _⟩ := h
    rfl
  · obtain ⟨a, us, dn, z, c, l, n, rfl, hL, g, h0, h1, q⟩ := h
    have hr1 : Room 2 _ := hr.mono (by decide)
    have hr2 : Room 3 _ := hr.mono (by decide)
    refine ⟨_, pss_cons (ps_expr (pe_call GL hr1 (by rfl) dL.g dL.F.kp dL.b .nil pass0 (pa_cons (pv 0) pa_nil)))
      (pss_cons (ps_expr (pe_call GN hr2 (by rfl) dN.g dN.F.kp dN.b .nil pass0 (pa_cons (pv 1) pa_nil)))
      (pss_one (ps_ret (pe_call GF hr (by rfl) dF.g dF.F.kp dF.b .nil pass0 (pa_cons (pv 0) (pa_cons (pv 1) pa_nil)))))), ?_⟩
    refine ⟨_, rfl, a, us, dn, z, c, l, rfl, hL, _, rfl, n, rfl, h0, h1, ?_⟩
    exact ⟨_, rfl, _, rfl, a, us, dn, z, c, l, n, rfl, hL, g, h0, by omega, q⟩
end
end My

namespace My
open PySem PySem.Spec PyProof.Rows L2
def nms : List Str := ["", "K", "M", "g", "Tx", "abc"]
def nm6 (j : Nat) : Str := nms.getD (j % 6) ""
theorem nm6_good (j : Nat) : GoodN (nm6 j) := by
  have h : ∀ k, k < 6 → GoodN (nms.getD k "") := by
    intro k hk
    match k, hk with
    | 0, _ => exact ⟨by decide +kernel, by decide +kernel, by decide +kernel, by decide +kernel⟩
    | 1, _ => exact ⟨by decide +kernel, by decide +kernel, by decide +kernel, by decide +kernel⟩
    | 2, _ => exact ⟨by decide +kernel, by decide +kernel, by decide +kernel, by decide +kernel⟩
    | 3, _ => exact ⟨by decide +kernel, by decide +kernel, by decide +kernel, by decide +kernel⟩
    | 4, _ => exact ⟨by decide +kernel, by decide +kernel, by decide +kernel, by decide +kernel⟩
    | 5, _ => exact ⟨by decide +kernel, by decide +kernel, by decide +kernel, by decide +kernel⟩
    | n + 6, h => omega
  exact h _ (Nat.mod_lt _ (by decide))
theorem nms_inj : ∀ x, x < 6 → ∀ y, y < 6 → nms.getD x "" = nms.getD y "" → x = y := by decide +kernel
theorem nm6_inj {a b : Nat} (h : nm6 a = nm6 b) : a % 6 = b % 6 := nms_inj _ (Nat.mod_lt _ (by decide)) _ (Nat.mod_lt _ (by decide)) h
/-- good units, or none -/
structure GU (us : List (Str × Int)) : Prop where
  hi : us.length ≤ 6
  each : ∀ i u, us[i]? = some u → GoodN u.1 ∧ 1 ≤ u.2 ∧ u.2 ≤ 1000000000000000000 ∧ Fit (us.take i) u
theorem GU.good {us : List (Str × Int)} (g : GU us) (h : 1 ≤ us.length) : GoodUs us := ⟨h, g.hi, g.each⟩
theorem GU.nil : GU [] := ⟨by decide, fun i u h => by simp at h⟩
theorem GU.snoc {us : List (Str × Int)} {u : Str × Int} (g : GU us) (hl : us.length < 6) (h1 : GoodN u.1) (h2 : 1 ≤ u.2) (h3 : u.2 ≤ 1000000000000000000) (h4 : Fit us u) : GU (us ++ [u]) := by
  refine ⟨by rw [List.length_append]; show us.length + 1 ≤ 6; omega, fun i v hv => ?_⟩
  rcases Nat.lt_or_ge i us.length with hi | hi
  · rw [List.getElem?_append_left hi] at hv
    rw [List.take_append_of_le_length (Nat.le_of_lt hi)]
    exact g.each i v hv
  · rw [List.getElem?_append_right hi] at hv
    have e : i - us.length = 0 := by
      have := (List.getElem?_eq_some_iff.mp hv).1
      simp at this
      omega
    rw [e] at hv
    have ev : u = v := Option.some.inj hv
    subst ev
    have ei : i = us.length := by omega
    subst ei
    rw [List.take_left]
    exact ⟨h1, h2, h3, h4⟩
theorem GU.take {us : List (Str × Int)} (g : GU us) (k : Nat) : GU (us.take k) := by
  refine ⟨Nat.le_trans (by rw [List.length_take]; omega) g.hi, fun i u hu => ?_⟩
  rw [List.getElem?_take] at hu
  split at hu
  · rename_i hik
    rw [List.take_take, Nat.min_eq_left (Nat.le_of_lt hik)]
    exact g.each i u hu
  · cases hu
/-- what the next size may be -/
def Next (us : List (Str × Int)) (z : Int) : Prop := (us = [] ∧ z = 1) ∨ ∃ l, us[us.length - 1]? = some l ∧ us ≠ [] ∧ 0 < l.2 ∧ l.2 < z ∧ z % l.2 = 0 ∧ z % 2 = 0 ∧ z ≤ 120000 * 21 ^ (us.length - 1)
theorem pow21 {n : Nat} (h : n ≤ 5) : (120000 * 21 ^ n : Int) ≤ 490092120000 := by
  match n, h with
  | 0, _ => decide
  | 1, _ => decide
  | 2, _ => decide
  | 3, _ => decide
  | 4, _ => decide
  | 5, _ => decide
  | n + 6, h => omega
theorem Next.fit {us : List (Str × Int)} {z : Int} {n : Str} (h : Next us z) (hn : ∀ v ∈ us, v.1 ≠ n) : Fit us (n, z) := by
  rcases h with ⟨h1, h2⟩ | ⟨l, h1, h2, h3, h4, h5, _⟩
  · exact .inl ⟨h1, h2⟩
  · exact .inr ⟨l, h1, h2, h3, h4, h5, hn⟩
theorem Next.size {us : List (Str × Int)} {z : Int} (h : Next us z) (hl : us.length ≤ 6) : 1 ≤ z ∧ z ≤ 490092120000 := by
  rcases h with ⟨h1, h2⟩ | ⟨l, h1, h2, h3, h4, h5, _, h6⟩
  · omega
  · have := pow21 (n := us.length - 1) (by omega)
    omega
theorem last_snoc {us : List (Str × Int)} {u : Str × Int} : (us ++ [u])[(us ++ [u]).length - 1]? = some u := by
  rw [List.length_append]
  show (us ++ [u])[us.length + 1 - 1]? = _
  rw [Nat.add_sub_cancel, List.getElem?_append_right (Nat.le_refl _), Nat.sub_self]
  rfl
theorem Next.first {part r : Int} {n : Str} (hp : 2 ≤ part) (hp2 : part ≤ 2000) (he : part % 2 = 0) (h0 : 0 ≤ r) (h1 : r < 60) : Next [(n, 1)] (part * (1 + r)) := by
  have a1 : part * 1 ≤ part * (1 + r) := Int.mul_le_mul_of_nonneg_left (by omega) (by omega)
  have a2 : part * (1 + r) ≤ 2000 * (1 + r) := Int.mul_le_mul_of_nonneg_right hp2 (by omega)
  refine .inr ⟨(n, 1), rfl, by simp, (by show (0 : Int) < 1; decide), ?_, Int.emod_one _, ?_, ?_⟩
  · show (1 : Int) < part * (1 + r)
    omega
  · rw [Int.mul_emod, he, Int.zero_mul]
    rfl
  · show part * (1 + r) ≤ 120000 * 21 ^ 0
    omega
theorem Next.more {us : List (Str × Int)} {z r : Int} {n : Str} (h : Next us z) (hne : us ≠ []) (h0 : 0 ≤ r) (h1 : r < 20) : Next (us ++ [(n, z)]) (z * (2 + r)) := by
  rcases h with ⟨h2, _⟩ | ⟨l, _, _, h3, h4, h5, h6, h7⟩
  · exact absurd h2 hne
  · have hz : 0 < z := by omega
    have a1 : z * 2 ≤ z * (2 + r) := Int.mul_le_mul_of_nonneg_left (by omega) (by omega)
    have a2 : z * (2 + r) ≤ z * 21 := Int.mul_le_mul_of_nonneg_left (by omega) (by omega)
    refine .inr ⟨(n, z), last_snoc, by simp, hz, ?_, Int.mul_emod_right _ _, ?_, ?_⟩
    · show z < z * (2 + r)
      omega
    · rw [Int.mul_emod, h6, Int.zero_mul]
      rfl
    · have hl : 1 ≤ us.length := List.length_pos_iff.mpr hne
      have e : (us ++ [(n, z)]).length - 1 = (us.length - 1) + 1 := by rw [List.length_append]; show us.length + 1 - 1 = _; omega
      rw [e, Int.pow_succ]
      have a3 : z * 21 ≤ (120000 * 21 ^ (us.length - 1)) * 21 := Int.mul_le_mul_of_nonneg_right h7 (by decide)
      rw [Int.mul_assoc] at a3
      omega
/-- thousands -/
def thou : List (Str × Int) := [("", 1), ("K", 1000), ("M", 1000000), ("G", 1000000000), ("T", 1000000000000)]
theorem gn_of {z : Str} (h1 : z.length ≤ 3) (h2 : Txt.stripChars z letters = "" ∧ PyData.strOk z = true ∧ z.cps.toList.all (letters.cps.contains ·) = true) : GoodN z := ⟨h1, h2⟩
theorem thou_gu : GU thou := by
  have g1 : GU [("", 1)] := GU.nil.snoc (u := ("", 1)) (by decide) (gn_of (by decide +kernel) (by decide +kernel)) (by decide) (by decide) (.inl ⟨rfl, rfl⟩)
  have g2 : GU [("", 1), ("K", 1000)] := g1.snoc (u := ("K", 1000)) (by decide) (gn_of (by decide +kernel) (by decide +kernel)) (by decide) (by decide) (.inr ⟨("", 1), rfl, by simp, by decide, by decide, by decide, by decide +kernel⟩)
  have g3 : GU [("", 1), ("K", 1000), ("M", 1000000)] := g2.snoc (u := ("M", 1000000)) (by decide) (gn_of (by decide +kernel) (by decide +kernel)) (by decide) (by decide) (.inr ⟨("K", 1000), rfl, by simp, by decide, by decide, by decide, by decide +kernel⟩)
  have g4 : GU [("", 1), ("K", 1000), ("M", 1000000), ("G", 1000000000)] := g3.snoc (u := ("G", 1000000000)) (by decide) (gn_of (by decide +kernel) (by decide +kernel)) (by decide) (by decide) (.inr ⟨("M", 1000000), rfl, by simp, by decide, by decide, by decide, by decide +kernel⟩)
  exact g4.snoc (u := ("T", 1000000000000)) (by decide) (gn_of (by decide +kernel) (by decide +kernel)) (by decide) (by decide) (.inr ⟨("G", 1000000000), rfl, by simp, by decide, by decide, by decide, by decide +kernel⟩)
theorem thou_even (k : Nat) : ∀ u ∈ (thou.take k).drop 1, u.2 % 2 = 0 := by
  intro u hu
  have h1 : u ∈ thou.drop 1 := by
    rw [List.drop_take] at hu
    exact List.mem_of_mem_take hu
  unfold thou at h1
  simp only [List.drop_succ_cons, List.drop_zero, List.mem_cons, List.not_mem_nil, or_false] at h1
  rcases h1 with rfl | rfl | rfl | rfl <;> decide
def nms8 : List Str := ["", "K", "M", "g", "Tx", "abc", "G", "T"]
/-- no name is "one" (each is one of a few), and no size is great -/
def NoOne (us : List (Str × Int)) : Prop := ∀ u ∈ us, (u.1 ≠ "one" ∧ u.1 ∈ nms8) ∧ u.2 ≤ 1000000000000
theorem nm6_noone (j : Nat) : nm6 j ≠ "one" ∧ nm6 j ∈ nms8 := by
  have h : ∀ k, k < 6 → nms.getD k "" ≠ "one" ∧ nms.getD k "" ∈ nms8 := by decide +kernel
  exact h _ (Nat.mod_lt _ (by decide))
theorem thou_noone : NoOne thou := by
  intro u hu
  unfold thou at hu
  simp only [List.mem_cons, List.not_mem_nil, or_false] at hu
  rcases hu with rfl | rfl | rfl | rfl | rfl <;> decide +kernel
theorem thou_noone' (k : Nat) : NoOne (thou.take k) := fun u hu => thou_noone u (List.mem_of_mem_take hu)
end My

namespace My
open PySem PySem.Spec PyProof.Rows L2
abbrev nUnits : List Str := ["_law_spring_here", "_law_part", "_law_small", "_law_names", "_law_found", "_law_size_here", "_law_shift", "_law_k", "_law_first", "_law_unit"]
def spUnits (K : PySem.W.Frag) : Sp := fun vs H Q _ => ∃ (a : Addr) (part : Int) (small : Bool), vs = [.ref a, .int part, .bl small] ∧ Spr H a ∧ 2 ≤ part ∧ part ≤ 2000 ∧ part % 2 = 0 ∧
  ∀ (r : Addr) (us : List (Str × Int)) (H' : Hp), But a H H' → Spr H' a → UA K H' r us → GoodUs us → (∀ u ∈ us.drop 1, u.2 % 2 = 0) → NoOne us → Q (.ref r) H'
theorem Spr.nt {H : Hp} {a : Addr} (h : Spr H a) : ∃ o, H a = some o ∧ notTup o = true := by
  obtain ⟨x, y, z, e⟩ := h
  exact ⟨_, e, rfl⟩
theorem But.sqtS {K : PySem.W.Frag} {a t : Addr} {xs : List V} {H H' : Hp} (hp : Spr H a) (b : But a H H') (h : SqT K H t xs) : SqT K H' t xs := by
  obtain ⟨o, e, n⟩ := hp.nt
  exact b.sqt e n h
theorem UA.butS {K : PySem.W.Frag} {a t : Addr} {us : List (Str × Int)} {H H' : Hp} (hp : Spr H a) (b : But a H H') (h : UA K H t us) : UA K H' t us := by
  obtain ⟨o, e, n⟩ := hp.nt
  exact h.but e n b
theorem UP.butS {K : PySem.W.Frag} {a : Addr} {ps : List Addr} {us : List (Str × Int)} {H H' : Hp} (hp : Spr H a) (b : But a H H') (h : UP K H ps us) : UP K H' ps us := paired_imp (fun _ _ => b.sqtS hp) h
theorem PE.imp {X : Cx} {e : Expr} {t t' : TE} (h : PE X e t) (i : ∀ σ H Q, t' σ H Q → t σ H Q) : PE X e t' := ⟨fun pins s σ H Q I q => h.1 pins s σ H Q I (i σ H Q q)⟩
/-- x if c else y, two written numbers: one of them -/
def tEither (ta : TE) (x y : Int) : TE := fun σ H Q => ta σ H fun v H1 => (∃ b, v = .bl b) ∧ ∀ m, m = x ∨ m = y → Q (.int m) H1
def mono (t : TE) : Prop := ∀ σ H (Q Q' : VK), (∀ v H1, Q v H1 → Q' v H1) → t σ H Q → t σ H Q'
theorem mono_var (i : Nat) : mono (tVar i) := fun σ H Q Q' h ⟨v, e, q⟩ => ⟨v, e, h _ _ q⟩
theorem pe_either {X : Cx} {c : Expr} {ta : TE} {x y : Int} {j1 j2 : Nat} {p1 p2 pos : Pos} (hc : PT X c (tB ta)) (m : mono ta) : PE X (.IfExp c (.Constant (.int x) j1 p1) (.Constant (.int y) j2 p2) pos) (tEither ta x y) := by
  refine PE.imp (pe_ifExp hc pe_int pe_int) fun σ H Q h => ?_
  refine m σ H _ _ (fun v H1 h1 => ?_) h
  obtain ⟨⟨b, rfl⟩, h2⟩ := h1
  refine ⟨b, rfl, ?_⟩
  cases b with
  | true => exact h2 x (.inl rfl)
  | false => exact h2 y (.inr rfl)
section
variable {P : Program} {w : World} {K : PySem.W.Frag} {mg : Str → Option Value} {base : Heap}
end
end My

namespace My
open PySem PySem.Spec PyProof.Rows L2
abbrev nTold : List Str := ["_law_spring_here", "_law_small", "_law_power", "_law_part", "_law_units_here", "_law_sort", "_law_name", "_law_size_here"]
/-- what a ladder is made of stands at r -/
def ToldAt (K : PySem.W.Frag) (H : Hp) (r : Addr) (us : List (Str × Int)) (d : Nat) (s : Str) (c : Bool) (l : Int) : Prop := ∃ ua, SqT K H r [.ref ua, .int (d : Int), .str s, .bl c, .int l] ∧ UA K H ua us
theorem ToldAt.same {K : PySem.W.Frag} {H H' : Hp} {r : Addr} {us : List (Str × Int)} {d : Nat} {s : Str} {c : Bool} {l : Int} (k : Same H H') (h : ToldAt K H r us d s c l) : ToldAt K H' r us d s c l := by
  obtain ⟨ua, h1, h2⟩ := h
  exact ⟨ua, same_sqt k h1, h2.same k⟩
theorem ToldAt.but {K : PySem.W.Frag} {H H' : Hp} {a r : Addr} {us : List (Str × Int)} {d : Nat} {s : Str} {c : Bool} {l : Int} (hp : Spr H a) (k : But a H H') (h : ToldAt K H r us d s c l) : ToldAt K H' r us d s c l := by
  obtain ⟨ua, h1, h2⟩ := h
  exact ⟨ua, k.sqtS hp h1, UA.butS hp k h2⟩
def spTold (K : PySem.W.Frag) : Sp := fun vs H Q _ => ∃ (a : Addr) (small : Bool), vs = [.ref a, .bl small] ∧ Spr H a ∧
  ∀ (r : Addr) (us : List (Str × Int)) (d : Nat) (s : Str) (c : Bool) (l : Int) (H' : Hp), But a H H' → Spr H' a → ToldAt K H' r us d s c l → Good us d s l → NoOne us → l ≤ 100 → Q (.ref r) H'
def spMade (K : PySem.W.Frag) (C : Addr) : Sp := fun vs H Q _ => ∃ (r : Addr) (us : List (Str × Int)) (d : Nat) (s : Str) (c : Bool) (l : Int), vs = [.ref r] ∧ ToldAt K H r us d s c l ∧ Good us d s l ∧
  ∀ (p : Addr) (H' : Hp), Same H H' → LadAt K C H' p us d s c l → Q (.ref p) H'
/-- Ladder(.., carry = .., least = ..) -/
theorem kb_linit {K : PySem.W.Frag} {mg : Str → Option Value} (L : LadC K mg) : KBn K L.fd ["self", "units", "decimals", "rounding", "carry", "least"] 4 ["carry", "least"] (fun us ws => us ++ ws) (fun us ws => us ++ ws) := by
  obtain ⟨oc, od, kV, doc, pm, an, cdv, ct, osl, e, _⟩ := L.F.ex
  rw [e]
  refine ⟨fun s us ws _ h1 h2 => ?_, fun h1 h2 => h1.append h2⟩
  match us, ws, h1, h2 with
  | [_, _, _, _], [_, _], _, _ => exact .of_eq rfl
section
variable {P : Program} {w : World} {K : PySem.W.Frag} {mg : Str → Option Value} {base : Heap}
end
end My

namespace My
open PySem PySem.Spec PyProof.Rows L2
abbrev nMade : List Str := ["_law_told_here", "_law_a", "_law_b", "_law_c", "_law_d", "_law_e"]
section
variable {P : Program} {w : World} {K : PySem.W.Frag} {mg : Str → Option Value} {base : Heap}
end
end My

namespace My
open PySem PySem.Spec PyProof.Rows L2
/-! ### thresholds ascend -/
def szOf (us : List (Str × Int)) (i : Nat) : Int := (us.getD i ("", 0)).2
theorem szOf_at {us : List (Str × Int)} {i : Nat} {u : Str × Int} (h : us[i]? = some u) : szOf us i = u.2 := by
  unfold szOf
  rw [List.getD_eq_getElem?_getD, h]
  rfl
theorem sz_up {us : List (Str × Int)} (g : GoodUs us) {i : Nat} (h : i + 1 < us.length) : szOf us i < szOf us (i + 1) := by
  have h1 : us[i + 1]? = some us[i + 1] := List.getElem?_eq_getElem h
  have h0 : us[i]? = some us[i] := List.getElem?_eq_getElem (by omega)
  obtain ⟨_, _, _, hf⟩ := g.each (i + 1) _ h1
  rw [szOf_at h1, szOf_at h0]
  have el : (us.take (i + 1)).length = i + 1 := by rw [List.length_take]; omega
  rcases hf with ⟨e, _⟩ | ⟨l, hl, _, _, h3, _⟩
  · rw [e] at el
    cases el
  · rw [el, Nat.add_sub_cancel, List.getElem?_take] at hl
    rw [if_pos (Nat.lt_succ_self i), h0] at hl
    rw [Option.some.inj hl]
    exact h3
theorem thr_at {us : List (Str × Int)} {l : Int} {k : Nat} (h1 : 1 ≤ k) (h2 : k < us.length) : (thrsOf us l)[k]? = some (szOf us k * l) := by
  obtain ⟨j, rfl⟩ : ∃ j, k = j + 1 := ⟨k - 1, by omega⟩
  have h : us[j + 1]? = some us[j + 1] := List.getElem?_eq_getElem h2
  unfold thrsOf
  rw [List.getElem?_cons_succ, List.getElem?_map, List.getElem?_drop, Nat.add_comm 1 j, h, szOf_at h]
  rfl
theorem step_at {us : List (Str × Int)} {d k : Nat} (h1 : 1 ≤ k) (h2 : k < us.length) : (stepsOf us d).getD k 0 = szOf us k / 10 ^ d := by
  obtain ⟨j, rfl⟩ : ∃ j, k = j + 1 := ⟨k - 1, by omega⟩
  have h : us[j + 1]? = some us[j + 1] := List.getElem?_eq_getElem h2
  unfold stepsOf
  rw [List.getD_eq_getElem?_getD, List.getElem?_cons_succ, List.getElem?_map, List.getElem?_drop, Nat.add_comm 1 j, h, szOf_at h]
  rfl
theorem sz_mono {us : List (Str × Int)} (g : GoodUs us) : ∀ {j i : Nat}, i ≤ j → j < us.length → szOf us i ≤ szOf us j := by
  intro j
  induction j with
  | zero => intro i h _; rw [show i = 0 by omega]; exact Int.le_refl _
  | succ j ih =>
    intro i h hj
    rcases Nat.lt_or_ge i (j + 1) with z | z
    · have := ih (i := i) (by omega) (by omega)
      have := sz_up g hj
      omega
    · rw [show i = j + 1 by omega]
      exact Int.le_refl _
theorem thr_sorted {us : List (Str × Int)} {l : Int} (g : GoodUs us) (hl : 1 ≤ l) : (thrsOf us l).Pairwise (· ≤ ·) := by
  rw [List.pairwise_iff_getElem]
  intro i j hi hj hij
  have elen := len_thrs us l g.lo
  have hj' : (thrsOf us l)[j]? = some (szOf us j * l) := thr_at (by omega) (by omega)
  have ej : (thrsOf us l)[j] = szOf us j * l := by
    have := List.getElem?_eq_getElem hj
    rw [hj'] at this
    exact (Option.some.inj this).symm
  have pj : 1 ≤ szOf us j := by
    have h : us[j]? = some us[j] := List.getElem?_eq_getElem (by omega)
    rw [szOf_at h]
    exact (g.each j _ h).2.1
  show (thrsOf us l)[i] ≤ (thrsOf us l)[j]
  rw [ej]
  cases i with
  | zero =>
    show (0 : Int) ≤ szOf us j * l
    exact Int.mul_nonneg (by omega) (by omega)
  | succ i =>
    have hi' : (thrsOf us l)[i + 1]? = some (szOf us (i + 1) * l) := thr_at (by omega) (by omega)
    have ei : (thrsOf us l)[i + 1] = szOf us (i + 1) * l := by
      have := List.getElem?_eq_getElem hi
      rw [hi'] at this
      exact (Option.some.inj this).symm
    rw [ei]
    exact Int.mul_le_mul_of_nonneg_right (sz_mono g (by omega) (by omega)) (by omega)
theorem asc_cnt {n : Int} : ∀ {T : List Int}, T.Pairwise (· ≤ ·) → ∀ {k : Nat} {t : Int}, T[k]? = some t → (t ≤ n ↔ k < (T.filter fun x => decide (x ≤ n)).length)
  | [], _, k, t, h => by simp at h
  | x :: r, hp, k, t, h => by
    rw [List.pairwise_cons] at hp
    by_cases hx : x ≤ n
    · rw [List.filter_cons, if_pos (decide_eq_true hx), List.length_cons]
      cases k with
      | zero =>
        have e : x = t := Option.some.inj h
        subst e
        exact ⟨fun _ => Nat.succ_pos _, fun _ => hx⟩
      | succ k =>
        have ih := asc_cnt (n := n) hp.2 (k := k) (t := t) h
        rw [ih]
        omega
    · rw [List.filter_cons, if_neg (fun z => hx (of_decide_eq_true z))]
      have hall : ∀ y ∈ r, ¬ y ≤ n := fun y hy z => hx (Int.le_trans (hp.1 y hy) z)
      have e0 : (r.filter fun x => decide (x ≤ n)) = [] := List.filter_eq_nil_iff.mpr fun y hy z => hall y hy (of_decide_eq_true z)
      rw [e0]
      refine ⟨fun z => ?_, fun z => absurd z (Nat.not_lt_zero _)⟩
      cases k with
      | zero =>
        have e : x = t := Option.some.inj h
        subst e
        exact absurd z hx
      | succ k => exact absurd z (hall t (List.mem_of_getElem? h))
/-- a place is reached exactly up to the last one -/
theorem reached {us : List (Str × Int)} {l n : Int} (g : GoodUs us) (hl : 1 ≤ l) (h0 : 0 ≤ n) {k : Nat} (hk : k < us.length) : (k = 0 ∨ szOf us k * l ≤ n) ↔ k ≤ placeOf us l n := by
  have hc := cnt_pos (us := us) (l := l) h0
  unfold placeOf
  rcases Nat.eq_zero_or_pos k with z | z
  · subst z
    exact ⟨fun _ => Nat.zero_le _, fun _ => .inl rfl⟩
  · have h := asc_cnt (n := n) (thr_sorted (l := l) g hl) (thr_at (l := l) z hk)
    show _ ↔ k ≤ cntOf us l n - 1
    have e : (k < ((thrsOf us l).filter fun x => decide (x ≤ n)).length) = (k < cntOf us l n) := rfl
    rw [e] at h
    constructor
    · intro y
      rcases y with y | y
      · omega
      · have := h.mp y
        omega
    · intro y
      exact .inr (h.mpr (by omega))
theorem rnd_one (n : Int) (s : Str) : rnd n 1 s = n := by
  unfold rnd goesUp
  have e1 : n / 1 = n := Int.ediv_one n
  have e2 : n % 1 = 0 := Int.emod_one n
  rw [e1, e2]
  have e : (if s = "up" then decide ((0 : Int) < 0) else if s = "near" then decide ((1 : Int) ≤ 2 * 0) else if s = "even" then decide ((1 : Int) < 2 * 0) || (decide ((2 : Int) * 0 = 1) && decide (n % 2 = 1)) else false) = false := by
    split
    · rfl
    · split
      · rfl
      · split
        · rfl
        · rfl
  rw [e]
  rfl
theorem placed_zero {us : List (Str × Int)} {d : Nat} {s : Str} {c : Bool} {l n : Int} (g : Good us d s l) (h0 : 0 ≤ n) (h : placeOf us l n = 0) : placedM us d s c l n = (0, n) := by
  unfold placedM
  rw [h]
  have e1 : (stepsOf us d).getD 0 0 = 1 := rfl
  rw [e1, rnd_one]
  have e2 : isCar us d c l 0 n = false := by
    unfold isCar
    rcases Nat.lt_or_ge 1 us.length with z | z
    · have t1 := thr_at (l := l) (Nat.le_refl 1) z
      have e3 : (thrsOf us l).getD (0 + 1) 0 = szOf us 1 * l := by rw [List.getD_eq_getElem?_getD, t1]; rfl
      have hr := reached (n := n) g.u g.l1 h0 z
      have hn : ¬ szOf us 1 * l ≤ n := fun y => by
        have := hr.mp (.inr y)
        omega
      rw [e3, e1, Int.mul_one, decide_eq_false hn, Bool.and_false, Bool.and_false]
    · rw [decide_eq_false (show ¬ 0 + 1 < us.length by omega), Bool.false_and, Bool.and_false]
  rw [e2, if_neg Bool.false_ne_true]
end My

namespace My
open PySem PySem.Spec PyProof.Rows L2
theorem op_mul_str {X : Cx} : OpR X (binaryOp .Mult) (fun x y H Q => ∃ z n, x = .str z ∧ y = .int n ∧ MulOk z n ∧ Q (.str (Txt.mul z n)) H) := by
  intro pins s σ H x y v u Q I rx ry h
  obtain ⟨z, n, rfl, rfl, ok, q⟩ := h
  obtain ⟨t, rfl⟩ := rx
  obtain ⟨t', rfl⟩ := ry
  exact SB.mul ok (fun t' tk => ⟨.str (Txt.mul z n), H, I.tok _, ⟨_, rfl⟩, q⟩)
theorem mul_ok {n : Int} (h1 : -1000 ≤ n) (h2 : n ≤ 4) : MulOk ("0" : Str) n := by
  refine ⟨?_, fun h3 h4 => ?_, fun h3 h4 => ?_⟩
  · rw [decide_eq_false (by omega), decide_eq_false (by omega)]
    rfl
  · have : n = 1 ∨ n = 2 ∨ n = 3 ∨ n = 4 := by omega
    rcases this with rfl | rfl | rfl | rfl <;> decide
  · have : n = 1 ∨ n = 2 ∨ n = 3 ∨ n = 4 := by omega
    rcases this with rfl | rfl | rfl | rfl <;> decide +kernel
abbrev nLRnd : List Str := ["_law_sort", "_law_top_here", "_law_step", "_law_mark", "_law_left"]
abbrev nLParts : List Str := ["_law_told_here", "_law_top_here", "_law_units_here", "_law_power", "_law_sort", "_law_goes_over", "_law_much", "_law_tens", "_law_at", "_law_mark", "_law_k"]
def spLRnd : Sp := fun vs H Q _ => ∃ (n st : Int) (s : Str), vs = [.str s, .int n, .int st] ∧ 0 < st ∧ st.natAbs < 2 ^ 64 ∧ ∀ H', Same H H' → Q (.int (rnd n st s)) H'
def spLParts (K : PySem.W.Frag) : Sp := fun vs H Q _ => ∃ (r : Addr) (us : List (Str × Int)) (d : Nat) (s : Str) (c : Bool) (l n : Int), vs = [.ref r, .int n] ∧ ToldAt K H r us d s c l ∧ Good us d s l ∧ 0 ≤ n ∧ n ≤ 1000000000000000000000000000000 ∧
  ∀ (t : Addr) (H' : Hp), Same H H' → SqT K H' t [.int ((placedM us d s c l n).1 : Int), .int (placedM us d s c l n).2] → Q (.ref t) H'
def spLWrit (K : PySem.W.Frag) : Sp := fun vs H Q _ => ∃ (r : Addr) (us : List (Str × Int)) (d : Nat) (s : Str) (c : Bool) (l : Int) (p : Nat) (m : Int), vs = [.ref r, .int (p : Int), .int m] ∧ ToldAt K H r us d s c l ∧ Good us d s l ∧ p < us.length ∧ 0 ≤ m ∧ m < 10 ^ 40 ∧ Q (.str (writ us d p m)) H
def spLSeen (K : PySem.W.Frag) : Sp := fun vs H Q _ => ∃ (r : Addr) (us : List (Str × Int)) (d : Nat) (s : Str) (c : Bool) (l n : Int), vs = [.ref r, .int n] ∧ ToldAt K H r us d s c l ∧ Good us d s l ∧ 0 ≤ n ∧ n ≤ 1000000000000000000000000000000 ∧
  ∀ H', Same H H' → Q (.str (shown us d s c l n)) H'
section
variable {P : Program} {w : World} {K : PySem.W.Frag} {mg : Str → Option Value} {base : Heap}
end
end My

namespace My
open PySem PySem.Spec PyProof.Rows L2
theorem int_lt64 {z : Int} (h1 : 0 < z) (h2 : z ≤ 1000000000000000000) : z.natAbs < 2 ^ 64 := by omega
theorem div_step {us : List (Str × Int)} {d : Nat} {s : Str} {l : Int} (g : Good us d s l) {p : Nat} (h1 : 1 ≤ p) (hp : p < us.length) : 0 < szOf us p / 10 ^ d ∧ szOf us p / 10 ^ d ≤ 1000000000000000000 := by
  obtain ⟨_, k2, k3⟩ := steps_ok g hp
  rw [step_at h1 hp] at k2 k3
  exact ⟨k2, k3⟩
theorem filt_snoc (f : Nat → Bool) (i : Nat) : (List.range (i + 1)).filter f = (List.range i).filter f ++ (if f i = true then [i] else []) := by
  rw [List.range_succ, List.filter_append]
  congr 1
  rw [List.filter_cons]
  rfl
section
variable {P : Program} {w : World} {K : PySem.W.Frag} {mg : Str → Option Value} {base : Heap}
end
end My

namespace My
open PySem PySem.Spec PyProof.Rows L2
abbrev nLWrit : List Str := ["_law_told_here", "_law_at", "_law_mark", "_law_line", "_law_power"]
abbrev nLSeen : List Str := ["_law_told_here", "_law_top_here", "_law_at", "_law_mark"]
section
variable {P : Program} {w : World} {K : PySem.W.Frag} {mg : Str → Option Value} {base : Heap}
end
end My

namespace My
open PySem PySem.Spec PyProof.Rows L2
section
variable {X : Cx} {CX : CXT} {k : Nat} {f : Addr} {fd : FuncData} {ps ks : List Str} {sp : Sp} {E : XK} {x : Str} {p pos : Pos} {kws : List Keyword} {tk : TA} {g : List Value → List Value → List Value} {gV : List V → List V → List V}
/-- f(k = v, ..) -/
theorem pe_callN0 (F : FnOk X.prog X.w X.K X.mg X.base CX k f fd ps sp) (hr : Room k X.A) (hg : Gl X x) (hm : X.mg x = some (.ref f)) (hk : PySem.W.keepIn X.K (.ref f) = true) (hb : KBn X.K fd ps 0 ks g gV) (hx : Passes CX X E)
    (hkw : PK X kws tk) (hall : (backToKw pos (keywordEach kws X.env)).all (·.1.isSome) = true := by rfl) (hks : (backToKw pos (keywordEach kws X.env)).filterMap (·.1) = ks := by rfl) (hdb : (x == ("__debug__" : Str)) = false := by decide)
    (hpl : ((backTo pos (starEach [] X.env)).any (·.1) || (backToKw pos (keywordEach kws X.env)).any (·.1.isNone)) = false := by rfl) : PE X (.Call (.Name x p) [] kws pos) (tCallN 0 ks.length sp gV E tNil tk) := by
  constructor
  intro pins s σ H Q I h
  refine wpAny_Call_Name_kw (ld_glob I hg hm (PySem.W.callWith_KW0 (h₀ := X.base) I.ok.mod.kin hk hall (thn (hkw.run pos pins s σ H _ I h) ?_) hpl) hdb)
  rintro ws s2 ⟨zs, H2, I2, rz, l1, l2, q2⟩
  refine ⟨I2.kIn, ?_⟩
  subst hks
  exact run_fnN (us := []) (vs := []) F hr hb hx I2 .nil rz l1 l2 q2
end
theorem kb_show {K : PySem.W.Frag} {mg : Str → Option Value} (d : Dd K mg "show" sShow ["ladder", "number"]) : KBn K d.fd ["ladder", "number"] 0 ["number", "ladder"] (fun _ ws => ws.reverse) (fun _ ws => ws.reverse) := by
  obtain ⟨oc, od, kV, doc, pm, an, cdv, ct, osl, e, _⟩ := d.F.ex
  rw [e]
  refine ⟨fun s us ws _ h1 h2 => ?_, fun _ h2 => ?_⟩
  · match us, ws, h1, h2 with
    | [], [_, _], _, _ => exact .of_eq rfl
  · rename_i vs us zs ws h1
    clear h1 vs us
    have rev : ∀ {a : List V} {b : List Value}, Vals a b → Vals a.reverse b.reverse := fun {a b} h => by
      induction h with
      | nil => exact .nil
      | cons r _ ih =>
        rw [List.reverse_cons, List.reverse_cons]
        exact ih.append (.cons r .nil)
    exact rev h2
abbrev nTop : List Str := ["_law_spring_here", "_law_told_here", "_law_way", "_law_unit_here", "_law_step", "_law_near_here", "_law_half"]
def spTop (K : PySem.W.Frag) : Sp := fun vs H Q _ => ∃ (a r : Addr) (us : List (Str × Int)) (d : Nat) (s : Str) (c : Bool) (l : Int), vs = [.ref a, .ref r] ∧ Spr H a ∧ ToldAt K H r us d s c l ∧ Good us d s l ∧
  ∀ (n : Int) (H' : Hp), 0 ≤ n → n ≤ 1000000000000000000 → But a H H' → Spr H' a → Q (.int n) H'
def spSomeT (K : PySem.W.Frag) : Sp := fun vs H Q _ => ∃ (a t : Addr) (xs : List V), vs = [.ref a, .ref t] ∧ Spr H a ∧ SqT K H t xs ∧ xs ≠ [] ∧ xs.length < 1000 ∧
  ∀ (v : V) (H' : Hp), v ∈ xs → Spr H' a → But a H H' → Q v H'
theorem clamp (v : Int) : 0 ≤ (if (if v < 1000000000000000000 then v else 1000000000000000000) > 0 then (if v < 1000000000000000000 then v else 1000000000000000000) else 0) ∧ (if (if v < 1000000000000000000 then v else 1000000000000000000) > 0 then (if v < 1000000000000000000 then v else 1000000000000000000) else 0) ≤ (1000000000000000000 : Int) := by
  split <;> split at * <;> omega
section
variable {P : Program} {w : World} {K : PySem.W.Frag} {mg : Str → Option Value} {base : Heap}
theorem ok_someT (d : Dd K mg "_law_some_of" sSome ["_law_spring_here", "_law_things"]) (dG : Dd K mg "_law_gulp" sGulp ["_law_spring_here", "_law_many"]) (B : Bt mg) : FnOk P w K mg base CX0 3 d.f d.fd ["_law_spring_here", "_law_things"] (spSomeT K) := by
  have G : FnOk P w K mg base CX0 2 dG.f dG.fd ["_law_spring_here", "_law_many"] spGulp := ok_gulp dG.F B
  refine d.F.ok scSome (fun vs H Q E h => ?_) (fun cdv A outer s H vs Q E hr h => ?_)
  · obtain ⟨_, _, _, rfl, _⟩ := h
    rfl
  · obtain ⟨a, t, xs, rfl, ha, ht, hne, hlen, k⟩ := h
    refine ⟨_, pss_one (ps_ret (pe_ix ix_tup (pv 1) (pe_call G hr (by rfl) dG.g dG.F.kp dG.b .nil pass0 (pa_cons (pv 0) (pa_cons (pe_callB call_len_seq (by rfl) B.len PySem.boot_len (pa_cons (pv 1) pa_nil)) pa_nil))) (fun _ _ => rfl))), ?_⟩
    have hpos : 0 < xs.length := List.length_pos_iff.mpr hne
    refine ⟨_, rfl, _, rfl, _, rfl, t, xs, rfl, .inr ht, a, _, rfl, ha, by omega, by omega, fun r H' h0 h1 s' b' => ?_⟩
    obtain ⟨i, rfl⟩ : ∃ i : Nat, r = (i : Int) := ⟨r.toNat, by omega⟩
    have hi : i < xs.length := by omega
    exact ⟨t, xs, i, xs[i], rfl, rfl, b'.sqtS ha ht, atI_nat (List.getElem?_eq_getElem hi), k _ _ (List.getElem_mem hi) s' b'⟩
end
end My

namespace My
open PySem PySem.Spec PyProof.Rows L2
/-! ### a figure is read back -/
theorem digit_noletter {c : Nat} (h : 48 ≤ c ∧ c ≤ 57) : letters.cps.contains c = false := by
  have h1 : ∀ k, k < 10 → letters.cps.contains (48 + k) = false := by decide +kernel
  have h2 := h1 (c - 48) (by omega)
  rw [show 48 + (c - 48) = c by omega] at h2
  exact h2
theorem take_rev {goes : Nat → Bool} : ∀ {N D : List Nat}, (∀ c ∈ N, goes c = true) → (∀ c, D.head? = some c → goes c = false) → (N ++ D).takeWhile goes = N
  | [], D, _, hd => by
    rw [List.nil_append]
    cases D with
    | nil => rfl
    | cons c r =>
      have := hd c rfl
      rw [List.takeWhile_cons, this]
      rfl
  | c :: N, D, hn, hd => by
    rw [List.cons_append, List.takeWhile_cons, hn c (List.mem_cons_self ..), if_pos rfl, take_rev (fun x hx => hn x (List.mem_cons_of_mem _ hx)) hd]
/-- t.rstrip(LETTERS): what stands ahead of the name -/
theorem rstrip_name {t : Str} {D N : List Nat} (ht : t.cps.toList = D ++ N) (hN : ∀ c ∈ N, letters.cps.contains c = true) (hD : ∀ c, D.getLast? = some c → 48 ≤ c ∧ c ≤ 57) : (Txt.rstripChars t letters).cps.toList = D := by
  unfold Txt.rstripChars
  rw [stripBy_eq]
  have e1 : stripLo (letters.cps.contains ·) false t = 0 := rfl
  have e2 : stripHi (letters.cps.contains ·) true t 0 = D.length := by
    show t.length - ((t.cps.toList.drop 0).reverse.takeWhile (letters.cps.contains ·)).length = _
    rw [List.drop_zero, ht, List.reverse_append, take_rev (fun c hc => hN c (List.mem_reverse.mp hc)) (fun c hc => ?_), List.length_reverse, str_len, ht, List.length_append]
    · omega
    · rw [List.head?_reverse] at hc
      exact digit_noletter (hD c hc)
  show (Builtin.Str.strSub t (stripLo (letters.cps.contains ·) false t) (stripHi (letters.cps.contains ·) true t (stripLo (letters.cps.contains ·) false t))).cps.toList = D
  rw [e1, e2]
  unfold Builtin.Str.strSub
  rw [Array.toList_extract, List.extract_eq_drop_take, ht]
  simp
theorem repl_filter : ∀ l : List Nat, PySem.StrLaws.replL [46] [] l = l.filter (fun c => c != 46)
  | [] => by rw [PySem.StrLaws.replL_nil]; rfl
  | c :: r => by
    by_cases h : c = 46
    · subst h
      rw [PySem.StrLaws.replL_hit (by simp) rfl, List.filter_cons]
      show [] ++ PySem.StrLaws.replL [46] [] r = _
      rw [repl_filter r]
      rfl
    · rw [PySem.StrLaws.replL_miss (by simp [h]), repl_filter r, List.filter_cons, if_pos (by simpa using h)]
theorem replace_point {t : Str} : (Txt.replace t "." "").cps.toList = t.cps.toList.filter (fun c => c != 46) := by
  rw [PySem.StrLaws.replace_list (by decide)]
  exact repl_filter _
theorem zf_digits {d : Nat} {m : Int} (h : 0 ≤ m) : ∀ c ∈ zf d m, 48 ≤ c ∧ c ≤ 57 := by
  intro c hc
  unfold zf at hc
  rcases List.mem_append.mp hc with y | y
  · rw [(List.mem_replicate.mp y).2]
    decide
  · exact dg_digits h c y
theorem filter_digits {l : List Nat} (h : ∀ c ∈ l, 48 ≤ c ∧ c ≤ 57) : l.filter (fun c => c != 46) = l := by
  refine List.filter_eq_self.mpr fun c hc => ?_
  have := h c hc
  simp
  omega
theorem filter_body {d : Nat} {m : Int} (h : 0 ≤ m) : (body d m).filter (fun c => c != 46) = zf d m := by
  unfold body
  have hz := zf_digits (d := d) h
  rw [List.filter_append, List.filter_cons]
  simp only [bne_self_eq_false, Bool.false_eq_true, if_false]
  rw [filter_digits (fun c hc => hz c (List.mem_of_mem_take hc)), filter_digits (fun c hc => hz c (List.mem_of_mem_drop hc)), List.take_append_drop]
theorem last_body {d : Nat} {m : Int} (h : 0 ≤ m) (hd : 1 ≤ d) : ∀ c, (body d m).getLast? = some c → 48 ≤ c ∧ c ≤ 57 := by
  intro c hc
  unfold body at hc
  have hlen : 1 ≤ ((zf d m).drop ((zf d m).length - d)).length := by
    rw [List.length_drop, zf_len]
    omega
  cases e : (zf d m).drop ((zf d m).length - d) with
  | nil => rw [e] at hlen; simp at hlen
  | cons a r =>
    rw [e, List.getLast?_append, List.getLast?_cons_cons] at hc
    have hm : c ∈ a :: r := by
      cases e2 : (a :: r).getLast? with
      | none => simp at e2
      | some y =>
        rw [e2] at hc
        have : y = c := by simpa using hc
        rw [← this]
        exact List.mem_of_getLast? e2
    rw [← e] at hm
    exact zf_digits h c (List.mem_of_mem_drop hm)
theorem last_dg {m : Int} (h : 0 ≤ m) : ∀ c, (dg m).getLast? = some c → 48 ≤ c ∧ c ≤ 57 := fun c hc => dg_digits h c (List.mem_of_getLast? hc)
theorem digits_ok {t : Str} (h : ∀ c ∈ t.cps.toList, 48 ≤ c ∧ c ≤ 57) (hl : 1 ≤ t.cps.toList.length) : Txt.isascii t = true ∧ Txt.isdigit t = true := by
  have hu : ∀ k, k < 10 → Unicode.isDigit (48 + k) = true := by decide +kernel
  constructor
  · unfold Txt.isascii
    rw [← Array.all_toList, List.all_eq_true]
    intro c hc
    have := h c hc
    exact decide_eq_true (by omega)
  · unfold Txt.isdigit
    rw [Bool.and_eq_true]
    refine ⟨decide_eq_true (by rw [str_len]; omega), ?_⟩
    rw [← Array.all_toList, List.all_eq_true]
    intro c hc
    have h1 := h c hc
    have h2 := hu (c - 48) (by omega)
    rw [show 48 + (c - 48) = c by omega] at h2
    exact h2
theorem val_zeros (n : Nat) (l : List Nat) : NumText.digitsVal (List.replicate n 48 ++ l) = NumText.digitsVal l := by
  induction n with
  | zero => rfl
  | succ n ih => rw [List.replicate_succ, List.cons_append, NumText.digitsVal_zero, ih]
/-- int of a mark's signs, zeros ahead or not -/
theorem int_back {t : Str} {n : Nat} {m : Int} (hm : 0 ≤ m) (ht : t.cps.toList = List.replicate n 48 ++ dg m) (hl : t.length ≤ 4300) : PySem.intText? t = some m := by
  obtain ⟨k, rfl⟩ := Int.eq_ofNat_of_zero_le hm
  have hd := dg_digits hm
  have hp := dg_pos hm
  have h1 : NumText.AllDigits t.cps.toList := by
    rw [ht]
    intro c hc
    rcases List.mem_append.mp hc with y | y
    · rw [(List.mem_replicate.mp y).2]
      decide
    · exact hd c y
  have h2 : t.cps.toList ≠ [] := by
    rw [ht]
    intro e
    have e2 : (dg (k : Int)).length = 0 := by rw [(List.append_eq_nil_iff.mp e).2]; rfl
    have hp' : 1 ≤ (dg (k : Int)).length := hp
    omega
  rw [PySem.intText_digits h1 h2 hl, ht, val_zeros]
  unfold dg
  rw [PySem.W.KIN.signs_num, PySem.W.KIN.val_back]
end My

namespace My
open PySem PySem.Spec PyProof.Rows L2
abbrev sPartsOf : Stmt := top 38
abbrev sPlaceU : Stmt := top 39
abbrev sIsMark : Stmt := top 40
abbrev sPFig : Stmt := top 51
theorem scPartsOf : FnScope ["ladder", "text", "ahead", "place", "digits", "mark"] ["ladder", "text"] (defScope sPartsOf) := ⟨rfl, rfl, rfl, by decide +kernel, rfl, by decide +kernel, by decide +kernel⟩
theorem scPlaceU : FnScope ["ladder", "name", "names", "unit"] ["ladder", "name"] (defScope sPlaceU) := ⟨rfl, rfl, rfl, by decide +kernel, rfl, by decide +kernel, by decide +kernel⟩
theorem scIsMark : FnScope ["digits"] ["digits"] (defScope sIsMark) := ⟨rfl, rfl, rfl, by decide +kernel, rfl, by decide +kernel, by decide +kernel⟩
theorem scPFig : FnScope ["ladder", "text", "parts"] ["ladder", "text"] (defScope sPFig) := ⟨rfl, rfl, rfl, by decide +kernel, rfl, by decide +kernel, by decide +kernel⟩
def spIsMark : Sp := fun vs H Q _ => ∃ z : Str, vs = [.str z] ∧ (∀ c ∈ z.cps.toList, 48 ≤ c ∧ c ≤ 57) ∧ 1 ≤ z.length ∧ z.length ≤ 24 ∧ Q (.bl true) H
def spPlaceU (K : PySem.W.Frag) (C : Addr) : Sp := fun vs H Q _ => ∃ (a : Addr) (us : List (Str × Int)) (d : Nat) (s : Str) (c : Bool) (l : Int) (p : Nat) (u : Str × Int), vs = [.ref a, .str u.1] ∧ LadAt K C H a us d s c l ∧ Good us d s l ∧ us[p]? = some u ∧
  ∀ H', Same H H' → Q (.int (p : Int)) H'
theorem names_apart {us : List (Str × Int)} (g : GoodUs us) {i j : Nat} {u v : Str × Int} (hij : i < j) (hi : us[i]? = some u) (hj : us[j]? = some v) : u.1 ≠ v.1 := by
  obtain ⟨_, _, _, hf⟩ := g.each j v hj
  have hm : u ∈ us.take j := List.mem_of_getElem? (i := i) (by rw [List.getElem?_take, if_pos hij]; exact hi)
  rcases hf with ⟨e, _⟩ | ⟨_, _, _, _, _, _, h⟩
  · rw [e] at hm
    cases hm
  · exact h u hm
section
variable {P : Program} {w : World} {K : PySem.W.Frag} {mg : Str → Option Value} {base : Heap}
theorem ok_ismark (d : Dd K mg "is_mark" sIsMark ["digits"]) (B : Bt mg) (gM : ∃ t, mg "MOST_DIGITS" = some (.int 24 t)) : FnOk P w K mg base CX0 2 d.f d.fd ["digits"] spIsMark := by
  obtain ⟨t1, g1⟩ := gM
  refine d.F.ok scIsMark (fun vs H Q E h => ?_) (fun cdv A outer s H vs Q E hr h => ?_)
  · obtain ⟨_, rfl, _⟩ := h
    rfl
  · obtain ⟨z, rfl, h1, h2, h3, q⟩ := h
    refine ⟨_, pss_one (ps_ret (pe_and (pe_bm0 PySem.F.plainAttrs_str PySem.F.slot_str_isascii PySem.F.type_str_isascii mt_isascii (pv 0)) (pe_and (pe_bm0 PySem.F.plainAttrs_str PySem.F.slot_str_isdigit PySem.F.type_str_isdigit mt_isdigit (pv 0))
      (pe_one (pe_cmpR op_le (pe_callB call_len_str (by rfl) B.len PySem.boot_len (pa_cons (pv 0) pa_nil)) (pe_glob (v := .int 24) (by rfl) g1 ⟨_, rfl⟩) (nomark _)))))), ?_⟩
    obtain ⟨e1, e2⟩ := digits_ok h1 (by rw [← str_len]; exact h2)
    refine ⟨_, rfl, rfl, z, rfl, rfl, trivial, _, rfl, ?_⟩
    rw [e1]
    refine iteT ?_
    refine ⟨_, rfl, rfl, z, rfl, rfl, trivial, _, rfl, ?_⟩
    rw [e2]
    refine iteT ?_
    refine ⟨_, rfl, z, rfl, Nat.le_trans h3 (by decide), _, _, rfl, rfl, ?_⟩
    have e3 : decide ((z.length : Int) ≤ 24) = true := decide_eq_true (by omega)
    show Q (.bl (decide ((z.length : Int) ≤ 24))) H
    rw [e3]
    exact q
theorem ok_placeu (d : Dd K mg "place_of_unit" sPlaceU ["ladder", "name"]) (L : LadC K mg) (B : Bt mg) : FnOk P w K mg base CX0 2 d.f d.fd ["ladder", "name"] (spPlaceU K L.C) := by
  refine d.F.ok scPlaceU (fun vs H Q E h => ?_) (fun cdv A outer s H vs Q E hr h => ?_)
  · obtain ⟨_, _, _, _, _, _, _, _, rfl, _⟩ := h
    rfl
  · obtain ⟨a, us, dn, z, c, l, p, u, rfl, ⟨dx, ua, t, st, th, hp, ⟨ps, hua, hu⟩, _⟩, g, hpu, q⟩ := h
    have nd := scPlaceU.nd
    have el := UP.len hu
    refine ⟨_, Evl.pss_cut (ps_setLc (i := 2) (own := [("unit", 3)]) (g := gName 3) (tt := tYes) (by rfl) nd rfl rfl (sw_true rfl rfl rfl (by decide +kernel)) (pi_tup (pe_fld (pv 0) rfl))
        (blkOk_by (own := [("unit", 3)]) (N := ["ladder", "name", "names", "unit"]) (sc := defScope sPlaceU) (by decide +kernel)) (fun _ _ _ _ _ => pg_name (i := 3) nd rfl (Or.inl rfl)) (fun _ _ _ _ _ => pts_nil)
        (fun _ _ _ _ _ => pe_ix (r := rIxT K) ix_tup (pv 3) pe_int (fun _ _ => rfl)))
      (pss_cons (ps_if (pt_cmpR op_notIn_seq (pv 1) (pv 2) (by rfl)) (pss_one (ps_ret pe_non)) pss_nil)
      (pss_one (ps_ret (pe_bm PySem.F.plainAttrs_list PySem.F.slot_list_index PySem.F.type_list_index mt_index (pv 2) (pa_cons (pv 1) pa_nil))))), ?_⟩
    refine ⟨fun σ' H' => ∃ D, Same H H' ∧ H' D = some (.lst (us.map fun v => V.str v.1)) ∧ σ' = [some (.ref a), some (.str u.1), some (.ref D), none], ?_, ?_⟩
    · refine ⟨_, rfl, a, L.C, dx, _, _, rfl, hp, L.cl, L.nUnits, fl_units .., ua, rfl, ⟨_, hua⟩, fun D nD => ?_⟩
      refine lc_tup (K := K) (a := ua) (xs := ps.map V.ref) (fun i H2 => Same H H2 ∧ H2 D = some (.lst ((us.take i).map fun v => V.str v.1))) ⟨same_upd nD, upd_same⟩ (fun i H2 _ h => same_sqt h.1 hua) ?_ ?_
      · rintro i x H2 hi ⟨sm, hD⟩
        obtain ⟨pi, hpi, rfl⟩ := of_get_ref hi
        obtain ⟨v, hv, hs⟩ := paired_fst hu hpi
        refine ⟨rfl, _, rfl, pi, _, 0, .str v.1, rfl, rfl, same_sqt sm hs, rfl, _, hD, ?_, fun b o eb => ?_, ?_⟩
        · rw [List.length_map, List.length_take]
          exact Nat.lt_of_le_of_lt (Nat.le_trans (Nat.min_le_right _ _) g.u.hi) (by decide)
        · rw [upd_ne (ne_of_none eb nD)]
          exact sm _ _ eb
        · rw [upd_same, List.take_add_one, hv, List.map_append]
          rfl
      · rintro H2 ⟨sm, hD⟩
        rw [List.length_map, el, List.take_of_length_le (Nat.le_refl _)] at hD
        exact ⟨D, sm, hD, rfl⟩
    · rintro σ' H2 ⟨D, sm, hD, rfl⟩
      have hin : inV (.str u.1) (us.map fun v => V.str v.1) = true := by
        unfold inV
        rw [List.any_eq_true]
        exact ⟨.str u.1, List.mem_map.mpr ⟨u, List.mem_of_getElem? hpu, rfl⟩, by simp [eqV]⟩
      have hflat : (us.map fun v => V.str v.1).all flatV = true := by simp [List.all_map, flatV]
      refine ⟨_, rfl, _, rfl, D, _, rfl, .inl (SqL.of hD), rfl, hflat, ?_⟩
      rw [if_pos rfl, hin]
      refine ⟨false, rfl, iteF ?_⟩
      refine ⟨_, rfl, .inl ⟨rfl, _, SqL.of hD⟩, _, rfl, D, _, .str u.1, p, .str u.1, rfl, rfl, SqL.of hD, rfl, hflat, ?_, by simp [eqV], fun m z' hm hz' => ?_, q _ sm⟩
      · rw [List.getElem?_map, hpu]
        rfl
      · rw [List.getElem?_map] at hz'
        cases e : us[m]? with
        | none => rw [e] at hz'; cases hz'
        | some v =>
          rw [e] at hz'
          have ez := Option.some.inj hz'
          subst ez
          have := names_apart g.u hm e hpu
          simpa [eqV] using this
end
end My

namespace My
open PySem PySem.Spec PyProof.Rows L2
/-- x = e where e gives out tokens -/
theorem pst_set {X : Cx} {i : Nat} {x : Str} {e : Expr} {te : TE} {pos pos' : Pos} (hN : X.N.Nodup) (hi : X.N[i]? = some x) (hx : Loc X.env.scope x) (he : PET X e te) (hs : swapsWith e (some (.Name x pos')) pos.line X.env = pure false := by rfl)
    (hf : X.fn x = true ∨ X.env.scope.names.lookup x = some .local := by first | exact .inl rfl | exact .inr rfl | assumption) : PST X (.Assign [.Name x pos'] e pos) (tAsg te (gName i)) := by
  intro pins s σ H D h0 I h
  refine wpAny_Assign_Name (thn (he pins s σ H _ h0 I h) ?_) hs
  rintro v s1 ⟨y, H1, I1, r1, q1⟩
  exact store_ok I1 hN hi hx r1 (fun s2 I2 => ⟨_, H1, I2, q1⟩) hf
/-- what stands ahead of a figure's name -/
def ahead (d p : Nat) (m : Int) : List Nat := if p = 0 ∨ d = 0 then dg m else body d m
theorem writ_codes {us : List (Str × Int)} {d p : Nat} {m : Int} : (writ us d p m).cps.toList = ahead d p m ++ (us.getD p ("", 0)).1.cps.toList := by
  unfold writ ahead
  split
  · rw [str_app]
    rfl
  · rw [str_app]
theorem ahead_last {d p : Nat} {m : Int} (hm : 0 ≤ m) : ∀ c, (ahead d p m).getLast? = some c → 48 ≤ c ∧ c ≤ 57 := by
  unfold ahead
  split
  · exact last_dg hm
  · rename_i h
    exact last_body hm (by
      rcases Nat.eq_zero_or_pos d with z | z
      · exact absurd (.inr z) h
      · exact z)
theorem ahead_filter {d p : Nat} {m : Int} (hm : 0 ≤ m) : ∃ n, (ahead d p m).filter (fun c => c != 46) = List.replicate n 48 ++ dg m ∧ n + (dg m).length ≤ max (d + 1) (dg m).length := by
  unfold ahead
  split
  · refine ⟨0, ?_, by omega⟩
    rw [filter_digits (dg_digits hm)]
    rfl
  · refine ⟨d + 1 - (dg m).length, ?_, by omega⟩
    rw [filter_body hm]
    rfl
theorem ahead_len {d p : Nat} {m : Int} : (ahead d p m).length ≤ max (d + 1) (dg m).length + 1 := by
  unfold ahead
  split
  · omega
  · unfold body
    rw [List.length_append, List.length_take, List.length_cons, List.length_drop, zf_len]
    omega
theorem dg_24 {m : Int} (h0 : 0 ≤ m) (h : m < 10 ^ 24) : (dg m).length ≤ 24 := by
  obtain ⟨k, rfl⟩ := Int.eq_ofNat_of_zero_le h0
  have hk : k < 10 ^ 24 := by omega
  unfold dg
  rw [PySem.W.KIN.signs_num, List.length_map, ← Nat.toList_repr]
  exact (Nat.length_repr_le_iff (by decide)).mpr hk
def spPartsOf (K : PySem.W.Frag) (C : Addr) : Sp := fun vs H Q _ => ∃ (a : Addr) (us : List (Str × Int)) (d : Nat) (s : Str) (c : Bool) (l : Int) (p : Nat) (m : Int), vs = [.ref a, .str (writ us d p m)] ∧ LadAt K C H a us d s c l ∧ Good us d s l ∧ p < us.length ∧ 0 ≤ m ∧ m < 10 ^ 24 ∧
  ∀ (r : Addr) (H' : Hp), Same H H' → SqT K H' r [.int (p : Int), .int m] → Q (.ref r) H'
def spWorth (K : PySem.W.Frag) (C : Addr) : Sp := fun vs H Q _ => ∃ (a : Addr) (us : List (Str × Int)) (d : Nat) (s : Str) (c : Bool) (l : Int) (p : Nat) (m : Int), vs = [.ref a, .str (writ us d p m)] ∧ LadAt K C H a us d s c l ∧ Good us d s l ∧ p < us.length ∧ 0 ≤ m ∧ m < 10 ^ 24 ∧
  ∀ H', Same H H' → Q (.int (m * (stepsOf us d).getD p 0)) H'
section
variable {P : Program} {w : World} {K : PySem.W.Frag} {mg : Str → Option Value} {base : Heap}
theorem ok_partsof (d : Dd K mg "parts_of" sPartsOf ["ladder", "text"]) (dU : Dd K mg "place_of_unit" sPlaceU ["ladder", "name"]) (dM : Dd K mg "is_mark" sIsMark ["digits"]) (dW : Dd K mg "written" sWritten ["ladder", "place", "mark"]) (L : LadC K mg) (B : Bt mg) (G : Gc K mg) (gM : ∃ t, mg "MOST_DIGITS" = some (.int 24 t)) :
    FnOk P w K mg base CX0 3 d.f d.fd ["ladder", "text"] (spPartsOf K L.C) := by
  have GU : FnOk P w K mg base CX0 2 dU.f dU.fd ["ladder", "name"] (spPlaceU K L.C) := ok_placeu dU L B
  have GM : FnOk P w K mg base CX0 2 dM.f dM.fd ["digits"] spIsMark := ok_ismark dM B gM
  have GW : FnOk P w K mg base CX0 2 dW.f dW.fd ["ladder", "place", "mark"] (spWritten K L.C) := ok_written dW L B
  obtain ⟨t1, g1⟩ := G.letters
  obtain ⟨oc, od, kV, doc, pm, an, cdv, ct, osl, e, lk, hcd⟩ := d.F.ex
  rw [e] at lk ⊢
  refine fn_ofT lk hcd scPartsOf (by decide +kernel) (by decide) (fun vs H Q E h => ?_) (fun A outer s H vs Q E hr h => ?_)
  · obtain ⟨_, _, _, _, _, _, _, _, rfl, _⟩ := h
    rfl
  · obtain ⟨a, us, dn, z, c, l, p, m, rfl, hL, g, hlt, hm, hm2, q⟩ := h
    have nd := scPartsOf.nd
    refine ⟨_, psst_cons (PST.of (ps_if (pt_not (pt_val (pe_callB call_isi (by rfl) B.isinstance (by decide +kernel) (pa_cons (pv 1) (pa_cons (pe_bltn (v := .ty "str") (by rfl) B.str (by decide +kernel) rfl) pa_nil))))) (pss_one (ps_ret pe_non)) pss_nil))
      (psst_cons (PST.of (ps_set (i := 2) nd rfl (.inl rfl) (pe_bm PySem.F.plainAttrs_str PySem.F.slot_str_rstrip PySem.F.type_str_rstrip mt_rstripChars (pv 1) (pa_cons (pe_glob (v := .str letters) (by rfl) g1 ⟨_, rfl⟩) pa_nil))))
      (psst_cons (PST.of (ps_set (i := 3) nd rfl (.inl rfl) (pe_call GU hr (by rfl) dU.g dU.F.kp dU.b .nil pass0 (pa_cons (pv 0) (pa_cons (pe_slice sl_str (pv 1) (po_some (pe_callB call_len_str (by rfl) B.len PySem.boot_len (pa_cons (pv 2) pa_nil))) po_none) pa_nil)))))
      (psst_cons (pst_set (i := 4) nd rfl (.inl rfl) (CwR.pet_replC (pv 2)))
      (PSsT.of (pss_cons (ps_if (PW.pt (pw_or (pt_cmp (pc_isN (pv 3))) (pw_or1 (pt_not (pt_val (pe_call GM hr (by rfl) dM.g dM.F.kp dM.b .nil pass0 (pa_cons (pv 4) pa_nil))))))) (pss_one (ps_ret pe_non)) pss_nil)
      (pss_cons (ps_set (i := 5) nd rfl (.inl rfl) (pe_callTy call_int_str (by rfl) B.int (by decide +kernel) (pa_cons (pv 4) pa_nil)))
      (pss_cons (ps_if (pt_cmpR op_ne (pe_call GW hr (by rfl) dW.g dW.F.kp dW.b .nil pass0 (pa_cons (pv 0) (pa_cons (pv 3) (pa_cons (pv 5) pa_nil)))) (pv 1) (nomark _)) (pss_one (ps_ret pe_non)) pss_nil)
      (pss_one (ps_ret (pe_tup (pa_cons (pv 3) (pa_cons (pv 5) pa_nil)))))))))))), ?_⟩
    have hu : us[p]? = some us[p] := List.getElem?_eq_getElem hlt
    have en : (us.getD p ("", 0)).1 = us[p].1 := by rw [List.getD_eq_getElem?_getD, hu]; rfl
    have gn := (g.u.each p _ hu).1
    have hlet : ∀ c ∈ us[p].1.cps.toList, letters.cps.contains c = true := fun c hc => by
      have := gn.2.2.2
      rw [List.all_eq_true] at this
      exact this c hc
    have wc := writ_codes (us := us) (d := dn) (p := p) (m := m)
    rw [en] at wc
    have ld := dg_24 hm hm2
    have d3 := g.d3
    have al := ahead_len (d := dn) (p := p) (m := m)
    have lw : (writ us dn p m).length ≤ 30 := by
      rw [str_len, wc, List.length_append, ← str_len]
      have := gn.1
      omega
    refine ⟨_, rfl, _, _, _, _, true, rfl, .ty "str", .base (.str _), kit_ty (by decide +kernel), _, rfl, iteF ?_⟩
    have er : (Txt.rstripChars (writ us dn p m) letters).cps.toList = ahead dn p m := rstrip_name wc hlet (ahead_last hm)
    refine ⟨_, rfl, rfl, _, _, rfl, rfl, Nat.le_trans lw (by decide), ?_⟩
    generalize Txt.rstripChars (writ us dn p m) letters = zz at er ⊢
    have lz : zz.length = (ahead dn p m).length := by rw [str_len, er]
    refine ⟨_, rfl, _, rfl, _, rfl, zz, rfl, (by rw [lz]; exact Nat.le_trans (show _ ≤ 30 by omega) (by decide)), _, rfl, _, rfl, Nat.le_trans lw (by decide), ?_⟩
    have esl : cutS (writ us dn p m) (some (zz.length : Int)) none = us[p].1 := by
      refine str_ext ?_
      rw [cut_fromn (by rw [wc, List.length_append, lz]; omega), wc, lz]
      simp
    rw [esl]
    refine ⟨a, us, dn, z, c, l, p, us[p], rfl, hL, g, hu, fun H1 s1 => ?_⟩
    refine ⟨_, rfl, zz, rfl, ?_, ?_⟩
    · rw [lz]
      show _ + (_ + 1) * 0 ≤ _
      omega
    obtain ⟨n, ef, hn⟩ := ahead_filter (d := dn) (p := p) hm
    have ep : (Txt.replace zz "." "").cps.toList = List.replicate n 48 ++ dg m := by rw [replace_point, er, ef]
    generalize Txt.replace zz "." "" = yy at ep ⊢
    have ly : yy.length = n + (dg m).length := by rw [str_len, ep, List.length_append, List.length_replicate]
    have hp1 := dg_pos hm
    have alld : ∀ c ∈ yy.cps.toList, 48 ≤ c ∧ c ≤ 57 := fun c hc => by
      rw [ep] at hc
      rcases List.mem_append.mp hc with y | y
      · rw [(List.mem_replicate.mp y).2]
        decide
      · exact dg_digits hm c y
    refine ⟨_, rfl, _, rfl, iteF ?_⟩
    refine ⟨_, rfl, yy, rfl, alld, by omega, by omega, true, rfl, iteF ?_⟩
    refine ⟨_, rfl, yy, m, rfl, int_back hm ep (by omega), by omega, ?_⟩
    refine ⟨_, rfl, _, rfl, _, rfl, a, us, dn, z, c, l, p, m, rfl, hL.same s1, g, hlt, hm, Int.lt_trans hm2 (by decide), _, rfl, rfl, _, rfl, iteNS (by simp) ?_⟩
    refine ⟨_, rfl, _, rfl, (by show 2 ≤ sizeLine; decide), fun r nr => ?_⟩
    exact q r _ (s1.trans (same_upd nr)) (SqT.of upd_same)
end
end My

namespace My
open PySem PySem.Spec PyProof.Rows L2
section
variable {P : Program} {w : World} {K : PySem.W.Frag} {mg : Str → Option Value} {base : Heap}
theorem ok_pfig {C : Addr} (d : Dd K mg "parts_of_figure" sPFig ["ladder", "text"]) (dP : Dd K mg "parts_of" sPartsOf ["ladder", "text"]) (GP : FnOk P w K mg base CX0 3 dP.f dP.fd ["ladder", "text"] (spPartsOf K C)) :
    FnOk P w K mg base CX0 4 d.f d.fd ["ladder", "text"] (spPartsOf K C) := by
  refine d.F.ok scPFig (fun vs H Q E h => ?_) (fun cdv A outer s H vs Q E hr h => ?_)
  · obtain ⟨_, _, _, _, _, _, _, _, rfl, _⟩ := h
    rfl
  · obtain ⟨a, us, dn, z, c, l, p, m, rfl, hL, g, hlt, hm, hm2, q⟩ := h
    have nd := scPFig.nd
    refine ⟨_, pss_cons (ps_set (i := 2) nd rfl (.inl rfl) (pe_call GP hr (by rfl) dP.g dP.F.kp dP.b .nil pass0 (pa_cons (pv 0) (pa_cons (pv 1) pa_nil))))
      (pss_cons (ps_if (pt_cmp (pc_isN (pv 2))) (pss_one ps_never) pss_nil) (pss_one (ps_ret (pv 2)))), ?_⟩
    refine ⟨_, rfl, _, rfl, a, us, dn, z, c, l, p, m, rfl, hL, g, hlt, hm, hm2, fun r H1 s1 hr1 => ?_⟩
    exact ⟨_, rfl, _, rfl, iteF ⟨_, rfl, q r H1 s1 hr1⟩⟩
end
end My

namespace My
open PySem PySem.Spec PyProof.Rows L2
abbrev sWorth : Stmt := top 45
theorem scWorth : FnScope ["ladder", "text", "place", "mark"] ["ladder", "text"] (defScope sWorth) := ⟨rfl, rfl, rfl, by decide +kernel, rfl, by decide +kernel, by decide +kernel⟩
section
variable {P : Program} {w : World} {K : PySem.W.Frag} {mg : Str → Option Value} {base : Heap}
theorem ok_worth (d : Dd K mg "worth" sWorth ["ladder", "text"]) (dF : Dd K mg "parts_of_figure" sPFig ["ladder", "text"]) (dP : Dd K mg "parts_of" sPartsOf ["ladder", "text"]) (dU : Dd K mg "place_of_unit" sPlaceU ["ladder", "name"]) (dM : Dd K mg "is_mark" sIsMark ["digits"])
    (dW : Dd K mg "written" sWritten ["ladder", "place", "mark"]) (dC : Dd K mg "check_ladder" sCLad ["ladder"]) (L : LadC K mg) (I : LadI K L.C) (B : Bt mg) (G : Gc K mg) (gM : ∃ t, mg "MOST_DIGITS" = some (.int 24 t)) :
    FnOk P w K mg base CX0 5 d.f d.fd ["ladder", "text"] (spWorth K L.C) := by
  have GF : FnOk P w K mg base CX0 4 dF.f dF.fd ["ladder", "text"] (spPartsOf K L.C) := ok_pfig dF dP (ok_partsof dP dU dM dW L B G gM)
  have GC : FnOk P w K mg base CX0 2 dC.f dC.fd ["ladder"] (spCLad K L.C) := ok_clad dC L I B
  refine d.F.ok scWorth (fun vs H Q E h => ?_) (fun cdv A outer s H vs Q E hr h => ?_)
  · obtain ⟨_, _, _, _, _, _, _, _, rfl, _⟩ := h
    rfl
  · obtain ⟨a, us, dn, z, c, l, p, m, rfl, hL, g, hlt, hm, hm2, q⟩ := h
    have hr1 : Room 2 _ := hr.mono (by decide)
    have nd := scWorth.nd
    refine ⟨_, pss_cons (ps_expr (pe_call GC hr1 (by rfl) dC.g dC.F.kp dC.b .nil pass0 (pa_cons (pv 0) pa_nil)))
      (pss_cons (ps_asg (pe_call GF hr (by rfl) dF.g dF.F.kp dF.b .nil pass0 (pa_cons (pv 0) (pa_cons (pv 1) pa_nil))) (pg_tup rfl (pgs_cons (pg_name (i := 2) nd rfl (.inl rfl)) (pgs_cons (pg_name (i := 3) nd rfl (.inl rfl)) pgs_nil))))
      (pss_one (ps_ret (pe_op op_mul (pv 3) (pe_ix ix_tup (pe_fld (pv 0) rfl) (pv 2) (fun _ _ => rfl)))))), ?_⟩
    refine ⟨_, rfl, a, us, dn, z, c, l, rfl, hL, _, rfl, _, rfl, a, us, dn, z, c, l, p, m, rfl, hL, g, hlt, hm, hm2, fun r H1 s1 hr' => ?_⟩
    refine ⟨r, _, rfl, hr', rfl, _, _, rfl, _, _, rfl, rfl, ?_⟩
    obtain ⟨dx, ua, t, st, th, hp, hua, ht, hs, hth⟩ := hL.same s1
    obtain ⟨k1, k2, k3⟩ := steps_ok g hlt
    exact ⟨_, rfl, _, rfl, a, L.C, dx, _, _, rfl, hp, L.cl, L.nSteps, fl_steps .., _, rfl, st, _, p, .int ((stepsOf us dn).getD p 0), rfl, rfl, hs, atI_nat (by rw [List.getElem?_map, k1]; rfl), m, _, rfl, rfl, .inr ⟨by omega, by omega⟩, q H1 s1⟩
end
end My

namespace MyZ
open PySem PySem.Spec PyProof.Rows L2
/-- three lists of one length walked together, the items in new triples -/
def Itz3 (K : PySem.W.Frag) (a b c : Addr) : It :=
  ⟨fun i H => ∃ (xs ys zs : List V) (x y z : V), SqL K H a xs ∧ SqL K H b ys ∧ SqL K H c zs ∧ xs[i]? = some x ∧ ys[i]? = some y ∧ zs[i]? = some z,
   fun i H v H' => ∃ T x y z, v = .ref T ∧ H T = none ∧ H' = upd H T (.tup [x, y, z]) ∧ (∀ xs, SqL K H a xs → xs[i]? = some x) ∧ (∀ ys, SqL K H b ys → ys[i]? = some y) ∧ ∀ zs, SqL K H c zs → zs[i]? = some z,
   fun i H => ∃ xs ys zs : List V, SqL K H a xs ∧ SqL K H b ys ∧ SqL K H c zs ∧ xs.length = i ∧ ys.length = i ∧ zs.length = i⟩
theorem turn_zip3 {P : Program} {w : World} {K : PySem.W.Frag} {elts : List Expr} {kk : Nat} {tpos : Pos} {a b c z TI TO i1 i2 i3 : Addr} (D : ZipSep3 z TI TO i1 i2 i3 [i1, a] [i2, b] [i3, c]) (n1 : a ≠ i1) (n2 : b ≠ i2) (n3 : c ≠ i3) :
    Turn P w K (.Tuple elts kk tpos) (Itz3 K a b c) [z, TI, TO, i1, i2, i3] z (fun i h => IsZip h z TI TO .none ∧ IsTupOf3 h TI (.ref i1) (.ref i2) (.ref i3) ∧ (∃ x y u, IsTupOf3 h TO x y u) ∧ h.IsListIter i1 a i ∧ h.IsListIter i2 b i ∧ h.IsListIter i3 c i) where
  mem := by simp
  obj := fun i h st q hq => by
    obtain ⟨hz, hTI, ⟨x, y, u, hTO⟩, ⟨o1, e1, _, d1⟩, ⟨o2, e2, _, d2⟩, ⟨o3, e3, _, d3⟩⟩ := st
    have e' : q = z ∨ q = TI ∨ q = TO ∨ q = i1 ∨ q = i2 ∨ q = i3 := by simpa using hq
    rcases e' with e | e | e | e | e | e <;> rw [e]
    · exact ⟨_, hz, fun v q => nomatch q⟩
    · exact ⟨_, hTI, fun v q => nomatch q⟩
    · exact ⟨_, hTO, fun v q => nomatch q⟩
    · exact ⟨o1, e1, fun v q => by rw [d1] at q; cases q⟩
    · exact ⟨o2, e2, fun v q => by rw [d2] at q; cases q⟩
    · exact ⟨o3, e3, fun v q => by rw [d3] at q; cases q⟩
  keep := fun i h h' st k => by
    obtain ⟨hz, hTI, ⟨x, y, u, hTO⟩, h1, h2, h3⟩ := st
    exact ⟨k z (by simp) _ hz, k TI (by simp) _ hTI, ⟨x, y, u, k TO (by simp) _ hTO⟩, h1.at fun o q => k i1 (by simp) o q, h2.at fun o q => k i2 (by simp) o q, h3.at fun o q => k i3 (by simp) o q⟩
  item := by
    intro X hP hw hK hc i pins s σ H E I hf st hg
    subst hP hw hK
    obtain ⟨hz, hTI, ⟨x0, y0, u0, hTO⟩, h1, h2, h3⟩ := st
    obtain ⟨xs, ys, zs, x, y, v, hqx, hqy, hqz, hx, hy, hv⟩ := hg
    obtain ⟨its, rv, p, _⟩ := I.list hqx
    obtain ⟨its2, rv2, p2, _⟩ := I.list hqy
    obtain ⟨its3, rv3, p3, _⟩ := I.list hqz
    obtain ⟨u, hu, ru⟩ := rv.get hx
    obtain ⟨u2, hu2, ru2⟩ := rv2.get hy
    obtain ⟨u3, hu3, ru3⟩ := rv3.get hv
    have hzl : z < s.heap.objs.size := Heap.lt_size hz
    have lt1 : i < its.toArray.size := by have := (List.getElem?_eq_some_iff.mp hu).1; simpa using this
    have lt2 : i < its2.toArray.size := by have := (List.getElem?_eq_some_iff.mp hu2).1; simpa using this
    have lt3 : i < its3.toArray.size := by have := (List.getElem?_eq_some_iff.mp hu3).1; simpa using this
    have D1 := Draws.list (prog := X.prog) (w := X.w) (A := X.A.in1) (I.ok.hd hc) i1 a n1 its.toArray
    have D2 := Draws.list (prog := X.prog) (w := X.w) (A := X.A.in1) (I.ok.hd hc) i2 b n2 its2.toArray
    have D3 := Draws.list (prog := X.prog) (w := X.w) (A := X.A.in1) (I.ok.hd hc) i3 c n3 its3.toArray
    refine wpAny_pyNext_zipD3_item D D1 D2 D3 hz hTI hTO ⟨h1, p.isList⟩ ⟨h2, p2.isList⟩ ⟨h3, p3.isList⟩ lt1 lt2 lt3 fun w1 w2 w3 h' tk f1 f2 f3 z' TO' h1' h2' h3' hT hsz hk => ?_
    have e1 : w1 = u := by
      have q : its.toArray[i]? = some u := by simpa using hu
      exact Option.some.inj (f1.symm.trans q)
    have e2 : w2 = u2 := by
      have q : its2.toArray[i]? = some u2 := by simpa using hu2
      exact Option.some.inj (f2.symm.trans q)
    have e3 : w3 = u3 := by
      have q : its3.toArray[i]? = some u3 := by simpa using hu3
      exact Option.some.inj (f3.symm.trans q)
    subst e1 e2 e3
    refine ⟨_, rfl, wpAny_letOwnedTupleGo_zip (s := { s with heap := h', toks := tk }) z' fun h'' z'' sb => ?_⟩
    have hT2 := (sb.2 _ (Nat.ne_of_gt hzl)).trans hT
    have new : ObjOk X.prog X.w (upd H s.heap.objs.size (.tup [x, y, v])) h'' s.heap.objs.size (.tup [x, y, v]) :=
      ⟨(by show 3 ≤ sizeLine; decide), [w1, w2, w3], .cons ru (.cons ru2 (.cons ru3 .nil)), ⟨_, hT2, rfl, _, rfl⟩⟩
    have stay : ∀ q o, q ∉ [z, TI, TO, i1, i2, i3] → s.heap.get? q = some o → h''.get? q = some o := fun q o hq e => by
      have m : ∀ k, k ∈ [z, TI, TO, i1, i2, i3] → q ≠ k := fun k hk e => hq (e ▸ hk)
      exact (sb.2 q (m z (by simp))).trans (hk q o (m z (by simp)) (m TO (by simp)) (m i1 (by simp)) (m i2 (by simp)) (m i3 (by simp)) e)
    have I1 : Inv X pins σ (upd H s.heap.objs.size (.tup [x, y, v])) { s with heap := h'', toks := tk } := I.turnedNew (ch := [z, TI, TO, i1, i2, i3]) stay hf (Nat.le_refl _) new
    refine ⟨.ref s.heap.objs.size, _, I1, rfl, ⟨_, x, y, v, rfl, I.hok.fresh (Nat.le_refl _), rfl, fun l hl => (I.list_inj hl hqx) ▸ hx, fun l hl => (I.list_inj hl hqy) ▸ hy, fun l hl => (I.list_inj hl hqz) ▸ hv⟩, ⟨z'', ?_, ⟨w1, w2, w3, ?_⟩, ?_, ?_, ?_⟩, fun q hq => ?_⟩
    · exact (sb.2 _ D.TIz).trans (hk _ _ D.TIz D.TITO D.TIi1 D.TIi2 D.TIi3 hTI)
    · exact (sb.2 _ D.TOz).trans TO'
    · exact h1'.1.at fun o q => (sb.2 _ (fun e => D.zf1 (by rw [← e]; simp))).trans q
    · exact h2'.1.at fun o q => (sb.2 _ (fun e => D.zf2 (by rw [← e]; simp))).trans q
    · exact h3'.1.at fun o q => (sb.2 _ (fun e => D.zf3 (by rw [← e]; simp))).trans q
    · have hlt : q < s.heap.objs.size := by
        have e' : q = z ∨ q = TI ∨ q = TO ∨ q = i1 ∨ q = i2 ∨ q = i3 := by simpa using hq
        rcases e' with e | e | e | e | e | e <;> rw [e]
        · exact hzl
        · exact Heap.lt_size hTI
        · exact Heap.lt_size hTO
        · obtain ⟨_, e1, _⟩ := h1; exact Heap.lt_size e1
        · obtain ⟨_, e2, _⟩ := h2; exact Heap.lt_size e2
        · obtain ⟨_, e3, _⟩ := h3; exact Heap.lt_size e3
      rw [upd_ne (Nat.ne_of_lt hlt)]
      exact (hf q hq).1
  done := by
    intro X hP hw hK hc i pins s σ H E I hf st hg
    subst hP hw hK
    obtain ⟨hz, hTI, ⟨x0, y0, u0, hTO⟩, h1, h2, h3⟩ := st
    obtain ⟨xs, ys, zs, hqx, hqy, hqz, lx, ly, lz⟩ := hg
    obtain ⟨its, rv, p, _⟩ := I.list hqx
    obtain ⟨its2, rv2, p2, _⟩ := I.list hqy
    obtain ⟨its3, rv3, p3, _⟩ := I.list hqz
    have l1 : its.toArray.size = i := by have := rv.length; simp; omega
    have l2 : its2.toArray.size = i := by have := rv2.length; simp; omega
    have l3 : its3.toArray.size = i := by have := rv3.length; simp; omega
    have D1 := Draws.list (prog := X.prog) (w := X.w) (A := X.A.in1) (I.ok.hd hc) i1 a n1 its.toArray
    have D2 := Draws.list (prog := X.prog) (w := X.w) (A := X.A.in1) (I.ok.hd hc) i2 b n2 its2.toArray
    have D3 := Draws.list (prog := X.prog) (w := X.w) (A := X.A.in1) (I.ok.hd hc) i3 c n3 its3.toArray
    refine wpAny_pyNext_zipD3_end D D1 D2 D3 hz hTI hTO ⟨h1, p.isList⟩ ⟨h2, p2.isList⟩ ⟨h3, p3.isList⟩ (by omega) (by omega) (by omega) (.inl l1.symm) fun h' tk hk => ⟨rfl, ?_⟩
    refine I.turnedL (ch := [z, TI, TO, i1, i2, i3]) (fun q o hq e => ?_) hf
    have m : ∀ k, k ∈ [z, TI, TO, i1, i2, i3] → q ≠ k := fun k hk e => hq (e ▸ hk)
    exact hk q o (m z (by simp)) (m TO (by simp)) (m i1 (by simp)) (m i2 (by simp)) (m i3 (by simp)) e
  self := fun A i s Q E st h => wpAny_pyIter_zip st.1 h
def iZip3 (K : PySem.W.Frag) (ta : TA) : TI := fun σ H R => ta σ H fun vs H1 => ∃ a b c xs ys zs, vs = [.ref a, .ref b, .ref c] ∧ SqL K H1 a xs ∧ SqL K H1 b ys ∧ SqL K H1 c zs ∧ R (Itz3 K a b c) H1
theorem pi_zip3 {X : Cx} {e e2 e3 : Expr} {ta : TA} {p pos tpos : Pos} {elts : List Expr} {kk : Nat} (hg : Gl X "zip") (hm : X.mg "zip" = none) (ha : PA X [e, e2, e3] ta)
    (hs : starEach [e, e2, e3] X.env = (false, eval e X.env) :: starEach [e2, e3] X.env := by rfl) (hpl : (backTo pos (starEach [e2, e3] X.env)).any (·.1) = false := by rfl) :
    PI X (.Tuple elts kk tpos) (.Call (.Name "zip" p) [e, e2, e3] [] pos) (iZip3 X.K ta) := by
  constructor
  intro pins s σ H R I h
  refine Call_ (ld_blt I hg hm PyProof.Rows.boot_zip (PyProof.Rows.callWith_type1 (thn (ha.run pos pins s σ H _ I h) ?_) hs hpl))
  rintro us s1 ⟨vs, H1, I1, r1, a, b, c, xs, ys, zs, rfl, hqx, hqy, hqz, q⟩
  match us, r1 with
  | [_, _, _], .cons r1 (.cons r2 (.cons r3 .nil)) =>
    cases r1
    cases r2
    cases r3
    obtain ⟨its, rv, p1, _⟩ := I1.list hqx
    obtain ⟨its2, rv2, p2, _⟩ := I1.list hqy
    obtain ⟨its3, rv3, p3, _⟩ := I1.list hqz
    have la : a < s1.heap.objs.size := p1.lt
    have lb : b < s1.heap.objs.size := p2.lt
    have lc : c < s1.heap.objs.size := p3.lt
    refine zip_begins3 (begins_list a its.toArray) (begins_list b its2.toArray) (begins_list c its3.toArray) p1.isList p2.isList p3.isList fun h' hz hTI hTO h1 h2 h3 hsz hk => wpAny_pyIter_zip hz ?_
    have I2 : Inv X pins σ H1 { s1 with heap := h' } := I1.kept (t' := s1.toks) hk
    have one : ∀ {x n : Addr}, x < n → ∀ q ∈ [x], q < n := fun hx q hq => by
      have e : q = _ := List.mem_singleton.mp hq
      rw [e]
      exact hx
    have sep := zip_sep3 (N := s1.heap.objs.size) (one la) (one lb) (one lc)
    refine ⟨s1.heap.objs.size + 5, [s1.heap.objs.size + 5, s1.heap.objs.size + 3, s1.heap.objs.size + 4, s1.heap.objs.size, s1.heap.objs.size + 1, s1.heap.objs.size + 2], _, _, H1, rfl, I2,
      turn_zip3 sep (Nat.ne_of_lt la) (Nat.ne_of_lt (Nat.lt_succ_of_lt lb)) (Nat.ne_of_lt (Nat.lt_succ_of_lt (Nat.lt_succ_of_lt lc))), ⟨hz, hTI, ⟨_, _, _, hTO⟩, ⟨_, h1, rfl, rfl⟩, ⟨_, h2, rfl, rfl⟩, ⟨_, h3, rfl, rfl⟩⟩, fun q hq => ?_, ‹_›⟩
    have e' : q = s1.heap.objs.size + 5 ∨ q = s1.heap.objs.size + 3 ∨ q = s1.heap.objs.size + 4 ∨ q = s1.heap.objs.size ∨ q = s1.heap.objs.size + 1 ∨ q = s1.heap.objs.size + 2 := by simpa using hq
    have hle : s1.heap.objs.size ≤ q := by
      rcases e' with e | e | e | e | e | e <;> rw [e] <;> first | exact Nat.le_add_right _ _ | exact Nat.le_refl _
    exact I1.fpOk hle (I1.hok.fresh hle)
/-- for x, y, z in zip(a, b, c) -/
theorem for_zip3 {K : PySem.W.Frag} {a b c : Addr} {xs ys zs : List V} {g : TG} {tb : TS} {D : Ends} {σ : L2.St} {H : Hp} (hy : ys.length = xs.length) (hz : zs.length = xs.length) (Pv : Nat → L2.St → Hp → Prop) (h0 : Pv 0 σ H)
    (hl : ∀ i σ H, Pv i σ H → SqL K H a xs ∧ SqL K H b ys ∧ SqL K H c zs)
    (ht : ∀ (i : Nat) (x y z : V) (σ : L2.St) (H : Hp) (T : Addr), xs[i]? = some x → ys[i]? = some y → zs[i]? = some z → Pv i σ H → H T = none → g (.ref T) σ (upd H T (.tup [x, y, z])) fun σ2 H2 => tb { nx := Pv (i + 1), rt := D.rt, bk := D.nx, ct := Pv (i + 1) } σ2 H2)
    (he : ∀ σ H, Pv xs.length σ H → D.nx σ H) :
    ∃ W : Nat → Nat → L2.St → Hp → Prop, (∃ m, W 0 m σ H) ∧ ∀ i m σ H, W i m σ H → ((Itz3 K a b c).stop i H ∧ D.nx σ H) ∨
      ((Itz3 K a b c).go i H ∧ ∃ N : L2.St → Hp → Prop, (∀ σ' H', N σ' H' → ∃ m', m' < m ∧ W (i + 1) m' σ' H') ∧
        ∀ x H', (Itz3 K a b c).yld i H x H' → g x σ H' fun σ2 H2 => tb { nx := N, rt := D.rt, bk := D.nx, ct := N } σ2 H2) := by
  refine ⟨fun i m σ H => Pv i σ H ∧ i + m = xs.length, ⟨xs.length, h0, by omega⟩, fun i m σ H hW => ?_⟩
  obtain ⟨hp, hm⟩ := hW
  obtain ⟨q1, q2, q3⟩ := hl i σ H hp
  by_cases hi : i < xs.length
  · refine .inr ⟨⟨xs, ys, zs, xs[i], ys[i], zs[i], q1, q2, q3, List.getElem?_eq_getElem hi, List.getElem?_eq_getElem (by omega), List.getElem?_eq_getElem (by omega)⟩, Pv (i + 1), fun σ' H' hN => ⟨m - 1, by omega, hN, by omega⟩, ?_⟩
    rintro v H' ⟨T, x, y, z, rfl, hT, rfl, f1, f2, f3⟩
    exact ht i x y z σ H T (f1 xs q1) (f2 ys q2) (f3 zs q3) hp hT
  · have e : i = xs.length := by omega
    subst e
    exact .inl ⟨⟨xs, ys, zs, q1, q2, q3, rfl, hy, hz⟩, he σ H hp⟩
/-- [.. for x, y in zip(a, b)] -/
theorem lc_zip {K : PySem.W.Frag} {a b : Addr} {xs ys : List V} {g : TG} {tt : TT} {te : TE} {vs : List Nat} {σ : L2.St} {H1 : Hp} {D : Addr} {Qd : Hp → Prop} (hy : ys.length = xs.length) (Pv : Nat → Hp → Prop) (h0 : Pv 0 (upd H1 D (.lst [])))
    (hl : ∀ i H, Pv i H → SqL K H a xs ∧ SqL K H b ys)
    (ht : ∀ (i : Nat) (x y : V) (H : Hp) (T : Addr), xs[i]? = some x → ys[i]? = some y → Pv i H → H T = none → g (.ref T) (wipe σ vs) (upd H T (.tup [x, y])) fun σ2 H2 => wipe σ2 vs = wipe σ vs ∧ tt σ2 H2 fun b H3 =>
      if b = true then te σ2 H3 fun y H4 => ∃ acc, H4 D = some (.lst acc) ∧ acc.length < sizeLine ∧ Pv (i + 1) (upd H4 D (.lst (acc ++ [y]))) else Pv (i + 1) H3)
    (he : ∀ H, Pv xs.length H → Qd H) :
    ∃ W : Nat → Nat → Hp → Prop, (∃ m, W 0 m (upd H1 D (.lst []))) ∧ ∀ i m H, W i m H → ((Itz K a b).stop i H ∧ Qd H) ∨
      ((Itz K a b).go i H ∧ ∃ Nx : Hp → Prop, (∀ H', Nx H' → ∃ m', m' < m ∧ W (i + 1) m' H') ∧
        ∀ x H', (Itz K a b).yld i H x H' → g x (wipe σ vs) H' fun σ2 H2 => wipe σ2 vs = wipe σ vs ∧ tt σ2 H2 fun b H3 =>
          if b = true then te σ2 H3 fun y H4 => ∃ acc, H4 D = some (.lst acc) ∧ acc.length < sizeLine ∧ Nx (upd H4 D (.lst (acc ++ [y]))) else Nx H3) := by
  refine ⟨fun i m H => Pv i H ∧ i + m = xs.length, ⟨xs.length, h0, by omega⟩, fun i m H hW => ?_⟩
  obtain ⟨hp, hm⟩ := hW
  obtain ⟨q1, q2⟩ := hl i H hp
  by_cases hi : i < xs.length
  · refine .inr ⟨⟨xs, ys, xs[i], ys[i], q1, q2, List.getElem?_eq_getElem hi, List.getElem?_eq_getElem (by omega)⟩, Pv (i + 1), fun H' hN => ⟨m - 1, by omega, hN, by omega⟩, ?_⟩
    rintro v H' ⟨T, x, y, rfl, hT, rfl, f1, f2⟩
    exact ht i x y H T (f1 xs q1) (f2 ys q2) hp hT
  · have e : i = xs.length := by omega
    subst e
    exact .inl ⟨⟨xs, ys, q1, q2, .inl (Nat.le_refl _)⟩, he H hp⟩
end MyZ

namespace My
open PySem PySem.Spec PyProof.Rows L2
/-! ### roundings compared -/
def stOf (us : List (Str × Int)) (d : Nat) (l n : Int) : Int := (stepsOf us d).getD (placeOf us l n) 0
def worthM (us : List (Str × Int)) (d : Nat) (s : Str) (c : Bool) (l n : Int) : Int := (placedM us d s c l n).2 * (stepsOf us d).getD (placedM us d s c l n).1 0
theorem place_lt {us : List (Str × Int)} {d : Nat} {s : Str} {l n : Int} (g : Good us d s l) (h0 : 0 ≤ n) : placeOf us l n < us.length := by
  have hc1 := cnt_pos (us := us) (l := l) h0
  have hc2 := cnt_le (l := l) (n := n) g.u.lo
  unfold placeOf
  omega
theorem st_pos {us : List (Str × Int)} {d : Nat} {s : Str} {l n : Int} (g : Good us d s l) (h0 : 0 ≤ n) : 0 < stOf us d l n ∧ stOf us d l n ≤ 1000000000000000000 := by
  obtain ⟨_, k2, k3⟩ := steps_ok g (place_lt g h0)
  exact ⟨k2, k3⟩
/-- sizes are so many steps -/
theorem sz_step {us : List (Str × Int)} {d : Nat} {s : Str} {l : Int} (g : Good us d s l) {k : Nat} (h1 : 1 ≤ k) (h2 : k < us.length) : szOf us k = (stepsOf us d).getD k 0 * 10 ^ d := by
  rw [step_at h1 h2]
  obtain ⟨j, rfl⟩ : ∃ j, k = j + 1 := ⟨k - 1, by omega⟩
  have hu : us[j + 1]? = some us[j + 1] := List.getElem?_eq_getElem h2
  have hm : us[j + 1] ∈ us.drop 1 := List.mem_of_getElem? (i := j) (by rw [List.getElem?_drop, Nat.add_comm 1 j]; exact hu)
  have hz := g.div _ hm
  rw [szOf_at hu]
  have hp := pow_lo d
  have hd : (10 ^ d : Int) ∣ us[j + 1].2 := Int.dvd_trans ⟨2, Int.mul_comm _ _⟩ (Int.dvd_of_emod_eq_zero hz)
  exact (Int.ediv_mul_cancel hd).symm
theorem sz_dvd {us : List (Str × Int)} (g : GoodUs us) {i : Nat} (h : i + 1 < us.length) : ∃ q : Int, szOf us (i + 1) = szOf us i * q := by
  have h1 : us[i + 1]? = some us[i + 1] := List.getElem?_eq_getElem h
  have h0 : us[i]? = some us[i] := List.getElem?_eq_getElem (by omega)
  obtain ⟨_, _, _, hf⟩ := g.each (i + 1) _ h1
  rw [szOf_at h1, szOf_at h0]
  have el : (us.take (i + 1)).length = i + 1 := by rw [List.length_take]; omega
  rcases hf with ⟨e, _⟩ | ⟨l, hl, _, _, _, h4, _⟩
  · rw [e] at el
    cases el
  · rw [el, Nat.add_sub_cancel, List.getElem?_take, if_pos (Nat.lt_succ_self i), h0] at hl
    rw [Option.some.inj hl]
    exact Int.dvd_of_emod_eq_zero h4
theorem next_thr {us : List (Str × Int)} {d : Nat} {s : Str} {l n : Int} (g : Good us d s l) (h0 : 0 ≤ n) (hp : placeOf us l n + 1 < us.length) : n < (thrsOf us l).getD (placeOf us l n + 1) 0 := by
  have hr := reached (n := n) g.u g.l1 h0 hp
  have e : (thrsOf us l).getD (placeOf us l n + 1) 0 = szOf us (placeOf us l n + 1) * l := by rw [List.getD_eq_getElem?_getD, thr_at (by omega) hp]; rfl
  rw [e]
  rcases Int.lt_or_le n (szOf us (placeOf us l n + 1) * l) with z | z
  · exact z
  · have := hr.mp (.inr z)
    omega
theorem down_not {us : List (Str × Int)} {d : Nat} {s : Str} {c : Bool} {l n m : Int} (g : Good us d s l) (h0 : 0 ≤ n) (hm : m * stOf us d l n ≤ n) : isCar us d c l (placeOf us l n) m = false := by
  unfold isCar
  by_cases hp : placeOf us l n + 1 < us.length
  · have h1 := next_thr g h0 hp
    have h2 : ¬ (thrsOf us l).getD (placeOf us l n + 1) 0 ≤ m * (stepsOf us d).getD (placeOf us l n) 0 := fun y => by
      have h3 : m * (stepsOf us d).getD (placeOf us l n) 0 ≤ n := hm
      omega
    rw [decide_eq_false h2, Bool.and_false, Bool.and_false]
  · rw [decide_eq_false hp, Bool.false_and, Bool.and_false]
theorem rnd_of {n st b r : Int} {s : Str} (h0 : 0 ≤ r) (h1 : r < st) (e : n = b * st + r) : rnd n st s = if goesUp b r st s = true then b + 1 else b := by
  have e1 : n / st = b := by
    rw [e, Int.add_comm, Int.add_mul_ediv_right _ _ (by omega), Int.ediv_eq_zero_of_lt h0 h1, Int.zero_add]
  have e2 : n % st = r := by
    rw [e, Int.add_comm, Int.add_mul_emod_self_right, Int.emod_eq_of_lt h0 h1]
  unfold rnd
  rw [e1, e2]
theorem goes_cases (b r st : Int) (s : Str) : (s = "up" ∧ goesUp b r st s = decide (0 < r)) ∨ (s = "near" ∧ goesUp b r st s = decide (st ≤ 2 * r)) ∨ (s = "even" ∧ goesUp b r st s = (decide (st < 2 * r) || (decide (2 * r = st) && decide (b % 2 = 1)))) ∨ (s ≠ "up" ∧ s ≠ "near" ∧ s ≠ "even" ∧ goesUp b r st s = false) := by
  unfold goesUp
  by_cases h1 : s = "up"
  · exact .inl ⟨h1, by rw [if_pos h1]⟩
  · by_cases h2 : s = "near"
    · exact .inr (.inl ⟨h2, by rw [if_neg h1, if_pos h2]⟩)
    · by_cases h3 : s = "even"
      · exact .inr (.inr (.inl ⟨h3, by rw [if_neg h1, if_neg h2, if_pos h3]⟩))
      · exact .inr (.inr (.inr ⟨h1, h2, h3, by rw [if_neg h1, if_neg h2, if_neg h3]⟩))
/-- the worth of a number's figure, whether it is carried or not -/
theorem worth_core {us : List (Str × Int)} {d : Nat} {s : Str} {c : Bool} {l n : Int} (g : Good us d s l) (h0 : 0 ≤ n) : worthM us d s c l n = rnd n (stOf us d l n) s * stOf us d l n := by
  have hpl := place_lt g h0
  obtain ⟨sp, sp2⟩ := st_pos g h0
  unfold worthM placedM
  cases ec : isCar us d c l (placeOf us l n) (rnd n ((stepsOf us d).getD (placeOf us l n) 0) s) with
  | false =>
    rw [if_neg Bool.false_ne_true]
    rfl
  | true =>
    rw [if_pos rfl]
    show rnd n ((stepsOf us d).getD (placeOf us l n + 1) 0) s * (stepsOf us d).getD (placeOf us l n + 1) 0 = _
    have hp1 := isCar_lt ec
    have hlt := next_thr g h0 hp1
    have hT : (thrsOf us l).getD (placeOf us l n + 1) 0 ≤ rnd n (stOf us d l n) s * stOf us d l n := by
      unfold isCar at ec
      rw [Bool.and_eq_true, Bool.and_eq_true] at ec
      exact of_decide_eq_true ec.2.2
    have eT : (thrsOf us l).getD (placeOf us l n + 1) 0 = szOf us (placeOf us l n + 1) * l := by rw [List.getD_eq_getElem?_getD, thr_at (by omega) hp1]; rfl
    have hz1 := sz_step g (k := placeOf us l n + 1) (by omega) hp1
    have hst' := (steps_ok g hp1).2
    have hmod0 := Int.emod_nonneg n (b := stOf us d l n) (by omega)
    have hmod1 := Int.emod_lt_of_pos n sp
    have hdm := Int.mul_ediv_add_emod n (stOf us d l n)
    -- so many steps are the threshold
    have hdiv : ∃ q : Int, szOf us (placeOf us l n + 1) = stOf us d l n * q ∧ (1 ≤ placeOf us l n → stOf us d l n < (stepsOf us d).getD (placeOf us l n + 1) 0) ∧ (placeOf us l n = 0 → stOf us d l n = 1) := by
      rcases Nat.eq_zero_or_pos (placeOf us l n) with z | z
      · refine ⟨szOf us (placeOf us l n + 1), ?_, fun y => by omega, fun _ => ?_⟩
        · have : stOf us d l n = 1 := by unfold stOf; rw [z]; rfl
          rw [this, Int.one_mul]
        · unfold stOf
          rw [z]
          rfl
      · obtain ⟨q, hq⟩ := sz_dvd g.u hp1
        have hz0 := sz_step g (k := placeOf us l n) z hpl
        have hup := sz_up g.u hp1
        refine ⟨10 ^ d * q, ?_, fun _ => ?_, fun y => by omega⟩
        · rw [hq, hz0, Int.mul_assoc]
          rfl
        · have hp := pow_lo d
          rw [hz0, hz1] at hup
          exact Int.lt_of_mul_lt_mul_right hup (Int.le_of_lt hp)
    obtain ⟨q, hq, hbig, hone⟩ := hdiv
    have eT2 : szOf us (placeOf us l n + 1) * l = (q * l) * stOf us d l n := by rw [hq, Int.mul_assoc, Int.mul_comm]
    have eT3 : szOf us (placeOf us l n + 1) * l = (10 ^ d * l) * (stepsOf us d).getD (placeOf us l n + 1) 0 := by rw [hz1, Int.mul_assoc, Int.mul_comm]
    rw [eT, eT2] at hlt hT
    generalize (stepsOf us d).getD (placeOf us l n + 1) 0 = st' at hst' hbig eT3 ⊢
    rw [eT2] at eT3
    generalize q * l = Q at hlt hT eT3
    generalize (10 ^ d * l : Int) = Q' at eT3
    generalize stOf us d l n = st at *
    have hr := rnd_of (n := n) (st := st) (b := n / st) (r := n % st) (s := s) hmod0 hmod1 (by rw [Int.mul_comm (n / st) st]; omega)
    generalize n / st = b at *
    generalize n % st = r at *
    have hbQ : b < Q := by
      rcases Int.lt_or_le b Q with z | z
      · exact z
      · exfalso
        have h1 : Q * st ≤ b * st := Int.mul_le_mul_of_nonneg_right z (by omega)
        rw [Int.mul_comm b st] at h1
        omega
    cases eg : goesUp b r st s with
    | false =>
      rw [eg, if_neg Bool.false_ne_true] at hr
      rw [hr] at hT
      exfalso
      rw [Int.mul_comm b st] at hT
      omega
    | true =>
      rw [eg, if_pos rfl] at hr
      rw [hr] at hT ⊢
      have hQb : b + 1 = Q := by
        have h1 : Q ≤ b + 1 := by
          rcases Int.lt_or_le (b + 1) Q with z | z
          · exfalso
            have h1 : (b + 1 + 1) * st ≤ Q * st := Int.mul_le_mul_of_nonneg_right (by omega) (by omega)
            have h2 : (b + 1 + 1) * st = (b + 1) * st + st := by rw [Int.add_mul, Int.one_mul]
            omega
          · exact z
        omega
      rw [hQb, eT3]
      -- the rest to the threshold
      have hk : Q * st = st * b + st := by rw [← hQb, Int.add_mul, Int.one_mul, Int.mul_comm b st]
      have e' : n = (Q' - 1) * st' + (st' - (st - r)) := by
        rw [Int.sub_mul, Int.one_mul, ← eT3, hk]
        omega
      have hr0 : 0 < r := by
        rcases goes_cases b r st s with ⟨_, h⟩ | ⟨_, h⟩ | ⟨_, h⟩ | ⟨_, _, _, h⟩ <;> rw [h] at eg
        · exact of_decide_eq_true eg
        · have := of_decide_eq_true eg
          omega
        · rw [Bool.or_eq_true, Bool.and_eq_true] at eg
          rcases eg with y | y
          · have := of_decide_eq_true y
            omega
          · have := of_decide_eq_true y.1
            omega
        · cases eg
      have hb1 : 1 ≤ placeOf us l n := by
        rcases Nat.eq_zero_or_pos (placeOf us l n) with z | z
        · have := hone z
          omega
        · exact z
      have hlt' := hbig hb1
      have hr2 := rnd_of (n := n) (st := st') (b := Q' - 1) (r := st' - (st - r)) (s := s) (by omega) (by omega) e'
      have eg' : goesUp (Q' - 1) (st' - (st - r)) st' s = true := by
        rcases goes_cases b r st s with ⟨hs, h⟩ | ⟨hs, h⟩ | ⟨hs, h⟩ | ⟨_, _, _, h⟩ <;> rw [h] at eg
        · rcases goes_cases (Q' - 1) (st' - (st - r)) st' s with ⟨_, h'⟩ | ⟨z, _⟩ | ⟨z, _⟩ | ⟨z, _⟩
          · rw [h']; exact decide_eq_true (by omega)
          · rw [hs] at z; exact absurd z (by decide +kernel)
          · rw [hs] at z; exact absurd z (by decide +kernel)
          · exact absurd hs z
        · have h2 := of_decide_eq_true eg
          rcases goes_cases (Q' - 1) (st' - (st - r)) st' s with ⟨z, _⟩ | ⟨_, h'⟩ | ⟨z, _⟩ | ⟨_, z, _⟩
          · rw [hs] at z; exact absurd z (by decide +kernel)
          · rw [h']; exact decide_eq_true (by omega)
          · rw [hs] at z; exact absurd z (by decide +kernel)
          · exact absurd hs z
        · have h2 : st ≤ 2 * r := by
            rw [Bool.or_eq_true, Bool.and_eq_true] at eg
            rcases eg with y | y
            · have := of_decide_eq_true y
              omega
            · have := of_decide_eq_true y.1
              omega
          rcases goes_cases (Q' - 1) (st' - (st - r)) st' s with ⟨z, _⟩ | ⟨z, _⟩ | ⟨_, h'⟩ | ⟨_, _, z, _⟩
          · rw [hs] at z; exact absurd z (by decide +kernel)
          · rw [hs] at z; exact absurd z (by decide +kernel)
          · rw [h', Bool.or_eq_true]; exact .inl (decide_eq_true (by omega))
          · exact absurd hs z
        · cases eg
      rw [hr2, eg', if_pos rfl, Int.sub_add_cancel]
end My

namespace My
open PySem PySem.Spec PyProof.Rows L2
theorem goes_down (b r st : Int) : goesUp b r st "down" = false := by
  rcases goes_cases b r st "down" with ⟨z, _⟩ | ⟨z, _⟩ | ⟨z, _⟩ | ⟨_, _, _, h⟩
  · exact absurd z (by decide +kernel)
  · exact absurd z (by decide +kernel)
  · exact absurd z (by decide +kernel)
  · exact h
theorem goes_zero {b st : Int} {s : Str} (h : 0 < st) : goesUp b 0 st s = false := by
  rcases goes_cases b 0 st s with ⟨_, e⟩ | ⟨_, e⟩ | ⟨_, e⟩ | ⟨_, _, _, e⟩ <;> rw [e]
  · rfl
  · exact decide_eq_false (by omega)
  · rw [decide_eq_false (show ¬ st < 2 * 0 by omega), decide_eq_false (show ¬ (2 : Int) * 0 = st by omega)]
    rfl
theorem placed_down {us : List (Str × Int)} {d : Nat} {s : Str} {c : Bool} {l n : Int} (g : Good us d s l) (h0 : 0 ≤ n) : placedM us d "down" c l n = (placeOf us l n, n / stOf us d l n) := by
  obtain ⟨sp, _⟩ := st_pos g h0
  have er : rnd n (stOf us d l n) "down" = n / stOf us d l n := by
    unfold rnd
    rw [goes_down, if_neg Bool.false_ne_true]
  unfold placedM
  show (if isCar us d c l (placeOf us l n) (rnd n (stOf us d l n) "down") = true then _ else (placeOf us l n, rnd n (stOf us d l n) "down")) = _
  rw [er, down_not g h0 (Int.ediv_mul_le n (by omega)), if_neg Bool.false_ne_true]
theorem place_back {us : List (Str × Int)} {d : Nat} {s : Str} {l n : Int} (g : Good us d s l) (h0 : 0 ≤ n) : 0 ≤ n / stOf us d l n * stOf us d l n ∧ n / stOf us d l n * stOf us d l n ≤ n ∧ placeOf us l (n / stOf us d l n * stOf us d l n) = placeOf us l n := by
  obtain ⟨sp, _⟩ := st_pos g h0
  have hpl := place_lt g h0
  have h1 : n / stOf us d l n * stOf us d l n ≤ n := Int.ediv_mul_le n (by omega)
  have h2 : 0 ≤ n / stOf us d l n * stOf us d l n := Int.mul_nonneg (Int.ediv_nonneg h0 (by omega)) (by omega)
  refine ⟨h2, h1, ?_⟩
  have hv := place_lt g h2
  have a1 : placeOf us l (n / stOf us d l n * stOf us d l n) ≤ placeOf us l n := by
    refine (reached (n := n) g.u g.l1 h0 hv).mp ?_
    rcases (reached g.u g.l1 h2 hv).mpr (Nat.le_refl _) with y | y
    · exact .inl y
    · exact .inr (Int.le_trans y h1)
  have a2 : placeOf us l n ≤ placeOf us l (n / stOf us d l n * stOf us d l n) := by
    refine (reached g.u g.l1 h2 hpl).mp ?_
    rcases (reached g.u g.l1 h0 hpl).mpr (Nat.le_refl _) with y | y
    · exact .inl y
    · rcases Nat.eq_zero_or_pos (placeOf us l n) with z | z
      · exact .inl z
      · refine .inr ?_
        have e := sz_step g z hpl
        have e2 : szOf us (placeOf us l n) * l = (10 ^ d * l) * stOf us d l n := by
          rw [e, Int.mul_assoc, Int.mul_comm]
          rfl
        rw [e2] at y ⊢
        exact Int.mul_le_mul_of_nonneg_right ((Int.le_ediv_iff_mul_le sp).mpr y) (by omega)
  omega
theorem placed_back {us : List (Str × Int)} {d : Nat} {s : Str} {c : Bool} {l n : Int} (g : Good us d s l) (h0 : 0 ≤ n) : placedM us d s c l (n / stOf us d l n * stOf us d l n) = (placeOf us l n, n / stOf us d l n) := by
  obtain ⟨sp, _⟩ := st_pos g h0
  obtain ⟨v0, v1, ev⟩ := place_back g h0
  have es : stOf us d l (n / stOf us d l n * stOf us d l n) = stOf us d l n := by
    unfold stOf
    unfold stOf at ev
    rw [ev]
  have er : rnd (n / stOf us d l n * stOf us d l n) (stOf us d l n) s = n / stOf us d l n := by
    rw [rnd_of (b := n / stOf us d l n) (r := 0) (Int.le_refl 0) sp (by omega), goes_zero sp, if_neg Bool.false_ne_true]
  have hn := down_not (c := c) g v0 (m := n / stOf us d l n) (by rw [es]; exact Int.le_refl _)
  unfold placedM
  show (if isCar us d c l (placeOf us l (n / stOf us d l n * stOf us d l n)) (rnd _ (stOf us d l (n / stOf us d l n * stOf us d l n)) s) = true then _ else (placeOf us l (n / stOf us d l n * stOf us d l n), rnd _ (stOf us d l (n / stOf us d l n * stOf us d l n)) s)) = _
  rw [es, er, hn, if_neg Bool.false_ne_true, ev]
theorem worth_val {us : List (Str × Int)} {d : Nat} {s : Str} {c : Bool} {l n : Int} (g : Good us d s l) (h0 : 0 ≤ n) :
    worthM us d s c l n = if goesUp (n / stOf us d l n) (n % stOf us d l n) (stOf us d l n) s = true then n / stOf us d l n * stOf us d l n + stOf us d l n else n / stOf us d l n * stOf us d l n := by
  rw [worth_core g h0]
  unfold rnd
  split
  · rw [Int.add_mul, Int.one_mul]
  · rfl
theorem Good.sort {us : List (Str × Int)} {d : Nat} {s t : Str} {l : Int} (g : Good us d s l) (h : t ∈ sorts) : Good us d t l := ⟨g.u, g.d3, g.div, h, g.l1, g.l2⟩
theorem cmp_abs {n st b r B w0 w1 w2 w3 : Int} (sp : 0 < st) (m0 : 0 ≤ r) (m1 : r < st) (hdm : B + r = n) (e0 : w0 = B)
    (e1 : w1 = if st ≤ 2 * r then B + st else B) (e2 : w2 = if st < 2 * r ∨ 2 * r = st ∧ b % 2 = 1 then B + st else B) (e3 : w3 = if 0 < r then B + st else B) :
    (w0 ≤ w1 ∧ w1 ≤ w3) ∧ (w0 ≤ w2 ∧ w2 ≤ w3) ∧ (w3 - w0 = if w0 = n then 0 else st) ∧ (w1 ≠ w2 → 2 * (n - w0) = st ∧ ¬ b % 2 = 1 ∧ w2 = w0) := by
  have f1 : (st ≤ 2 * r ∧ w1 = B + st) ∨ (¬ st ≤ 2 * r ∧ w1 = B) := by
    split at e1
    · exact .inl ⟨‹_›, e1⟩
    · exact .inr ⟨‹_›, e1⟩
  have f2 : ((st < 2 * r ∨ 2 * r = st ∧ b % 2 = 1) ∧ w2 = B + st) ∨ (¬ (st < 2 * r ∨ 2 * r = st ∧ b % 2 = 1) ∧ w2 = B) := by
    split at e2
    · exact .inl ⟨‹_›, e2⟩
    · exact .inr ⟨‹_›, e2⟩
  have f3 : (0 < r ∧ w3 = B + st) ∨ (¬ 0 < r ∧ w3 = B) := by
    split at e3
    · exact .inl ⟨‹_›, e3⟩
    · exact .inr ⟨‹_›, e3⟩
  clear e1 e2 e3
  refine ⟨by omega, by omega, ?_, fun hne => by omega⟩
  split <;> omega
/-- what is asked of the four worths, their base b * st, the rest r -/
structure Cmp (n st : Int) (w0 w1 w2 w3 : Int) : Prop where
  e0 : w0 = n / st * st
  o1 : w0 ≤ w1 ∧ w1 ≤ w3
  o2 : w0 ≤ w2 ∧ w2 ≤ w3
  e3 : w3 - w0 = if w0 = n then 0 else st
  ne : w1 ≠ w2 → 2 * (n - w0) = st ∧ ¬ n / st % 2 = 1 ∧ w2 = w0
theorem cmp_ok {us : List (Str × Int)} {d : Nat} {s : Str} {c : Bool} {l n : Int} (g : Good us d s l) (h0 : 0 ≤ n) : Cmp n (stOf us d l n) (worthM us d "down" c l n) (worthM us d "near" c l n) (worthM us d "even" c l n) (worthM us d "up" c l n) := by
  obtain ⟨sp, _⟩ := st_pos g h0
  have e0 := worth_val (c := c) (g.sort (t := "down") (by simp [sorts])) h0
  have e1 := worth_val (c := c) (g.sort (t := "near") (by simp [sorts])) h0
  have e2 := worth_val (c := c) (g.sort (t := "even") (by simp [sorts])) h0
  have e3 := worth_val (c := c) (g.sort (t := "up") (by simp [sorts])) h0
  have m0 := Int.emod_nonneg n (b := stOf us d l n) (by omega)
  have m1 := Int.emod_lt_of_pos n sp
  have hdm := Int.mul_ediv_add_emod n (stOf us d l n)
  rw [Int.mul_comm] at hdm
  rw [goes_down, if_neg Bool.false_ne_true] at e0
  have u1 : goesUp (n / stOf us d l n) (n % stOf us d l n) (stOf us d l n) "near" = decide (stOf us d l n ≤ 2 * (n % stOf us d l n)) := by
    unfold goesUp
    rw [if_neg (by decide +kernel), if_pos rfl]
  have u2 : goesUp (n / stOf us d l n) (n % stOf us d l n) (stOf us d l n) "even" = (decide (stOf us d l n < 2 * (n % stOf us d l n)) || (decide (2 * (n % stOf us d l n) = stOf us d l n) && decide (n / stOf us d l n % 2 = 1))) := by
    unfold goesUp
    rw [if_neg (by decide +kernel), if_neg (by decide +kernel), if_pos rfl]
  have u3 : goesUp (n / stOf us d l n) (n % stOf us d l n) (stOf us d l n) "up" = decide (0 < n % stOf us d l n) := by
    unfold goesUp
    rw [if_pos rfl]
  rw [u1] at e1
  rw [u2] at e2
  rw [u3] at e3
  simp only [decide_eq_true_eq, Bool.or_eq_true, Bool.and_eq_true] at e1 e2 e3
  obtain ⟨q1, q2, q3, q4⟩ := cmp_abs sp m0 m1 hdm e0 e1 e2 e3
  exact ⟨e0, q1, q2, q3, q4⟩
end My

namespace My
open PySem PySem.Spec PyProof.Rows L2
/-! ### stretches -/
abbrev sFirstR : Stmt := top 53
abbrev sStartOf : Stmt := top 54
abbrev sNums : Stmt := top 56
theorem scFirstR : FnScope ["mark", "step", "rounding", "middle"] ["mark", "step", "rounding"] (defScope sFirstR) := ⟨rfl, rfl, rfl, by decide +kernel, rfl, by decide +kernel, by decide +kernel⟩
theorem scStartOf : FnScope ["ladder", "place", "threshold", "step"] ["ladder", "place"] (defScope sStartOf) := ⟨rfl, rfl, rfl, by decide +kernel, rfl, by decide +kernel, by decide +kernel⟩
theorem scNums : FnScope ["ladder", "place", "mark", "step", "low", "high"] ["ladder", "place", "mark"] (defScope sNums) := ⟨rfl, rfl, rfl, by decide +kernel, rfl, by decide +kernel, by decide +kernel⟩
/-- the first number that is rounded to a mark -/
def firstR (m st : Int) (s : Str) : Int :=
  if m = 0 ∨ st = 1 ∨ s = "down" then m * st else if s = "up" then (m - 1) * st + 1 else if s = "even" ∧ m % 2 = 1 then m * st - st / 2 + 1 else m * st - st / 2
/-- the first number that is shown with the unit at p -/
def startM (us : List (Str × Int)) (d : Nat) (s : Str) (c : Bool) (l : Int) (p : Nat) : Int :=
  if p = 0 ∨ c = false then (thrsOf us l).getD p 0 else firstR ((thrsOf us l).getD p 0 / (stepsOf us d).getD (p - 1) 0) ((stepsOf us d).getD (p - 1) 0) s
def max2 (x y : Int) : Int := if y > x then y else x
def min2 (x y : Int) : Int := if y < x then y else x
def lowM (us : List (Str × Int)) (d : Nat) (s : Str) (c : Bool) (l : Int) (p : Nat) (m : Int) : Int := max2 (firstR m ((stepsOf us d).getD p 0) s) (startM us d s c l p)
def highM (us : List (Str × Int)) (d : Nat) (s : Str) (c : Bool) (l : Int) (p : Nat) (m : Int) : Int :=
  if p + 1 < us.length then min2 (firstR (m + 1) ((stepsOf us d).getD p 0) s - 1) (startM us d s c l (p + 1) - 1) else firstR (m + 1) ((stepsOf us d).getD p 0) s - 1
def spFirstR : Sp := fun vs H Q _ => ∃ (m st : Int) (s : Str), vs = [.int m, .int st, .str s] ∧ 0 < st ∧ st ≤ 1000000000000000000 ∧ Q (.int (firstR m st s)) H
def spStartOf (K : PySem.W.Frag) (C : Addr) : Sp := fun vs H Q _ => ∃ (a : Addr) (us : List (Str × Int)) (d : Nat) (s : Str) (c : Bool) (l : Int) (p : Nat), vs = [.ref a, .int (p : Int)] ∧ LadAt K C H a us d s c l ∧ Good us d s l ∧ p < us.length ∧ Q (.int (startM us d s c l p)) H
def spNums (K : PySem.W.Frag) (C : Addr) : Sp := fun vs H Q _ => ∃ (a : Addr) (us : List (Str × Int)) (d : Nat) (s : Str) (c : Bool) (l : Int) (p : Nat) (m : Int), vs = [.ref a, .int (p : Int), .int m] ∧ LadAt K C H a us d s c l ∧ Good us d s l ∧ p < us.length ∧
  (highM us d s c l p m < lowM us d s c l p m → Q .non H) ∧ (lowM us d s c l p m ≤ highM us d s c l p m → ∀ (r : Addr) (H' : Hp), Same H H' → SqT K H' r [.int (lowM us d s c l p m), .int (highM us d s c l p m)] → Q (.ref r) H')
theorem thr_get {us : List (Str × Int)} {d : Nat} {s : Str} {l : Int} (g : Good us d s l) {p : Nat} (hp : p < us.length) : (thrsOf us l)[p]? = some ((thrsOf us l).getD p 0) := by
  have e := len_thrs us l g.u.lo
  have h1 : (thrsOf us l)[p]? = some (thrsOf us l)[p] := List.getElem?_eq_getElem (by omega)
  rw [List.getD_eq_getElem?_getD, h1]
  rfl
theorem divw_small {i j : Int} (h : 0 < j) (hj : j ≤ 1000000000000000000) : CDivW i j := ⟨h, Nat.lt_of_lt_of_le (PySem.Flt.log2_lt_of (k := 64) (by decide) (by omega)) (by decide)⟩
section
variable {P : Program} {w : World} {K : PySem.W.Frag} {mg : Str → Option Value} {base : Heap}
theorem ok_firstr (d : Dd K mg "first_rounded" sFirstR ["mark", "step", "rounding"]) : FnOk P w K mg base CX0 2 d.f d.fd ["mark", "step", "rounding"] spFirstR := by
  refine d.F.ok scFirstR (fun vs H Q E h => ?_) (fun cdv A outer s H vs Q E hr h => ?_)
  · obtain ⟨_, _, _, rfl, _⟩ := h
    rfl
  · obtain ⟨m, st, z, rfl, h0, h1, q⟩ := h
    have nd := scFirstR.nd
    refine ⟨_, pss_cons (ps_if (PW.pt (pw_or (pt_cmpR op_eq (pv 0) pe_int (nomark _)) (pw_or (pt_cmpR op_eq (pv 1) pe_int (nomark _)) (pw_or1 (pt_cmpR op_eq (pv 2) pe_str (nomark _)))))) (pss_one (ps_ret (pe_op op_mul (pv 0) (pv 1)))) pss_nil)
      (pss_cons (ps_if (pt_cmpR op_eq (pv 2) pe_str (nomark _)) (pss_one (ps_ret (pe_op op_add (pe_op op_mul (pe_op op_sub (pv 0) pe_int) (pv 1)) pe_int))) pss_nil)
      (pss_cons (ps_set (i := 3) nd rfl (.inl rfl) (pe_op op_sub (pe_op op_mul (pv 0) (pv 1)) (pe_op op_fdiv (pv 1) pe_int)))
      (pss_cons (ps_if (PW.pt (pw_and (pt_cmpR op_eq (pv 2) pe_str (nomark _)) (pw_and1 (pt_cmpR op_eq (pe_op op_mod (pv 0) pe_int) pe_int (nomark _))))) (pss_one (ps_ret (pe_op op_add (pv 3) pe_int))) pss_nil)
      (pss_one (ps_ret (pv 3)))))), ?_⟩
    have hd : ∀ x : Str, decide (V.str z = V.str x) = true → z = x := fun x e => V.str.inj (of_decide_eq_true e)
    have hn : ∀ x : Str, ¬ decide (V.str z = V.str x) = true → ¬ z = x := fun x e y => e (decide_eq_true (congrArg V.str y))
    have hi : ∀ x y : Int, decide (V.int x = V.int y) = true → x = y := fun x y e => V.int.inj (of_decide_eq_true e)
    have hni : ∀ x y : Int, ¬ decide (V.int x = V.int y) = true → ¬ x = y := fun x y e k => e (decide_eq_true (congrArg V.int k))
    have first : (m = 0 ∨ st = 1 ∨ z = "down") → Q (.int (m * st)) H := fun e => by
      unfold firstR at q
      rw [if_pos e] at q
      exact q
    refine ⟨_, rfl, rfl, _, rfl, ite2 (fun e => ?_) (fun e => ?_)⟩
    · refine iteT ?_
      exact ⟨_, rfl, _, rfl, m, st, rfl, rfl, .inr ⟨by omega, by omega⟩, first (.inl (hi _ _ e))⟩
    refine ⟨_, rfl, rfl, _, rfl, ite2 (fun e1 => ?_) (fun e1 => ?_)⟩
    · refine iteT ?_
      exact ⟨_, rfl, _, rfl, m, st, rfl, rfl, .inr ⟨by omega, by omega⟩, first (.inr (.inl (hi _ _ e1)))⟩
    refine ⟨_, rfl, rfl, _, rfl, ite2 (fun e2 => ?_) (fun e2 => ?_)⟩
    · exact ⟨_, rfl, _, rfl, m, st, rfl, rfl, .inr ⟨by omega, by omega⟩, first (.inr (.inr (hd _ e2)))⟩
    unfold firstR at q
    rw [if_neg (fun y => y.elim (hni _ _ e) (fun y => y.elim (hni _ _ e1) (hn _ e2)))] at q
    refine ⟨_, rfl, rfl, _, rfl, ite2 (fun e3 => ?_) (fun e3 => ?_)⟩
    · rw [if_pos (hd _ e3)] at q
      exact ⟨_, rfl, m, 1, rfl, rfl, _, rfl, _, st, rfl, rfl, .inr ⟨by omega, by omega⟩, _, _, rfl, rfl, q⟩
    rw [if_neg (hn _ e3)] at q
    refine ⟨_, rfl, _, rfl, m, st, rfl, rfl, .inr ⟨by omega, by omega⟩, _, rfl, st, 2, rfl, rfl, ⟨by decide, by decide⟩, _, _, rfl, rfl, ?_⟩
    refine ⟨_, rfl, rfl, _, rfl, ite2 (fun e4 => ?_) (fun e4 => ?_)⟩
    · refine ⟨_, rfl, m, 2, rfl, rfl, (by show (0 : Int) < 2; decide), rfl, _, rfl, ite2 (fun e5 => ?_) (fun e5 => ?_)⟩
      · rw [if_pos ⟨hd _ e4, hi _ _ e5⟩] at q
        exact ⟨_, rfl, _, 1, rfl, rfl, q⟩
      · rw [if_neg (fun y => hni _ _ e5 y.2)] at q
        exact ⟨_, rfl, q⟩
    · rw [if_neg (fun y => hn _ e4 y.1)] at q
      exact ⟨_, rfl, q⟩
theorem ok_startof (d : Dd K mg "start_of" sStartOf ["ladder", "place"]) (dR : Dd K mg "first_rounded" sFirstR ["mark", "step", "rounding"]) (L : LadC K mg) : FnOk P w K mg base CX0 3 d.f d.fd ["ladder", "place"] (spStartOf K L.C) := by
  have GR : FnOk P w K mg base CX0 2 dR.f dR.fd ["mark", "step", "rounding"] spFirstR := ok_firstr dR
  refine d.F.ok scStartOf (fun vs H Q E h => ?_) (fun cdv A outer s H vs Q E hr h => ?_)
  · obtain ⟨_, _, _, _, _, _, _, rfl, _⟩ := h
    rfl
  · obtain ⟨a, us, dn, z, c, l, p, rfl, ⟨dx, ua, t, st, th, hp, hua, ht, hs, hth⟩, g, hlt, q⟩ := h
    have nd := scStartOf.nd
    refine ⟨_, pss_cons (ps_set (i := 2) nd rfl (.inl rfl) (pe_ix ix_tup (pe_fld (pv 0) rfl) (pv 1) (fun _ _ => rfl)))
      (pss_cons (ps_if (PW.pt (pw_or (pt_cmpR op_eq (pv 1) pe_int (nomark _)) (pw_or1 (pt_not (pt_val (pe_fld (pv 0) rfl)))))) (pss_one (ps_ret (pv 2))) pss_nil)
      (pss_cons (ps_set (i := 3) nd rfl (.inl rfl) (pe_ix ix_tup (pe_fld (pv 0) rfl) (pe_op op_sub (pv 1) pe_int) (fun _ _ => rfl)))
      (pss_one (ps_ret (pe_call GR hr (by rfl) dR.g dR.F.kp dR.b .nil pass0 (pa_cons (pe_op op_fdivW (pv 2) (pv 3)) (pa_cons (pv 3) (pa_cons (pe_fld (pv 0) rfl) pa_nil)))))))), ?_⟩
    have ht0 := thr_get g hlt
    unfold startM at q
    refine ⟨_, rfl, a, L.C, dx, _, _, rfl, hp, L.cl, L.nThr, fl_thr .., _, rfl, th, _, p, .int ((thrsOf us l).getD p 0), rfl, rfl, hth, atI_nat (by rw [List.getElem?_map, ht0]; rfl), ?_⟩
    refine ⟨_, rfl, rfl, _, rfl, ite2 (fun e => ?_) (fun e => ?_)⟩
    · have e0 : p = 0 := by have := V.int.inj (of_decide_eq_true e); omega
      rw [if_pos (.inl e0)] at q
      exact iteT ⟨_, rfl, q⟩
    have e0 : ¬ p = 0 := fun y => e (decide_eq_true (by rw [y]; rfl))
    refine ⟨_, rfl, a, L.C, dx, _, _, rfl, hp, L.cl, L.nCarry, fl_carry .., _, rfl, ?_⟩
    cases c with
    | false =>
      rw [if_pos (.inr rfl)] at q
      exact iteT ⟨_, rfl, q⟩
    | true =>
      rw [if_neg (fun y => y.elim e0 (fun y => Bool.noConfusion y))] at q
      refine iteF ?_
      obtain ⟨k1, k2, k3⟩ := steps_ok g (p := p - 1) (by omega)
      have ep : (p : Int) - 1 = ((p - 1 : Nat) : Int) := by omega
      refine ⟨_, rfl, a, L.C, dx, _, _, rfl, hp, L.cl, L.nSteps, fl_steps .., _, rfl, p, 1, rfl, rfl, st, _, ((p - 1 : Nat) : Int), .int ((stepsOf us dn).getD (p - 1) 0), rfl, congrArg V.int ep, hs, atI_nat (by rw [List.getElem?_map, k1]; rfl), ?_⟩
      refine ⟨_, rfl, _, rfl, _, _, rfl, rfl, divw_small k2 k3, _, rfl, _, rfl, a, L.C, dx, _, _, rfl, hp, L.cl, L.nRnd, fl_rnd .., _, _, z, rfl, k2, k3, q⟩
theorem ok_nums (d : Dd K mg "numbers_shown" sNums ["ladder", "place", "mark"]) (dS : Dd K mg "start_of" sStartOf ["ladder", "place"]) (dR : Dd K mg "first_rounded" sFirstR ["mark", "step", "rounding"]) (L : LadC K mg) (B : Bt mg) : FnOk P w K mg base CX0 4 d.f d.fd ["ladder", "place", "mark"] (spNums K L.C) := by
  have GR : FnOk P w K mg base CX0 2 dR.f dR.fd ["mark", "step", "rounding"] spFirstR := ok_firstr dR
  have GS : FnOk P w K mg base CX0 3 dS.f dS.fd ["ladder", "place"] (spStartOf K L.C) := ok_startof dS dR L
  refine d.F.ok scNums (fun vs H Q E h => ?_) (fun cdv A outer s H vs Q E hr h => ?_)
  · obtain ⟨_, _, _, _, _, _, _, _, rfl, _⟩ := h
    rfl
  · obtain ⟨a, us, dn, z, c, l, p, m, rfl, hL, g, hlt, q0, q1⟩ := h
    have nd := scNums.nd
    have hr1 : Room 2 _ := hr.mono (by decide)
    refine ⟨_, pss_cons (ps_set (i := 3) nd rfl (.inl rfl) (pe_ix ix_tup (pe_fld (pv 0) rfl) (pv 1) (fun _ _ => rfl)))
      (pss_cons (ps_set (i := 4) nd rfl (.inl rfl) (pe_callB (call_max2 rfl) (by rfl) B.max (by decide +kernel) (pa_cons (pe_call GR hr1 (by rfl) dR.g dR.F.kp dR.b .nil pass0 (pa_cons (pv 2) (pa_cons (pv 3) (pa_cons (pe_fld (pv 0) rfl) pa_nil)))) (pa_cons (pe_call GS hr (by rfl) dS.g dS.F.kp dS.b .nil pass0 (pa_cons (pv 0) (pa_cons (pv 1) pa_nil))) pa_nil))))
      (pss_cons (ps_set (i := 5) nd rfl (.inl rfl) (pe_op op_sub (pe_call GR hr1 (by rfl) dR.g dR.F.kp dR.b .nil pass0 (pa_cons (pe_op op_add (pv 2) pe_int) (pa_cons (pv 3) (pa_cons (pe_fld (pv 0) rfl) pa_nil)))) pe_int))
      (pss_cons (ps_if (pt_cmpR op_lt (pe_op op_add (pv 1) pe_int) (pe_callB call_len_seq (by rfl) B.len PySem.boot_len (pa_cons (pe_fld (pv 0) rfl) pa_nil)) (nomark _))
          (pss_one (ps_set (i := 5) nd rfl (.inl rfl) (pe_callB (call_min2 rfl) (by rfl) B.min (by decide +kernel) (pa_cons (pv 5) (pa_cons (pe_op op_sub (pe_call GS hr (by rfl) dS.g dS.F.kp dS.b .nil pass0 (pa_cons (pv 0) (pa_cons (pe_op op_add (pv 1) pe_int) pa_nil))) pe_int) pa_nil))))) pss_nil)
      (pss_cons (ps_if (pt_cmpR op_gt (pv 4) (pv 5) (nomark _)) (pss_one (ps_ret pe_non)) pss_nil)
      (pss_one (ps_ret (pe_tup (pa_cons (pv 4) (pa_cons (pv 5) pa_nil))))))))), ?_⟩
    obtain ⟨dx, ua, t, st, th, hp, ⟨ps, hua, hu⟩, ht, hs, hth⟩ := id hL
    have el := UP.len hu
    obtain ⟨k1, k2, k3⟩ := steps_ok g hlt
    refine ⟨_, rfl, a, L.C, dx, _, _, rfl, hp, L.cl, L.nSteps, fl_steps .., _, rfl, st, _, p, .int ((stepsOf us dn).getD p 0), rfl, rfl, hs, atI_nat (by rw [List.getElem?_map, k1]; rfl), ?_⟩
    refine ⟨_, rfl, _, rfl, _, rfl, a, L.C, dx, _, _, rfl, hp, L.cl, L.nRnd, fl_rnd .., m, _, z, rfl, k2, k3, ?_⟩
    refine ⟨_, rfl, _, rfl, a, us, dn, z, c, l, p, rfl, hL, g, hlt, ?_⟩
    refine ⟨_, _, rfl, ?_⟩
    refine ⟨_, rfl, m, 1, rfl, rfl, _, rfl, _, rfl, a, L.C, dx, _, _, rfl, hp, L.cl, L.nRnd, fl_rnd .., _, _, z, rfl, k2, k3, _, 1, rfl, rfl, ?_⟩
    refine ⟨_, rfl, p, 1, rfl, rfl, _, rfl, a, L.C, dx, _, _, rfl, hp, L.cl, L.nUnits, fl_units .., ua, _, rfl, .inr hua, _, _, rfl, rfl, _, rfl, ite2 (fun e => ?_) (fun e => ?_)⟩
    · have e1 : ((p : Int) + 1 < ((ps.map V.ref).length : Int)) := of_decide_eq_true e
      rw [List.length_map, el] at e1
      have hp1 : p + 1 < us.length := by omega
      have ep : (p : Int) + 1 = ((p + 1 : Nat) : Int) := by omega
      unfold highM at q0 q1
      rw [if_pos hp1] at q0 q1
      refine ⟨_, rfl, _, rfl, _, rfl, p, 1, rfl, rfl, a, us, dn, z, c, l, p + 1, rfl, hL, g, hp1, _, 1, rfl, rfl, _, _, rfl, ?_⟩
      refine ⟨_, rfl, _, rfl, _, _, rfl, rfl, _, rfl, ite2 (fun e2 => ?_) (fun e2 => ?_)⟩
      · exact q0 (of_decide_eq_true e2)
      · refine ⟨_, rfl, _, rfl, (by show 2 ≤ sizeLine; decide), fun r nr => ?_⟩
        exact q1 (Int.not_lt.mp fun y => e2 (decide_eq_true y)) r _ (same_upd nr) (SqT.of upd_same)
    · have e1 : ¬ ((p : Int) + 1 < ((ps.map V.ref).length : Int)) := fun y => e (decide_eq_true y)
      rw [List.length_map, el] at e1
      have hp1 : ¬ p + 1 < us.length := by omega
      unfold highM at q0 q1
      rw [if_neg hp1] at q0 q1
      refine ⟨_, rfl, _, rfl, _, _, rfl, rfl, _, rfl, ite2 (fun e2 => ?_) (fun e2 => ?_)⟩
      · exact q0 (of_decide_eq_true e2)
      · refine ⟨_, rfl, _, rfl, (by show 2 ≤ sizeLine; decide), fun r nr => ?_⟩
        exact q1 (Int.not_lt.mp fun y => e2 (decide_eq_true y)) r _ (same_upd nr) (SqT.of upd_same)
end
end My

namespace My
open PySem PySem.Spec PyProof.Rows L2
abbrev sHidden : Stmt := top 68
theorem scHidden : FnScope ["ladder", "number", "unit", "mark", "low", "high"] ["ladder", "number"] (defScope sHidden) := ⟨rfl, rfl, rfl, by decide +kernel, rfl, by decide +kernel, by decide +kernel⟩
def spHidden (K : PySem.W.Frag) (C : Addr) : Sp := fun vs H Q _ => ∃ (a : Addr) (us : List (Str × Int)) (d : Nat) (s : Str) (c : Bool) (l n : Int), vs = [.ref a, .int n] ∧ LadAt K C H a us d s c l ∧ Good us d s l ∧ 0 ≤ n ∧ n ≤ 1000000000000000000 ∧
  lowM us d s c l (placedM us d s c l n).1 (placedM us d s c l n).2 ≤ highM us d s c l (placedM us d s c l n).1 (placedM us d s c l n).2 ∧
  ∀ (r : Addr) (H' : Hp), Same H H' → SqT K H' r [.int (n - lowM us d s c l (placedM us d s c l n).1 (placedM us d s c l n).2), .int (highM us d s c l (placedM us d s c l n).1 (placedM us d s c l n).2 - n)] → Q (.ref r) H'
section
variable {P : Program} {w : World} {K : PySem.W.Frag} {mg : Str → Option Value} {base : Heap}
theorem ok_hidden (d : Dd K mg "hidden" sHidden ["ladder", "number"]) (dL : Dd K mg "check_ladder" sCLad ["ladder"]) (dN : Dd K mg "check_number" sCNum ["number"]) (dW : DdW K mg) (dP : Dd K mg "placed" sPlaced ["ladder", "number"])
    (dR : Dd K mg "rounded" sRounded ["number", "step", "rounding"]) (dG : Dd K mg "goes_up" sGoes ["below", "rest", "step", "rounding"]) (dC : Dd K mg "is_carried" sCar ["ladder", "place", "mark"])
    (dM : Dd K mg "numbers_shown" sNums ["ladder", "place", "mark"]) (dS : Dd K mg "start_of" sStartOf ["ladder", "place"]) (dF : Dd K mg "first_rounded" sFirstR ["mark", "step", "rounding"])
    (L : LadC K mg) (I : LadI K L.C) (B : Bt mg) (G : Gc K mg) : FnOk P w K mg base CX0 5 d.f d.fd ["ladder", "number"] (spHidden K L.C) := by
  have GL : FnOk P w K mg base CX0 2 dL.f dL.fd ["ladder"] (spCLad K L.C) := ok_clad dL L I B
  have GN : FnOk P w K mg base CX0 3 dN.f dN.fd ["number"] spCNum := ok_cnum dN dW B G
  have GP : FnOk P w K mg base CX0 4 dP.f dP.fd ["ladder", "number"] (spPlaced K L.C) := ok_placed dP dR dG dC L B
  have GM : FnOk P w K mg base CX0 4 dM.f dM.fd ["ladder", "place", "mark"] (spNums K L.C) := ok_nums dM dS dF L B
  refine d.F.ok scHidden (fun vs H Q E h => ?_) (fun cdv A outer s H vs Q E hr h => ?_)
  · obtain ⟨_, _, _, _, _, _, _, rfl, _⟩ := h
    rfl
  · obtain ⟨a, us, dn, z, c, l, n, rfl, hL, g, h0, h1, hle, q⟩ := h
    have hr1 : Room 2 _ := hr.mono (by decide)
    have hr2 : Room 3 _ := hr.mono (by decide)
    have nd := scHidden.nd
    refine ⟨_, pss_cons (ps_expr (pe_call GL hr1 (by rfl) dL.g dL.F.kp dL.b .nil pass0 (pa_cons (pv 0) pa_nil)))
      (pss_cons (ps_expr (pe_call GN hr2 (by rfl) dN.g dN.F.kp dN.b .nil pass0 (pa_cons (pv 1) pa_nil)))
      (pss_cons (ps_asg (pe_call GP hr (by rfl) dP.g dP.F.kp dP.b .nil pass0 (pa_cons (pv 0) (pa_cons (pv 1) pa_nil))) (pg_tup rfl (pgs_cons (pg_name (i := 2) nd rfl (.inl rfl)) (pgs_cons (pg_name (i := 3) nd rfl (.inl rfl)) pgs_nil))))
      (pss_cons (ps_asg (pe_call GM hr (by rfl) dM.g dM.F.kp dM.b .nil pass0 (pa_cons (pv 0) (pa_cons (pv 2) (pa_cons (pv 3) pa_nil)))) (pg_tup rfl (pgs_cons (pg_name (i := 4) nd rfl (.inl rfl)) (pgs_cons (pg_name (i := 5) nd rfl (.inl rfl)) pgs_nil))))
      (pss_one (ps_ret (pe_tup (pa_cons (pe_op op_sub (pv 1) (pv 4)) (pa_cons (pe_op op_sub (pv 5) (pv 1)) pa_nil)))))))), ?_⟩
    obtain ⟨k1, k2, k3⟩ := placedM_ok (c := c) g h0
    refine ⟨_, rfl, a, us, dn, z, c, l, rfl, hL, _, rfl, n, rfl, h0, h1, ?_⟩
    refine ⟨_, rfl, _, rfl, a, us, dn, z, c, l, n, rfl, hL, g, h0, fun r H1 s1 hr' => ?_⟩
    refine ⟨r, _, rfl, hr', rfl, _, _, rfl, _, _, rfl, rfl, ?_⟩
    refine ⟨_, rfl, _, rfl, _, rfl, a, us, dn, z, c, l, _, _, rfl, hL.same s1, g, k1, fun y => absurd y (Int.not_lt.mpr hle), fun _ r2 H2 s2 hr2' => ?_⟩
    refine ⟨r2, _, rfl, hr2', rfl, _, _, rfl, _, _, rfl, rfl, ?_⟩
    refine ⟨_, rfl, _, rfl, _, _, rfl, rfl, _, rfl, _, rfl, _, _, rfl, rfl, (by show 2 ≤ sizeLine; decide), fun r3 nr3 => ?_⟩
    exact q r3 _ ((s1.trans s2).trans (same_upd nr3)) (SqT.of upd_same)
end
end My

namespace My
open PySem PySem.Spec PyProof.Rows L2
theorem small_place {us : List (Str × Int)} {d : Nat} {s : Str} {l n : Int} (g : Good us d s l) (h0 : 0 ≤ n) (h : us.length = 1 ∨ n < l * szOf us 1) : placeOf us l n = 0 := by
  have hpl := place_lt g h0
  rcases Nat.eq_zero_or_pos (placeOf us l n) with z | z
  · exact z
  · exfalso
    have h1 : 1 < us.length := by omega
    have hr := (reached (n := n) g.u g.l1 h0 h1).mpr z
    rcases hr with y | y
    · cases y
    · rcases h with k | k
      · omega
      · rw [Int.mul_comm] at y
        omega
theorem step_zero (us : List (Str × Int)) (d : Nat) : (stepsOf us d).getD 0 0 = 1 := rfl
theorem thr_zero (us : List (Str × Int)) (l : Int) : (thrsOf us l).getD 0 0 = 0 := rfl
theorem firstR_one (m : Int) (s : Str) : firstR m 1 s = m := by
  unfold firstR
  rw [if_pos (.inr (.inl rfl)), Int.mul_one]
theorem start_one (us : List (Str × Int)) (d : Nat) (s : Str) (c : Bool) (l : Int) : startM us d s c l 1 = (thrsOf us l).getD 1 0 := by
  unfold startM
  split
  · rfl
  · rw [Nat.sub_self, step_zero, firstR_one, Int.ediv_one]
theorem ends_small {us : List (Str × Int)} {d : Nat} {s : Str} {c : Bool} {l n : Int} (g : Good us d s l) (h0 : 0 ≤ n) (h : placeOf us l n = 0) : lowM us d s c l 0 n = n ∧ highM us d s c l 0 n = n := by
  constructor
  · unfold lowM
    have e : startM us d s c l 0 = 0 := by
      unfold startM
      rw [if_pos (.inl rfl)]
      rfl
    rw [step_zero, firstR_one, e]
    unfold max2
    split <;> omega
  · unfold highM
    rw [step_zero, firstR_one]
    split
    · rename_i h1
      have hn := next_thr g h0 (by rw [h]; exact h1)
      rw [h] at hn
      have hn' : n < (thrsOf us l).getD 1 0 := hn
      rw [start_one]
      unfold min2
      split <;> omega
    · omega
/-- steps ascend -/
theorem step_up {us : List (Str × Int)} {d : Nat} {s : Str} {l : Int} (g : Good us d s l) {p : Nat} (h : p + 1 < us.length) : (stepsOf us d).getD p 0 ≤ (stepsOf us d).getD (p + 1) 0 := by
  have h1 := (steps_ok g h).2.1
  rcases Nat.eq_zero_or_pos p with z | z
  · subst z
    rw [step_zero]
    omega
  · have hz0 := sz_step g (k := p) z (by omega)
    have hz1 := sz_step g (k := p + 1) (by omega) h
    have hup := sz_up g.u h
    rw [hz0, hz1] at hup
    exact Int.le_of_lt (Int.lt_of_mul_lt_mul_right hup (Int.le_of_lt (pow_lo d)))
theorem placed_step {us : List (Str × Int)} {d : Nat} {s : Str} {c : Bool} {l n : Int} (g : Good us d s l) (h0 : 0 ≤ n) : stOf us d l n ≤ (stepsOf us d).getD (placedM us d s c l n).1 0 := by
  unfold placedM
  split
  · rename_i e
    exact step_up g (isCar_lt e)
  · exact Int.le_refl _
theorem dist47 {us : List (Str × Int)} {d : Nat} {s : Str} {c : Bool} {l n : Int} (g : Good us d s l) (h0 : 0 ≤ n) : n - stOf us d l n < worthM us d s c l n ∧ worthM us d s c l n < n + stOf us d l n ∧ (stOf us d l n = 1 → worthM us d s c l n = n) := by
  obtain ⟨sp, _⟩ := st_pos g h0
  have e0 := worth_val (c := c) g h0
  have m0 := Int.emod_nonneg n (b := stOf us d l n) (by omega)
  have m1 := Int.emod_lt_of_pos n sp
  have hdm := Int.mul_ediv_add_emod n (stOf us d l n)
  rw [Int.mul_comm] at hdm
  have hz : n % stOf us d l n = 0 → goesUp (n / stOf us d l n) (n % stOf us d l n) (stOf us d l n) s = false := fun y => by rw [y]; exact goes_zero sp
  split at e0
  · rename_i hg
    have hr : n % stOf us d l n ≠ 0 := fun y => by
      rw [hz y] at hg
      cases hg
    refine ⟨by omega, by omega, fun y => by omega⟩
  · refine ⟨by omega, by omega, fun y => by omega⟩
/-- the step of the law -/
theorem law_step {us : List (Str × Int)} {d p : Nat} (hp : p < us.length) : (stepsOf us d).getD p 0 = if p = 0 then 1 else szOf us p / 10 ^ d := by
  split
  · rename_i h
    subst h
    rfl
  · exact step_at (by omega) hp
theorem last_place {us : List (Str × Int)} {d : Nat} {s : Str} {l n : Int} (g : Good us d s l) (h0 : 0 ≤ n) (h : szOf us (us.length - 1) * l ≤ n) : placeOf us l n = us.length - 1 := by
  have hlo := g.u.lo
  have h1 := (reached (n := n) g.u g.l1 h0 (show us.length - 1 < us.length by omega)).mp (.inr h)
  have h2 := place_lt g h0
  omega
theorem last_sz_pos {us : List (Str × Int)} (g : GoodUs us) {i : Nat} (h : i < us.length) : 1 ≤ szOf us i ∧ szOf us i ≤ 1000000000000000000 := by
  have h1 : us[i]? = some us[i] := List.getElem?_eq_getElem h
  rw [szOf_at h1]
  have := g.each i _ h1
  exact ⟨this.2.1, this.2.2.1⟩
theorem last_same {us : List (Str × Int)} {d : Nat} {s : Str} {c : Bool} {l l2 n : Int} (g : Good us d s l) (g2 : Good us d s l2) (hl : l ≤ l2) (h0 : 0 ≤ n) (h : l2 * szOf us (us.length - 1) ≤ n) : shown us d s c l2 n = shown us d s c l n := by
  have hlo := g.u.lo
  have hs := (last_sz_pos g.u (show us.length - 1 < us.length by omega)).1
  rw [Int.mul_comm] at h
  have a2 := last_place g2 h0 h
  have h' : szOf us (us.length - 1) * l ≤ szOf us (us.length - 1) * l2 := Int.mul_le_mul_of_nonneg_left hl (by omega)
  have a1 := last_place g h0 (by omega)
  have nc : ∀ l' m, isCar us d c l' (us.length - 1) m = false := fun l' m => by
    unfold isCar
    rw [decide_eq_false (show ¬ us.length - 1 + 1 < us.length by omega), Bool.false_and, Bool.and_false]
  have e : placedM us d s c l2 n = placedM us d s c l n := by
    unfold placedM
    rw [a1, a2, nc, nc]
  unfold shown
  rw [e]
theorem unit_mono {us : List (Str × Int)} {d : Nat} {s : Str} {c : Bool} {l l2 n : Int} (g : Good us d s l) (g2 : Good us d s l2) (hl : l ≤ l2) (h0 : 0 ≤ n) : (placedM us d s c l2 n).1 ≤ (placedM us d s c l n).1 := by
  have hpl2 := place_lt g2 h0
  have hle : placeOf us l2 n ≤ placeOf us l n := by
    have h2 := (reached (n := n) g2.u g2.l1 h0 hpl2).mpr (Nat.le_refl _)
    refine (reached (n := n) g.u g.l1 h0 hpl2).mp ?_
    rcases h2 with y | y
    · exact .inl y
    · have hs := (last_sz_pos g.u hpl2).1
      have h' : szOf us (placeOf us l2 n) * l ≤ szOf us (placeOf us l2 n) * l2 := Int.mul_le_mul_of_nonneg_left hl (by omega)
      exact .inr (by omega)
  have b1 : placeOf us l n ≤ (placedM us d s c l n).1 := by
    unfold placedM
    split
    · exact Nat.le_succ _
    · exact Nat.le_refl _
  rcases Nat.lt_or_ge (placeOf us l2 n) (placeOf us l n) with z | z
  · have b2 : (placedM us d s c l2 n).1 ≤ placeOf us l2 n + 1 := by
      unfold placedM
      split
      · exact Nat.le_refl _
      · exact Nat.le_succ _
    omega
  · have ee : placeOf us l2 n = placeOf us l n := by omega
    unfold placedM
    rw [ee]
    cases ec2 : isCar us d c l2 (placeOf us l n) (rnd n ((stepsOf us d).getD (placeOf us l n) 0) s) with
    | false =>
      rw [if_neg Bool.false_ne_true]
      split
      · exact Nat.le_succ _
      · exact Nat.le_refl _
    | true =>
      rw [if_pos rfl]
      have hp1 := isCar_lt ec2
      have ec1 : isCar us d c l (placeOf us l n) (rnd n ((stepsOf us d).getD (placeOf us l n) 0) s) = true := by
        unfold isCar at ec2 ⊢
        rw [Bool.and_eq_true, Bool.and_eq_true] at ec2 ⊢
        refine ⟨ec2.1, ec2.2.1, decide_eq_true ?_⟩
        have h2 := of_decide_eq_true ec2.2.2
        have t1 : (thrsOf us l).getD (placeOf us l n + 1) 0 = szOf us (placeOf us l n + 1) * l := by rw [List.getD_eq_getElem?_getD, thr_at (by omega) hp1]; rfl
        have t2 : (thrsOf us l2).getD (placeOf us l n + 1) 0 = szOf us (placeOf us l n + 1) * l2 := by rw [List.getD_eq_getElem?_getD, thr_at (by omega) hp1]; rfl
        rw [t2] at h2
        rw [t1]
        have hs := (last_sz_pos g.u hp1).1
        have h' : szOf us (placeOf us l n + 1) * l ≤ szOf us (placeOf us l n + 1) * l2 := Int.mul_le_mul_of_nonneg_left hl (by omega)
        omega
      rw [ec1, if_pos rfl]
      exact Nat.le_refl _
/-- another name for the first unit -/
def oneU : Str × Int := ("one", 1)
def plainUs (us : List (Str × Int)) : List (Str × Int) := oneU :: us.drop 1
theorem plain_len {us : List (Str × Int)} (h : 1 ≤ us.length) : (plainUs us).length = us.length := by
  unfold plainUs
  rw [List.length_cons, List.length_drop]
  omega
theorem plain_get (us : List (Str × Int)) (k : Nat) : (plainUs us)[k + 1]? = us[k + 1]? := by
  unfold plainUs
  rw [List.getElem?_cons_succ, List.getElem?_drop, Nat.add_comm 1 k]
theorem plain_take (us : List (Str × Int)) (k : Nat) : ∀ v ∈ (plainUs us).take (k + 1), v = oneU ∨ v ∈ us.take (k + 1) := by
  intro v hv
  unfold plainUs at hv
  rw [List.take_succ_cons] at hv
  rcases List.mem_cons.mp hv with z | z
  · exact .inl z
  · right
    cases us with
    | nil => simp at z
    | cons u r =>
      rw [List.take_succ_cons]
      exact List.mem_cons_of_mem _ z
theorem good_one : GoodN "one" := ⟨by decide +kernel, by decide +kernel, by decide +kernel, by decide +kernel⟩
theorem first_size {us : List (Str × Int)} (g : GoodUs us) : ∃ u, us[0]? = some u ∧ u.2 = 1 := by
  have h00 : 0 < us.length := g.lo
  have h : us[0]? = some us[0] := List.getElem?_eq_getElem h00
  refine ⟨_, h, ?_⟩
  obtain ⟨_, _, _, hf⟩ := g.each 0 _ h
  rcases hf with ⟨_, e⟩ | ⟨l, hl, hne, _⟩
  · exact e
  · exact absurd rfl hne
theorem plain_good {us : List (Str × Int)} {d : Nat} {s : Str} {l : Int} (g : Good us d s l) (hn : NoOne us) : Good (plainUs us) d s l := by
  have hlen := plain_len g.u.lo
  refine ⟨⟨by rw [hlen]; exact g.u.lo, by rw [hlen]; exact g.u.hi, fun i u hu => ?_⟩, g.d3, g.div, g.srt, g.l1, g.l2⟩
  cases i with
  | zero =>
    have e : oneU = u := Option.some.inj hu
    subst e
    exact ⟨good_one, by decide, by decide, .inl ⟨rfl, rfl⟩⟩
  | succ k =>
    rw [plain_get] at hu
    obtain ⟨k1, k2, k3, hf⟩ := g.u.each (k + 1) u hu
    refine ⟨k1, k2, k3, ?_⟩
    have hk : k + 1 < us.length := (List.getElem?_eq_some_iff.mp hu).1
    have el : (us.take (k + 1)).length = k + 1 := by rw [List.length_take]; omega
    have el2 : ((plainUs us).take (k + 1)).length = k + 1 := by rw [List.length_take, hlen]; omega
    rcases hf with ⟨e, _⟩ | ⟨w, hw, hne, h0, h1, h2, h3⟩
    · rw [e] at el
      cases el
    · rw [el, Nat.add_sub_cancel, List.getElem?_take, if_pos (Nat.lt_succ_self k)] at hw
      have hnm : ∀ v ∈ (plainUs us).take (k + 1), v.1 ≠ u.1 := fun v hv => by
        rcases plain_take us k v hv with z | z
        · subst z
          exact fun e => (hn u (List.mem_of_getElem? hu)).1.1 e.symm
        · exact h3 v z
      have hne2 : (plainUs us).take (k + 1) ≠ [] := fun e => by
        rw [e] at el2
        cases el2
      refine .inr ?_
      rw [el2, Nat.add_sub_cancel, List.getElem?_take, if_pos (Nat.lt_succ_self k)]
      cases k with
      | zero =>
        obtain ⟨u0, e0, e1⟩ := first_size g.u
        rw [e0] at hw
        have ew : u0 = w := Option.some.inj hw
        subst ew
        refine ⟨oneU, rfl, hne2, by decide, ?_, Int.emod_one _, hnm⟩
        show (1 : Int) < u.2
        omega
      | succ j =>
        rw [plain_get]
        exact ⟨w, hw, hne2, h0, h1, h2, hnm⟩
theorem plain_shown {us : List (Str × Int)} {d : Nat} {s : Str} {c : Bool} {l n : Int} (g : Good us d s l) (hp : 0 < (placedM us d s c l n).1) : shown (plainUs us) d s c l n = shown us d s c l n := by
  have hlen := plain_len g.u.lo
  have ec : ∀ p m, isCar (plainUs us) d c l p m = isCar us d c l p m := fun p m => by
    unfold isCar
    rw [hlen]
    rfl
  have ep : placedM (plainUs us) d s c l n = placedM us d s c l n := by
    unfold placedM
    rw [ec]
    rfl
  unfold shown
  rw [ep]
  generalize placedM us d s c l n = pm at hp
  obtain ⟨p, m⟩ := pm
  obtain ⟨j, rfl⟩ : ∃ j, p = j + 1 := ⟨p - 1, by show p = p - 1 + 1; have : 0 < p := hp; omega⟩
  have en : ((plainUs us).getD (j + 1) ("", 0)).1 = (us.getD (j + 1) ("", 0)).1 := by
    rw [List.getD_eq_getElem?_getD, List.getD_eq_getElem?_getD, plain_get]
  unfold writ
  rw [en]
end My

namespace My
open PySem PySem.Spec PyProof.Rows L2
/-! ### ranges -/
theorem rnd_ge_core {b r st m X : Int} {s : Str} (hs : s ∈ sorts) (h2 : st % 2 = 0) (h0 : 0 < st) (r0 : 0 ≤ r) (r1 : r < st) (m0 : 1 ≤ m)
    (k1 : m ≤ b → X ≤ b * st) (k2 : m = b + 1 → X = b * st + st) (k3 : b + 2 ≤ m → b * st + 2 * st ≤ X) :
    m ≤ (if goesUp b r st s = true then b + 1 else b) ↔ (if s = "down" then X else if s = "up" then X - st + 1 else if s = "even" ∧ m % 2 = 1 then X - st / 2 + 1 else X - st / 2) ≤ b * st + r := by
  generalize b * st = B at k1 k2 k3 ⊢
  have hh : st = 2 * (st / 2) := by omega
  generalize st / 2 = h at hh ⊢
  unfold sorts at hs
  simp only [List.mem_cons, List.not_mem_nil, or_false] at hs
  rcases goes_cases b r st s with ⟨e, eg⟩ | ⟨e, eg⟩ | ⟨e, eg⟩ | ⟨n1, n2, n3, eg⟩
  · subst e
    rw [eg, if_neg (show ¬ (("up" : Str) = "down") by decide +kernel), if_pos rfl]
    by_cases c : 0 < r
    · rw [decide_eq_true c, if_pos rfl]
      omega
    · rw [decide_eq_false c, if_neg Bool.false_ne_true]
      omega
  · subst e
    have e3 : ¬ (("near" : Str) = "even" ∧ m % 2 = 1) := fun y => absurd y.1 (by decide +kernel)
    rw [eg, if_neg (show ¬ (("near" : Str) = "down") by decide +kernel), if_neg (show ¬ (("near" : Str) = "up") by decide +kernel), if_neg e3]
    by_cases c : st ≤ 2 * r
    · rw [decide_eq_true c, if_pos rfl]
      omega
    · rw [decide_eq_false c, if_neg Bool.false_ne_true]
      omega
  · subst e
    rw [eg, if_neg (show ¬ (("even" : Str) = "down") by decide +kernel), if_neg (show ¬ (("even" : Str) = "up") by decide +kernel)]
    by_cases c : st < 2 * r
    · rw [decide_eq_true c, Bool.true_or, if_pos rfl]
      split <;> omega
    · rw [decide_eq_false c, Bool.false_or]
      by_cases c2 : 2 * r = st
      · rw [decide_eq_true c2, Bool.true_and]
        by_cases c3 : b % 2 = 1
        · rw [decide_eq_true c3, if_pos rfl]
          split <;> rename_i c4
          · have := c4.2
            omega
          · have : ¬ m % 2 = 1 := fun y => c4 ⟨rfl, y⟩
            omega
        · rw [decide_eq_false c3, if_neg Bool.false_ne_true]
          split <;> rename_i c4
          · have := c4.2
            omega
          · have : ¬ m % 2 = 1 := fun y => c4 ⟨rfl, y⟩
            omega
      · rw [decide_eq_false c2, Bool.false_and, if_neg Bool.false_ne_true]
        split <;> omega
  · rcases hs with e | e | e | e
    · subst e
      rw [eg, if_neg Bool.false_ne_true, if_pos rfl]
      omega
    · exact absurd e n1
    · exact absurd e n2
    · exact absurd e n3
theorem rnd_nn {n st : Int} {s : Str} (h0 : 0 ≤ n) (h1 : 0 < st) : 0 ≤ rnd n st s := (rnd_lo h0 h1).1
/-- a number is rounded to m or more exactly from the first one on -/
theorem rnd_ge {n st m : Int} {s : Str} (hs : s ∈ sorts) (h2 : st = 1 ∨ st % 2 = 0) (h0 : 0 < st) (n0 : 0 ≤ n) (m0 : 0 ≤ m) : m ≤ rnd n st s ↔ firstR m st s ≤ n := by
  rcases Int.lt_or_le 0 m with hm | hm
  · rcases h2 with h2 | h2
    · subst h2
      rw [rnd_one, firstR_one]
    · have m1 := Int.emod_nonneg n (b := st) (by omega)
      have m2 := Int.emod_lt_of_pos n h0
      have hdm := Int.mul_ediv_add_emod n st
      rw [Int.mul_comm] at hdm
      have core := rnd_ge_core (b := n / st) (r := n % st) (X := m * st) hs h2 h0 m1 m2 (by omega) (fun y => Int.mul_le_mul_of_nonneg_right y (by omega))
        (fun y => by rw [y, Int.add_mul, Int.one_mul]) (fun y => by
          have := Int.mul_le_mul_of_nonneg_right (c := st) y (by omega)
          rw [Int.add_mul] at this
          exact this)
      rw [hdm] at core
      have e : firstR m st s = (if s = "down" then m * st else if s = "up" then m * st - st + 1 else if s = "even" ∧ m % 2 = 1 then m * st - st / 2 + 1 else m * st - st / 2) := by
        unfold firstR
        have e1 : ¬ m = 0 := by omega
        have e2 : ¬ st = 1 := by omega
        by_cases c : s = "down"
        · rw [if_pos (.inr (.inr c)), if_pos c]
        · rw [if_neg (fun y => y.elim e1 (fun y => y.elim e2 c)), if_neg c, Int.sub_mul, Int.one_mul]
      rw [e]
      exact core
  · have e : m = 0 := by omega
    subst e
    have e2 : firstR 0 st s = 0 := by
      unfold firstR
      rw [if_pos (.inl rfl), Int.zero_mul]
    rw [e2]
    exact ⟨fun _ => n0, fun _ => rnd_nn n0 h0⟩
theorem firstR_nn {m st : Int} {s : Str} (h0 : 0 < st) (m0 : 0 ≤ m) : 0 ≤ firstR m st s := by
  have hm := Int.mul_nonneg m0 (show 0 ≤ st by omega)
  unfold firstR
  split
  · exact hm
  · rename_i c
    have m1 : 1 ≤ m := by
      rcases Int.lt_or_le 0 m with z | z
      · omega
      · exact absurd (.inl (by omega)) c
    have h1 : 1 * st ≤ m * st := Int.mul_le_mul_of_nonneg_right m1 (by omega)
    have h2 : 0 ≤ (m - 1) * st := Int.mul_nonneg (by omega) (by omega)
    have h3 : st / 2 ≤ st := Int.ediv_le_self _ (by omega)
    split
    · omega
    · split <;> omega
theorem step_even {us : List (Str × Int)} {d : Nat} {s : Str} {l : Int} (g : Good us d s l) {p : Nat} (hp : p < us.length) : (stepsOf us d).getD p 0 = 1 ∨ (stepsOf us d).getD p 0 % 2 = 0 := by
  rcases Nat.eq_zero_or_pos p with z | z
  · subst z
    exact .inl rfl
  · right
    rw [step_at z hp]
    obtain ⟨j, rfl⟩ : ∃ j, p = j + 1 := ⟨p - 1, by omega⟩
    have hu : us[j + 1]? = some us[j + 1] := List.getElem?_eq_getElem hp
    have hm : us[j + 1] ∈ us.drop 1 := List.mem_of_getElem? (i := j) (by rw [List.getElem?_drop, Nat.add_comm 1 j]; exact hu)
    have hz := g.div _ hm
    rw [szOf_at hu]
    have hp := pow_lo d
    obtain ⟨q, hq⟩ := Int.dvd_of_emod_eq_zero hz
    have e4 : us[j + 1].2 / 10 ^ d = 2 * q := by
      rw [hq, show (2 * 10 ^ d * q : Int) = 2 * q * 10 ^ d by rw [Int.mul_assoc, Int.mul_assoc, Int.mul_comm (10 ^ d) q]]
      exact Int.mul_ediv_cancel _ (by omega)
    rw [e4]
    omega
theorem thr_eq {us : List (Str × Int)} {l : Int} {p : Nat} (h1 : 1 ≤ p) (hp : p < us.length) : (thrsOf us l).getD p 0 = szOf us p * l := by
  rw [List.getD_eq_getElem?_getD, thr_at h1 hp]
  rfl
/-- a threshold is so many steps, of its own unit and of the one before -/
theorem thr_steps {us : List (Str × Int)} {d : Nat} {s : Str} {l : Int} (g : Good us d s l) {p : Nat} (h1 : 1 ≤ p) (hp : p < us.length) :
    (∃ k : Int, 0 ≤ k ∧ (thrsOf us l).getD p 0 = k * (stepsOf us d).getD p 0) ∧ ∃ k : Int, 0 ≤ k ∧ (thrsOf us l).getD p 0 = k * (stepsOf us d).getD (p - 1) 0 := by
  have hl := g.l1
  have hsz := (last_sz_pos g.u hp).1
  have pw := pow_lo d
  rw [thr_eq h1 hp]
  constructor
  · refine ⟨10 ^ d * l, Int.mul_nonneg (by omega) (by omega), ?_⟩
    rw [sz_step g h1 hp, Int.mul_assoc, Int.mul_comm]
  · obtain ⟨j, rfl⟩ : ∃ j, p = j + 1 := ⟨p - 1, by omega⟩
    rw [Nat.add_sub_cancel]
    rcases Nat.eq_zero_or_pos j with z | z
    · subst z
      have hsz1 : 1 ≤ szOf us 1 := hsz
      refine ⟨szOf us 1 * l, Int.mul_nonneg (by omega) (by omega), ?_⟩
      rw [step_zero, Int.mul_one]
    · obtain ⟨q, hq⟩ := sz_dvd g.u hp
      have hst := (steps_ok g (show j < us.length by omega)).2.1
      have hz0 := sz_step g z (show j < us.length by omega)
      have hsz0 := (last_sz_pos g.u (show j < us.length by omega)).1
      have hq0 : 0 ≤ q := by
        rcases Int.lt_or_le q 0 with y | y
        · exfalso
          have : szOf us j * q ≤ 0 := Int.mul_nonpos_of_nonneg_of_nonpos (by omega) (by omega)
          omega
        · exact y
      refine ⟨10 ^ d * q * l, Int.mul_nonneg (Int.mul_nonneg (by omega) hq0) (by omega), ?_⟩
      rw [hq, hz0]
      rw [Int.mul_assoc, Int.mul_assoc, Int.mul_assoc, Int.mul_assoc, Int.mul_comm ((stepsOf us d).getD j 0), Int.mul_assoc, Int.mul_assoc]
theorem placed_snd (us : List (Str × Int)) (d : Nat) (s : Str) (c : Bool) (l n : Int) : (placedM us d s c l n).2 = rnd n ((stepsOf us d).getD (placedM us d s c l n).1 0) s := by
  unfold placedM
  split <;> rfl
theorem placed_ge (us : List (Str × Int)) (d : Nat) (s : Str) (c : Bool) (l n : Int) : placeOf us l n ≤ (placedM us d s c l n).1 ∧ (placedM us d s c l n).1 ≤ placeOf us l n + 1 := by
  unfold placedM
  split
  · exact ⟨Nat.le_succ _, Nat.le_refl _⟩
  · exact ⟨Nat.le_refl _, Nat.le_succ _⟩
theorem placed_nocarry {us : List (Str × Int)} {d : Nat} {s : Str} {l n : Int} : (placedM us d s false l n).1 = placeOf us l n := by
  unfold placedM
  have e : isCar us d false l (placeOf us l n) (rnd n ((stepsOf us d).getD (placeOf us l n) 0) s) = false := by
    unfold isCar
    rw [Bool.false_and]
  rw [e, if_neg Bool.false_ne_true]
theorem rnd_below {n st k : Int} {s : Str} (h0 : 0 < st) (h : n < k * st) : rnd n st s ≤ k := by
  have hb : n / st < k := Int.ediv_lt_of_lt_mul h0 h
  unfold rnd
  split <;> omega
theorem rnd_above {n st k : Int} {s : Str} (h0 : 0 < st) (h : k * st ≤ n) : k ≤ rnd n st s := by
  have hb : k ≤ n / st := (Int.le_ediv_iff_mul_le h0).mpr h
  unfold rnd
  split <;> omega
/-- a unit is reached exactly from its first number on -/
theorem place_ge {us : List (Str × Int)} {d : Nat} {s : Str} {c : Bool} {l n : Int} (g : Good us d s l) (n0 : 0 ≤ n) {p : Nat} (hp : p < us.length) : p ≤ (placedM us d s c l n).1 ↔ startM us d s c l p ≤ n := by
  rcases Nat.eq_zero_or_pos p with z | z
  · subst z
    have e : startM us d s c l 0 = 0 := by
      unfold startM
      rw [if_pos (.inl rfl)]
      rfl
    rw [e]
    exact ⟨fun _ => n0, fun _ => Nat.zero_le _⟩
  · have hre := reached (n := n) g.u g.l1 n0 hp
    cases c with
    | false =>
      have e : startM us d s false l p = szOf us p * l := by
        unfold startM
        rw [if_pos (.inr rfl), thr_eq z hp]
      rw [e, placed_nocarry, ← hre]
      exact ⟨fun y => y.elim (fun y => by omega) id, .inr⟩
    | true =>
      obtain ⟨⟨k', hk0', hk'⟩, k, hk0, hk⟩ := thr_steps g z hp
      obtain ⟨_, s1, _⟩ := steps_ok g (show p - 1 < us.length by omega)
      have e : startM us d s true l p = firstR k ((stepsOf us d).getD (p - 1) 0) s := by
        unfold startM
        rw [if_neg (fun y => y.elim (fun y => by omega) (fun y => Bool.noConfusion y)), hk, Int.mul_ediv_cancel _ (by omega)]
      have gal := rnd_ge (n := n) (m := k) (s := s) g.srt (step_even g (show p - 1 < us.length by omega)) s1 n0 hk0
      rw [e, ← gal]
      obtain ⟨ge1, ge2⟩ := placed_ge us d s true l n
      have hpl := place_lt g n0
      constructor
      · intro hle
        rcases Nat.lt_or_ge (placeOf us l n) p with y | y
        · have ep : p = placeOf us l n + 1 := by omega
          -- it was carried
          cases ec : isCar us d true l (placeOf us l n) (rnd n ((stepsOf us d).getD (placeOf us l n) 0) s) with
          | false =>
            exfalso
            unfold placedM at hle
            rw [ec, if_neg Bool.false_ne_true] at hle
            have : p ≤ placeOf us l n := hle
            omega
          | true =>
            unfold isCar at ec
            rw [Bool.and_eq_true, Bool.and_eq_true] at ec
            have h1 := of_decide_eq_true ec.2.2
            rw [← ep, hk, show placeOf us l n = p - 1 by omega] at h1
            exact Int.le_of_mul_le_mul_right h1 s1
        · have h1 := hre.mpr y
          rcases h1 with h1 | h1
          · omega
          · rw [← thr_eq z hp, hk] at h1
            exact rnd_above s1 h1
      · intro hle
        rcases Nat.lt_or_ge (placeOf us l n) p with y | y
        · have hnt := next_thr g n0 (show placeOf us l n + 1 < us.length by omega)
          rcases Nat.lt_or_ge (placeOf us l n + 1) p with y2 | y2
          · exfalso
            -- the threshold of p - 1 is not reached
            have hp1 : p - 1 < us.length := by omega
            obtain ⟨⟨j, hj0, hj⟩, _⟩ := thr_steps g (show 1 ≤ p - 1 by omega) hp1
            have hn1 : n < (thrsOf us l).getD (p - 1) 0 := by
              rw [thr_eq (by omega) hp1]
              rcases Int.lt_or_le n (szOf us (p - 1) * l) with w | w
              · exact w
              · have := (reached (n := n) g.u g.l1 n0 hp1).mp (.inr w)
                omega
            rw [hj] at hn1
            have hb := rnd_below (s := s) s1 hn1
            have hlt : (thrsOf us l).getD (p - 1) 0 < (thrsOf us l).getD p 0 := by
              rw [thr_eq (by omega) hp1, thr_eq z hp]
              have hup := sz_up g.u (i := p - 1) (by omega)
              rw [show p - 1 + 1 = p by omega] at hup
              exact Int.mul_lt_mul_of_pos_right hup (by have := g.l1; omega)
            rw [hj, hk] at hlt
            have := Int.lt_of_mul_lt_mul_right hlt (by omega)
            omega
          · have ep : p = placeOf us l n + 1 := by omega
            have ec : isCar us d true l (placeOf us l n) (rnd n ((stepsOf us d).getD (placeOf us l n) 0) s) = true := by
              unfold isCar
              rw [Bool.true_and, Bool.and_eq_true]
              refine ⟨decide_eq_true (by omega), decide_eq_true ?_⟩
              rw [← ep, hk, show placeOf us l n = p - 1 by omega]
              exact Int.mul_le_mul_of_nonneg_right hle (by omega)
            unfold placedM
            rw [ec, if_pos rfl]
            show p ≤ placeOf us l n + 1
            omega
        · omega
theorem max2_le {x y n : Int} : max2 x y ≤ n ↔ x ≤ n ∧ y ≤ n := by
  unfold max2
  split <;> omega
theorem le_min2 {x y n : Int} : n ≤ min2 x y ↔ n ≤ x ∧ n ≤ y := by
  unfold min2
  split <;> omega
/-- the numbers of a figure are those from its low end to its high end -/
theorem range_iff {us : List (Str × Int)} {d : Nat} {s : Str} {c : Bool} {l n : Int} (g : Good us d s l) (n0 : 0 ≤ n) {p : Nat} {m : Int} (hp : p < us.length) (m0 : 0 ≤ m) :
    placedM us d s c l n = (p, m) ↔ lowM us d s c l p m ≤ n ∧ n ≤ highM us d s c l p m := by
  have h1 := place_ge (c := c) g n0 hp
  obtain ⟨_, s1, _⟩ := steps_ok g hp
  have r1 := rnd_ge (n := n) (m := m) (s := s) g.srt (step_even g hp) s1 n0 m0
  have r2 := rnd_ge (n := n) (m := m + 1) (s := s) g.srt (step_even g hp) s1 n0 (by omega)
  have hlt := (placedM_ok (c := c) g n0).1
  have es := placed_snd us d s c l n
  unfold lowM highM
  rw [max2_le]
  constructor
  · intro e
    rw [e] at h1 es
    have h1' := h1.mp (Nat.le_refl _)
    have es' : m = rnd n ((stepsOf us d).getD p 0) s := es
    refine ⟨⟨r1.mp (by omega), h1'⟩, ?_⟩
    have hr : ¬ firstR (m + 1) ((stepsOf us d).getD p 0) s ≤ n := fun y => by have := r2.mpr y; omega
    split
    · rename_i hp1
      have h2 := place_ge (c := c) g n0 hp1
      rw [e] at h2
      have : ¬ startM us d s c l (p + 1) ≤ n := fun y => by have : p + 1 ≤ p := h2.mpr y; omega
      rw [le_min2]
      omega
    · omega
  · rintro ⟨⟨h3, h4⟩, h5⟩
    have ge := h1.mpr h4
    have h6 : n < firstR (m + 1) ((stepsOf us d).getD p 0) s ∧ (p + 1 < us.length → n < startM us d s c l (p + 1)) := by
      split at h5
      · rw [le_min2] at h5
        exact ⟨by omega, fun _ => by omega⟩
      · rename_i hc
        exact ⟨by omega, fun y => absurd y hc⟩
    have le : (placedM us d s c l n).1 ≤ p := by
      rcases Nat.lt_or_ge p (placedM us d s c l n).1 with y | y
      · exfalso
        have hp1 : p + 1 < us.length := by omega
        have h2 := (place_ge (c := c) g n0 hp1).mp y
        have := h6.2 hp1
        omega
      · exact y
    have e1 : (placedM us d s c l n).1 = p := by omega
    rw [e1] at es
    have e2 : (placedM us d s c l n).2 = m := by
      have a1 := r1.mpr h3
      have a2 : ¬ m + 1 ≤ rnd n ((stepsOf us d).getD p 0) s := fun y => by have := r2.mp y; omega
      omega
    rw [← e1, ← e2]
theorem start_nn {us : List (Str × Int)} {d : Nat} {s : Str} {c : Bool} {l : Int} (g : Good us d s l) {p : Nat} (hp : p < us.length) : 0 ≤ startM us d s c l p := by
  have ht : 0 ≤ (thrsOf us l).getD p 0 := by
    rcases Nat.eq_zero_or_pos p with z | z
    · subst z
      exact Int.le_refl 0
    · rw [thr_eq z hp]
      have := (last_sz_pos g.u hp).1
      have := g.l1
      exact Int.mul_nonneg (by omega) (by omega)
  unfold startM
  split
  · exact ht
  · have hs := (steps_ok g (show p - 1 < us.length by omega)).2.1
    exact firstR_nn hs (Int.ediv_nonneg ht (by omega))
theorem low_nn {us : List (Str × Int)} {d : Nat} {s : Str} {c : Bool} {l : Int} (g : Good us d s l) {p : Nat} (hp : p < us.length) (m : Int) : 0 ≤ lowM us d s c l p m := by
  have := start_nn (c := c) g hp
  unfold lowM max2
  split <;> omega
end My

namespace My
open PySem PySem.Spec PyProof.Rows L2
/-! ### figures are told apart -/
theorem name_at {us : List (Str × Int)} {p : Nat} (hp : p < us.length) : (us.getD p ("", 0)).1 = us[p].1 := by
  rw [List.getD_eq_getElem?_getD, List.getElem?_eq_getElem hp]
  rfl
theorem writ_ahead {us : List (Str × Int)} {d p : Nat} {m : Int} (g : GoodUs us) (hp : p < us.length) (hm : 0 ≤ m) : (Txt.rstripChars (writ us d p m) letters).cps.toList = ahead d p m := by
  have hu : us[p]? = some us[p] := List.getElem?_eq_getElem hp
  have gn := (g.each p _ hu).1
  have wc := writ_codes (us := us) (d := d) (p := p) (m := m)
  rw [name_at hp] at wc
  refine rstrip_name wc (fun c hc => ?_) (ahead_last hm)
  have := gn.2.2.2
  rw [List.all_eq_true] at this
  exact this c hc
theorem writ_inj {us : List (Str × Int)} {d p p' : Nat} {m m' : Int} (g : GoodUs us) (hd : d ≤ 3) (hp : p < us.length) (hp' : p' < us.length) (hm : 0 ≤ m) (hm' : 0 ≤ m') (h1 : m < 10 ^ 40) (h2 : m' < 10 ^ 40) (e : writ us d p m = writ us d p' m') : p = p' ∧ m = m' := by
  have ea : ahead d p m = ahead d p' m' := by rw [← writ_ahead g hp hm, ← writ_ahead g hp' hm', e]
  have wc := writ_codes (us := us) (d := d) (p := p) (m := m)
  have wc' := writ_codes (us := us) (d := d) (p := p') (m := m')
  rw [e, ea, wc'] at wc
  have en : (us.getD p' ("", 0)).1.cps.toList = (us.getD p ("", 0)).1.cps.toList := List.append_cancel_left wc
  rw [name_at hp, name_at hp'] at en
  have en2 : us[p'].1 = us[p].1 := str_ext en
  constructor
  · rcases Nat.lt_trichotomy p p' with y | y | y
    · exact absurd en2.symm (names_apart g y (List.getElem?_eq_getElem hp) (List.getElem?_eq_getElem hp'))
    · exact y
    · exact absurd en2 (names_apart g y (List.getElem?_eq_getElem hp') (List.getElem?_eq_getElem hp))
  · obtain ⟨n, ef, hn⟩ := ahead_filter (d := d) (p := p) hm
    obtain ⟨n', ef', hn'⟩ := ahead_filter (d := d) (p := p') hm'
    rw [ea, ef'] at ef
    have l1 := dg_small (m := m) (by omega)
    have l2 := dg_small (m := m') (by omega)
    have b1 := int_back (t := ⟨(List.replicate n 48 ++ dg m).toArray⟩) (n := n) hm rfl (by
      rw [str_len]
      show (List.replicate n 48 ++ dg m).length ≤ 4300
      rw [List.length_append, List.length_replicate]
      omega)
    have b2 := int_back (t := ⟨(List.replicate n 48 ++ dg m).toArray⟩) (n := n') hm' ef.symm (by
      rw [str_len]
      show (List.replicate n 48 ++ dg m).length ≤ 4300
      rw [List.length_append, List.length_replicate]
      omega)
    rw [b1] at b2
    exact Option.some.inj b2
/-! ### range_of, next_figure, previous_figure -/
abbrev sRangeOf : Stmt := top 67
abbrev sRShown : Stmt := top 77
theorem scRangeOf : FnScope ["ladder", "text", "unit", "mark"] ["ladder", "text"] (defScope sRangeOf) := ⟨rfl, rfl, rfl, by decide +kernel, rfl, by decide +kernel, by decide +kernel⟩
theorem scRShown : FnScope ["ladder", "text", "found"] ["ladder", "text"] (defScope sRShown) := ⟨rfl, rfl, rfl, by decide +kernel, rfl, by decide +kernel, by decide +kernel⟩
def spRangeOf (K : PySem.W.Frag) (C : Addr) : Sp := fun vs H Q _ => ∃ (a : Addr) (us : List (Str × Int)) (d : Nat) (s : Str) (c : Bool) (l : Int) (p : Nat) (m : Int), vs = [.ref a, .str (writ us d p m)] ∧ LadAt K C H a us d s c l ∧ Good us d s l ∧ p < us.length ∧ 0 ≤ m ∧ m < 10 ^ 24 ∧
  (highM us d s c l p m < lowM us d s c l p m → ∀ H', Same H H' → Q .non H') ∧ (lowM us d s c l p m ≤ highM us d s c l p m → ∀ (r : Addr) (H' : Hp), Same H H' → SqT K H' r [.int (lowM us d s c l p m), .int (highM us d s c l p m)] → Q (.ref r) H')
/-- of a figure that is shown -/
def spRShown (K : PySem.W.Frag) (C : Addr) : Sp := fun vs H Q _ => ∃ (a : Addr) (us : List (Str × Int)) (d : Nat) (s : Str) (c : Bool) (l : Int) (p : Nat) (m : Int), vs = [.ref a, .str (writ us d p m)] ∧ LadAt K C H a us d s c l ∧ Good us d s l ∧ p < us.length ∧ 0 ≤ m ∧ m < 10 ^ 24 ∧
  lowM us d s c l p m ≤ highM us d s c l p m ∧ ∀ (r : Addr) (H' : Hp), Same H H' → SqT K H' r [.int (lowM us d s c l p m), .int (highM us d s c l p m)] → Q (.ref r) H'
section
variable {P : Program} {w : World} {K : PySem.W.Frag} {mg : Str → Option Value} {base : Heap}
theorem ok_rangeof {C : Addr} (d : Dd K mg "range_of" sRangeOf ["ladder", "text"]) (dF : Dd K mg "parts_of_figure" sPFig ["ladder", "text"]) (dC : Dd K mg "check_ladder" sCLad ["ladder"]) (dM : Dd K mg "numbers_shown" sNums ["ladder", "place", "mark"])
    (GF : FnOk P w K mg base CX0 4 dF.f dF.fd ["ladder", "text"] (spPartsOf K C)) (GC : FnOk P w K mg base CX0 2 dC.f dC.fd ["ladder"] (spCLad K C)) (GM : FnOk P w K mg base CX0 4 dM.f dM.fd ["ladder", "place", "mark"] (spNums K C)) :
    FnOk P w K mg base CX0 5 d.f d.fd ["ladder", "text"] (spRangeOf K C) := by
  refine d.F.ok scRangeOf (fun vs H Q E h => ?_) (fun cdv A outer s H vs Q E hr h => ?_)
  · obtain ⟨_, _, _, _, _, _, _, _, rfl, _⟩ := h
    rfl
  · obtain ⟨a, us, dn, z, c, l, p, m, rfl, hL, g, hlt, hm, hm2, q0, q1⟩ := h
    have hr1 : Room 2 _ := hr.mono (by decide)
    have nd := scRangeOf.nd
    refine ⟨_, pss_cons (ps_expr (pe_call GC hr1 (by rfl) dC.g dC.F.kp dC.b .nil pass0 (pa_cons (pv 0) pa_nil)))
      (pss_cons (ps_asg (pe_call GF hr (by rfl) dF.g dF.F.kp dF.b .nil pass0 (pa_cons (pv 0) (pa_cons (pv 1) pa_nil))) (pg_tup rfl (pgs_cons (pg_name (i := 2) nd rfl (.inl rfl)) (pgs_cons (pg_name (i := 3) nd rfl (.inl rfl)) pgs_nil))))
      (pss_one (ps_ret (pe_call GM hr (by rfl) dM.g dM.F.kp dM.b .nil pass0 (pa_cons (pv 0) (pa_cons (pv 2) (pa_cons (pv 3) pa_nil))))))), ?_⟩
    refine ⟨_, rfl, a, us, dn, z, c, l, rfl, hL, _, rfl, _, rfl, a, us, dn, z, c, l, p, m, rfl, hL, g, hlt, hm, hm2, fun r H1 s1 hr' => ?_⟩
    refine ⟨r, _, rfl, hr', rfl, _, _, rfl, _, _, rfl, rfl, ?_⟩
    exact ⟨_, rfl, _, rfl, _, rfl, a, us, dn, z, c, l, p, m, rfl, hL.same s1, g, hlt, fun y => q0 y H1 s1, fun y r2 H2 s2 hr2 => q1 y r2 H2 (s1.trans s2) hr2⟩
theorem ok_rshown {C : Addr} (d : Dd K mg "range_of_shown" sRShown ["ladder", "text"]) (dR : Dd K mg "range_of" sRangeOf ["ladder", "text"]) (GR : FnOk P w K mg base CX0 5 dR.f dR.fd ["ladder", "text"] (spRangeOf K C)) :
    FnOk P w K mg base CX0 6 d.f d.fd ["ladder", "text"] (spRShown K C) := by
  refine d.F.ok scRShown (fun vs H Q E h => ?_) (fun cdv A outer s H vs Q E hr h => ?_)
  · obtain ⟨_, _, _, _, _, _, _, _, rfl, _⟩ := h
    rfl
  · obtain ⟨a, us, dn, z, c, l, p, m, rfl, hL, g, hlt, hm, hm2, hle, q⟩ := h
    have nd := scRShown.nd
    refine ⟨_, pss_cons (ps_set (i := 2) nd rfl (.inl rfl) (pe_call GR hr (by rfl) dR.g dR.F.kp dR.b .nil pass0 (pa_cons (pv 0) (pa_cons (pv 1) pa_nil))))
      (pss_cons (ps_if (pt_cmp (pc_isN (pv 2))) (pss_one ps_never) pss_nil) (pss_one (ps_ret (pv 2)))), ?_⟩
    refine ⟨_, rfl, _, rfl, a, us, dn, z, c, l, p, m, rfl, hL, g, hlt, hm, hm2, fun y => absurd y (Int.not_lt.mpr hle), fun _ r H1 s1 hr1 => ?_⟩
    exact ⟨_, rfl, _, rfl, iteF ⟨_, rfl, q r H1 s1 hr1⟩⟩
end
end My

namespace My
open PySem PySem.Spec PyProof.Rows L2
theorem firstR_hi {m st : Int} {s : Str} (h0 : 0 < st) : firstR m st s ≤ m * st := by
  have h3 : 0 ≤ st / 2 := by omega
  unfold firstR
  split
  · exact Int.le_refl _
  · rename_i c
    split
    · rw [Int.sub_mul, Int.one_mul]
      omega
    · have h4 : st ≠ 1 := fun y => c (.inr (.inl y))
      split <;> omega
theorem firstR_lo {m st : Int} {s : Str} (h0 : 0 < st) : m * st - st ≤ firstR m st s := by
  have h3 : st / 2 ≤ st := Int.ediv_le_self _ (by omega)
  unfold firstR
  split
  · omega
  · split
    · rw [Int.sub_mul, Int.one_mul]
      omega
    · split <;> omega
theorem ends_width {us : List (Str × Int)} {d : Nat} {s : Str} {c : Bool} {l : Int} (g : Good us d s l) {p : Nat} (hp : p < us.length) (m : Int) : highM us d s c l p m + 1 - lowM us d s c l p m ≤ 2000000000000000000 := by
  obtain ⟨_, s1, s2⟩ := steps_ok g hp
  have h1 := firstR_hi (m := m + 1) (s := s) s1
  have h2 := firstR_lo (m := m) (s := s) s1
  rw [Int.add_mul, Int.one_mul] at h1
  have h3 : highM us d s c l p m ≤ firstR (m + 1) ((stepsOf us d).getD p 0) s - 1 := by
    unfold highM
    split
    · unfold min2
      split <;> omega
    · exact Int.le_refl _
  have h4 : firstR m ((stepsOf us d).getD p 0) s ≤ lowM us d s c l p m := by
    unfold lowM max2
    split <;> omega
  omega
theorem in_range {us : List (Str × Int)} {d : Nat} {s : Str} {c : Bool} {l n : Int} (g : Good us d s l) (n0 : 0 ≤ n) {p : Nat} {m : Int} (e : placedM us d s c l n = (p, m)) : lowM us d s c l p m ≤ n ∧ n ≤ highM us d s c l p m := by
  obtain ⟨k1, k2, k3⟩ := placedM_ok (c := c) g n0
  rw [e] at k1 k2
  exact (range_iff g n0 k1 k2).mp e
theorem shown_in {us : List (Str × Int)} {d : Nat} {s : Str} {c : Bool} {l x : Int} (g : Good us d s l) (x0 : 0 ≤ x) {p : Nat} {m : Int} (hp : p < us.length) (hm : 0 ≤ m) (h1 : lowM us d s c l p m ≤ x) (h2 : x ≤ highM us d s c l p m) : shown us d s c l x = writ us d p m := by
  have e := (range_iff g x0 hp hm).mpr ⟨h1, h2⟩
  unfold shown
  rw [e]
theorem shown_is {us : List (Str × Int)} {d : Nat} {s : Str} {c : Bool} {l x : Int} (g : Good us d s l) (x0 : 0 ≤ x) (x1 : x ≤ 1000000000000000000000000000000) {p : Nat} {m : Int} (hp : p < us.length) (hm : 0 ≤ m) (hm2 : m < 10 ^ 40) (e : shown us d s c l x = writ us d p m) : lowM us d s c l p m ≤ x ∧ x ≤ highM us d s c l p m := by
  obtain ⟨k1, k2, k3⟩ := placedM_ok (c := c) g x0
  unfold shown at e
  obtain ⟨e1, e2⟩ := writ_inj g.u g.d3 k1 hp k2 hm (by omega) hm2 e
  exact (range_iff g x0 hp hm).mp (by rw [← e1, ← e2])
theorem shown_out {us : List (Str × Int)} {d : Nat} {s : Str} {c : Bool} {l x : Int} (g : Good us d s l) (x0 : 0 ≤ x) (x1 : x ≤ 1000000000000000000000000000000) {p : Nat} {m : Int} (hp : p < us.length) (hm : 0 ≤ m) (hm2 : m < 10 ^ 40) (h : x < lowM us d s c l p m ∨ highM us d s c l p m < x) : shown us d s c l x ≠ writ us d p m := fun e => by
  have := shown_is g x0 x1 hp hm hm2 e
  omega
end My

namespace My
open PySem PySem.Spec PyProof.Rows L2
/-! ### places of figures -/
theorem firstR_strict {m st : Int} {s : Str} (h0 : 0 < st) (h2 : st = 1 ∨ st % 2 = 0) (m0 : 0 ≤ m) : firstR m st s < firstR (m + 1) st s := by
  have e : (m + 1) * st = m * st + st := by rw [Int.add_mul, Int.one_mul]
  have e' : (m + 1 - 1) * st = m * st := by rw [Int.add_sub_cancel]
  rcases h2 with h2 | h2
  · subst h2
    rw [firstR_one, firstR_one]
    omega
  · have hh : st = 2 * (st / 2) := by omega
    have z : m = 0 → m * st = 0 := fun y => by rw [y, Int.zero_mul]
    unfold firstR
    rw [e, e']
    have e3 : (m - 1) * st = m * st - st := by rw [Int.sub_mul, Int.one_mul]
    rw [e3]
    generalize m * st = X at *
    split <;> rename_i c1
    · have c1' : m = 0 ∨ s = "down" := by
        rcases c1 with y | y | y
        · exact .inl y
        · omega
        · exact .inr y
      split <;> rename_i c2
      · omega
      · rcases c1' with y | y
        · have := z y
          (repeat' split) <;> omega
        · exact absurd (.inr (.inr y)) c2
    · have c2 : ¬ (m + 1 = 0 ∨ st = 1 ∨ s = "down") := fun y => y.elim (fun y => by omega) (fun y => c1 (.inr y))
      rw [if_neg c2]
      (repeat' split) <;> omega
theorem rnd_mono {n n' st : Int} {s : Str} (hs : s ∈ sorts) (h2 : st = 1 ∨ st % 2 = 0) (h0 : 0 < st) (n0 : 0 ≤ n) (h : n ≤ n') : rnd n st s ≤ rnd n' st s := by
  have r0 := rnd_nn (s := s) n0 h0
  have h1 := (rnd_ge hs h2 h0 n0 r0).mp (Int.le_refl _)
  exact (rnd_ge hs h2 h0 (by omega) r0).mpr (by omega)
theorem rnd_succ {n st : Int} {s : Str} (hs : s ∈ sorts) (h2 : st = 1 ∨ st % 2 = 0) (h0 : 0 < st) (n0 : 0 ≤ n) : rnd n st s ≤ rnd (n + 1) st s ∧ rnd (n + 1) st s ≤ rnd n st s + 1 := by
  refine ⟨rnd_mono hs h2 h0 n0 (by omega), ?_⟩
  have r0 := rnd_nn (s := s) n0 h0
  rcases Int.lt_or_le (rnd n st s + 1) (rnd (n + 1) st s) with y | y
  · exfalso
    have h1 := (rnd_ge (m := rnd n st s + 1 + 1) hs h2 h0 (show 0 ≤ n + 1 by omega) (by omega)).mp (by omega)
    have h3 := firstR_strict (m := rnd n st s + 1) (s := s) h0 h2 (by omega)
    have h4 := (rnd_ge (m := rnd n st s + 1) hs h2 h0 n0 (by omega)).mpr (by omega)
    omega
  · exact y
section
variable {us : List (Str × Int)} {d : Nat} {s : Str} {c : Bool} {l : Int}
/-- the first mark and the last mark of a unit -/
def fmM (us : List (Str × Int)) (d : Nat) (l : Int) (p : Nat) : Int := (thrsOf us l).getD p 0 / (stepsOf us d).getD p 0
def lmM (us : List (Str × Int)) (d : Nat) (s : Str) (c : Bool) (l : Int) (p : Nat) : Int := rnd (startM us d s c l (p + 1) - 1) ((stepsOf us d).getD p 0) s
def FU (us : List (Str × Int)) (d : Nat) (s : Str) (c : Bool) (l : Int) : Nat → Int
  | 0 => 0
  | p + 1 => FU us d s c l p + (lmM us d s c l p - fmM us d l p + 1)
def idxM (us : List (Str × Int)) (d : Nat) (s : Str) (c : Bool) (l : Int) (pm : Nat × Int) : Int := FU us d s c l pm.1 + pm.2 - fmM us d l pm.1
def fbM (us : List (Str × Int)) (d : Nat) (s : Str) (c : Bool) (l n : Int) : Int := idxM us d s c l (placedM us d s c l n)
theorem thr_fm (g : Good us d s l) {p : Nat} (hp : p < us.length) : (thrsOf us l).getD p 0 = fmM us d l p * (stepsOf us d).getD p 0 ∧ 0 ≤ fmM us d l p := by
  unfold fmM
  obtain ⟨_, s1, _⟩ := steps_ok g hp
  rcases Nat.eq_zero_or_pos p with z | z
  · subst z
    exact ⟨rfl, by show (0 : Int) ≤ 0 / 1; decide⟩
  · obtain ⟨⟨k, hk0, hk⟩, _⟩ := thr_steps g z hp
    rw [hk, Int.mul_ediv_cancel _ (by omega)]
    exact ⟨rfl, hk0⟩
theorem fm_le (g : Good us d s l) {p : Nat} (hp : p < us.length) : fmM us d l p ≤ 1000000 := by
  rcases Nat.eq_zero_or_pos p with z | z
  · subst z
    show (0 : Int) / 1 ≤ _
    decide
  · unfold fmM
    obtain ⟨_, s1, _⟩ := steps_ok g hp
    rw [thr_eq z hp, sz_step g z hp, Int.mul_assoc, Int.mul_ediv_cancel_left _ (by omega)]
    have h1 := pow_hi g.d3
    have h2 := g.l2
    have h3 := g.l1
    have h4 := pow_lo d
    have : (10 ^ d * l : Int) ≤ 1000 * 1000 := Int.mul_le_mul h1 h2 (by omega) (by decide)
    omega
/-- a unit begins with the mark of its threshold -/
theorem start_le_thr (g : Good us d s l) {p : Nat} (hp : p < us.length) : startM us d s c l p ≤ (thrsOf us l).getD p 0 := by
  unfold startM
  split
  · exact Int.le_refl _
  · rename_i hc
    have z : 1 ≤ p := by
      rcases Nat.eq_zero_or_pos p with y | y
      · exact absurd (.inl y) hc
      · exact y
    obtain ⟨_, s1, _⟩ := steps_ok g (show p - 1 < us.length by omega)
    obtain ⟨_, k, hk0, hk⟩ := thr_steps g z hp
    rw [hk, Int.mul_ediv_cancel _ (by omega)]
    exact firstR_hi s1
theorem start_mark (g : Good us d s l) {p : Nat} (hp : p < us.length) : rnd (startM us d s c l p) ((stepsOf us d).getD p 0) s = fmM us d l p := by
  obtain ⟨_, s1, _⟩ := steps_ok g hp
  obtain ⟨ht, hf0⟩ := thr_fm g hp
  have h2 := step_even g hp
  have hle := start_le_thr (c := c) g hp
  have hnn := start_nn (c := c) g hp
  have a1 : ¬ fmM us d l p + 1 ≤ rnd (startM us d s c l p) ((stepsOf us d).getD p 0) s := fun y => by
    have h3 := (rnd_ge g.srt h2 s1 hnn (by omega)).mp y
    have h4 := firstR_strict (s := s) s1 h2 hf0
    have h5 := firstR_lo (m := fmM us d l p + 1) (s := s) s1
    rw [Int.add_mul, Int.one_mul] at h5
    rcases h2 with e1 | e1
    · rw [e1, firstR_one] at h3
      rw [e1, Int.mul_one] at ht
      omega
    · have h6 : fmM us d l p * (stepsOf us d).getD p 0 < firstR (fmM us d l p + 1) ((stepsOf us d).getD p 0) s := by
        have e3 : (fmM us d l p + 1) * (stepsOf us d).getD p 0 = fmM us d l p * (stepsOf us d).getD p 0 + (stepsOf us d).getD p 0 := by rw [Int.add_mul, Int.one_mul]
        have e4 : (fmM us d l p + 1 - 1) * (stepsOf us d).getD p 0 = fmM us d l p * (stepsOf us d).getD p 0 := by rw [Int.add_sub_cancel]
        unfold firstR
        rw [e3, e4]
        split
        · omega
        · split
          · omega
          · split <;> omega
      omega
  have a2 : fmM us d l p ≤ rnd (startM us d s c l p) ((stepsOf us d).getD p 0) s := by
    refine (rnd_ge g.srt h2 s1 hnn hf0).mpr ?_
    unfold startM
    split
    · rw [ht]
      exact firstR_hi s1
    · rename_i hc
      have z : 1 ≤ p := by
        rcases Nat.eq_zero_or_pos p with y | y
        · exact absurd (.inl y) hc
        · exact y
      have hp' : p - 1 < us.length := by omega
      obtain ⟨_, t1, _⟩ := steps_ok g hp'
      obtain ⟨_, k, hk0, hk⟩ := thr_steps g z hp
      have hup := step_up g (p := p - 1) (by omega)
      rw [show p - 1 + 1 = p by omega] at hup
      have he' := step_even g hp'
      rw [hk, Int.mul_ediv_cancel _ (by omega)]
      rw [hk] at ht
      rcases Nat.eq_zero_or_pos (p - 1) with y | y
      · rw [y, step_zero, firstR_one]
        rw [y, step_zero, Int.mul_one] at ht
        rw [ht]
        exact firstR_hi s1
      · -- both steps are even
        have hlt : (stepsOf us d).getD (p - 1) 0 < (stepsOf us d).getD p 0 := by
          have hz0 := sz_step g y hp'
          have hz1 := sz_step g z hp
          have hupz := sz_up g.u (i := p - 1) (by omega)
          rw [show p - 1 + 1 = p by omega, hz0, hz1] at hupz
          exact Int.lt_of_mul_lt_mul_right hupz (Int.le_of_lt (pow_lo d))
        have ev : ∀ {q : Nat}, 1 ≤ q → q < us.length → (stepsOf us d).getD q 0 % 2 = 0 := fun {q} q1 q2 => by
          rcases step_even g q2 with w | w
          · exfalso
            have hh := step_at (d := d) q1 q2
            obtain ⟨i, rfl⟩ : ∃ i, q = i + 1 := ⟨q - 1, by omega⟩
            have hu : us[i + 1]? = some us[i + 1] := List.getElem?_eq_getElem q2
            have hm : us[i + 1] ∈ us.drop 1 := List.mem_of_getElem? (i := i) (by rw [List.getElem?_drop, Nat.add_comm 1 i]; exact hu)
            have hz := g.div _ hm
            obtain ⟨r, hr⟩ := Int.dvd_of_emod_eq_zero hz
            have hpw := pow_lo d
            rw [szOf_at hu, hr, show (2 * 10 ^ d * r : Int) = 2 * r * 10 ^ d by rw [Int.mul_assoc, Int.mul_assoc, Int.mul_comm (10 ^ d) r], Int.mul_ediv_cancel _ (by omega)] at hh
            omega
          · exact w
        have e1 := ev y hp'
        have e2 := ev z hp
        generalize (stepsOf us d).getD (p - 1) 0 = a at *
        generalize (stepsOf us d).getD p 0 = b at *
        generalize fmM us d l p = f at *
        have ea : a = 2 * (a / 2) := by omega
        have eb : b = 2 * (b / 2) := by omega
        have fz : f = 0 → f * b = 0 := fun w => by rw [w, Int.zero_mul]
        have kz : k = 0 → k * a = 0 := fun w => by rw [w, Int.zero_mul]
        have f3 : (f - 1) * b = f * b - b := by rw [Int.sub_mul, Int.one_mul]
        have k3 : (k - 1) * a = k * a - a := by rw [Int.sub_mul, Int.one_mul]
        have fp : 0 < f → b ≤ f * b := fun w => by
          have := Int.mul_le_mul_of_nonneg_right (c := b) (show 1 ≤ f by omega) (by omega)
          omega
        have kp : 0 < k → a ≤ k * a := fun w => by
          have := Int.mul_le_mul_of_nonneg_right (c := a) (show 1 ≤ k by omega) (by omega)
          omega
        unfold firstR
        rw [f3, k3]
        generalize f * b = X at *
        generalize k * a = Y at *
        have hf : f = 0 ∨ 0 < f := by omega
        have hk' : k = 0 ∨ 0 < k := by omega
        split <;> rename_i c1
        · split <;> rename_i c2
          · omega
          · split
            · have : 0 < k := by
                rcases hk' with w | w
                · exact absurd (.inl w) c2
                · exact w
              have := kp this
              rcases c1 with w | w | w
              · have := fz w
                omega
              · omega
              · exact absurd (.inr (.inr w)) c2
            · have : 0 < k := by
                rcases hk' with w | w
                · exact absurd (.inl w) c2
                · exact w
              have := kp this
              rcases c1 with w | w | w
              · have := fz w
                omega
              · omega
              · exact absurd (.inr (.inr w)) c2
        · have hfp : 0 < f := by
            rcases hf with w | w
            · exact absurd (.inl w) c1
            · exact w
          have hb1 := fp hfp
          have c2 : ¬ (k = 0 ∨ a = 1 ∨ s = "down") := fun w => w.elim (fun w => by have := kz w; omega) (fun w => w.elim (fun w => by omega) (fun w => c1 (.inr (.inr w))))
          rw [if_neg c2]
          (repeat' split) <;> omega
  omega
theorem start_strict (g : Good us d s l) {p : Nat} (hp : p + 1 < us.length) : startM us d s c l p < startM us d s c l (p + 1) := by
  have hnn := start_nn (c := c) g hp
  rcases Int.lt_or_le (startM us d s c l p) (startM us d s c l (p + 1)) with y | y
  · exact y
  · exfalso
    have hp0 : p < us.length := by omega
    have h0 := start_nn (c := c) g hp0
    -- the start of the next unit is shown with it, and this one too
    have h1 := start_le_thr (c := c) g hp0
    have h2 : (thrsOf us l).getD p 0 < startM us d s c l (p + 1) := by
      unfold startM
      split
      · rcases Nat.eq_zero_or_pos p with z | z
        · subst z
          rw [thr_eq (by omega) hp]
          have := (last_sz_pos g.u hp).1
          have := g.l1
          show (0 : Int) < szOf us (0 + 1) * l
          exact Int.mul_pos (by omega) (by omega)
        · rw [thr_eq z hp0, thr_eq (by omega) hp]
          exact Int.mul_lt_mul_of_pos_right (sz_up g.u hp) (by have := g.l1; omega)
      · rw [Nat.add_sub_cancel]
        obtain ⟨_, s1, _⟩ := steps_ok g hp0
        obtain ⟨ht, hf0⟩ := thr_fm g hp0
        obtain ⟨_, k, hk0, hk⟩ := thr_steps g (show 1 ≤ p + 1 by omega) hp
        rw [Nat.add_sub_cancel] at hk
        rw [hk, Int.mul_ediv_cancel _ (by omega)]
        -- k is greater than the first mark
        have hlt : fmM us d l p < k := by
          have h3 : (thrsOf us l).getD p 0 < (thrsOf us l).getD (p + 1) 0 := by
            rcases Nat.eq_zero_or_pos p with z | z
            · subst z
              rw [thr_eq (by omega) hp]
              have := (last_sz_pos g.u hp).1
              have := g.l1
              show (0 : Int) < szOf us (0 + 1) * l
              exact Int.mul_pos (by omega) (by omega)
            · rw [thr_eq z hp0, thr_eq (by omega) hp]
              exact Int.mul_lt_mul_of_pos_right (sz_up g.u hp) (by have := g.l1; omega)
          rw [ht, hk] at h3
          exact Int.lt_of_mul_lt_mul_right h3 (by omega)
        have he := step_even g hp0
        have h4 : firstR (fmM us d l p + 1) ((stepsOf us d).getD p 0) s ≤ firstR k ((stepsOf us d).getD p 0) s := by
          have hkk : ∀ (j : Nat), firstR (fmM us d l p + 1) ((stepsOf us d).getD p 0) s ≤ firstR (fmM us d l p + 1 + (j : Int)) ((stepsOf us d).getD p 0) s := by
            intro j
            induction j with
            | zero => rw [show fmM us d l p + 1 + ((0 : Nat) : Int) = fmM us d l p + 1 by omega]; exact Int.le_refl _
            | succ j ih =>
              have := firstR_strict (m := fmM us d l p + 1 + (j : Int)) (s := s) s1 he (by omega)
              rw [show fmM us d l p + 1 + ((j + 1 : Nat) : Int) = fmM us d l p + 1 + (j : Int) + 1 by omega]
              omega
          have := hkk (k - (fmM us d l p + 1)).toNat
          rw [show fmM us d l p + 1 + ((k - (fmM us d l p + 1)).toNat : Int) = k by omega] at this
          exact this
        have h5 : fmM us d l p * (stepsOf us d).getD p 0 < firstR (fmM us d l p + 1) ((stepsOf us d).getD p 0) s := by
          rcases he with e1 | e1
          · rw [e1, firstR_one]
            omega
          · have e3 : (fmM us d l p + 1) * (stepsOf us d).getD p 0 = fmM us d l p * (stepsOf us d).getD p 0 + (stepsOf us d).getD p 0 := by rw [Int.add_mul, Int.one_mul]
            have e4 : (fmM us d l p + 1 - 1) * (stepsOf us d).getD p 0 = fmM us d l p * (stepsOf us d).getD p 0 := by rw [Int.add_sub_cancel]
            unfold firstR
            rw [e3, e4]
            split
            · omega
            · split
              · omega
              · split <;> omega
        omega
    omega
end
end My

namespace My
open PySem PySem.Spec PyProof.Rows L2
section
variable {us : List (Str × Int)} {d : Nat} {s : Str} {c : Bool} {l : Int}
theorem place_mono (g : Good us d s l) {n n' : Int} (n0 : 0 ≤ n) (h : n ≤ n') : (placedM us d s c l n).1 ≤ (placedM us d s c l n').1 := by
  have hlt := (placedM_ok (c := c) g n0).1
  have h1 := (place_ge (c := c) g n0 hlt).mp (Nat.le_refl _)
  exact (place_ge (c := c) g (by omega) hlt).mpr (by omega)
/-- where a unit begins -/
theorem placed_start (g : Good us d s l) {p : Nat} (hp : p < us.length) : placedM us d s c l (startM us d s c l p) = (p, fmM us d l p) := by
  have h0 := start_nn (c := c) g hp
  have h1 := (place_ge (c := c) g h0 hp).mpr (Int.le_refl _)
  have h2 : (placedM us d s c l (startM us d s c l p)).1 ≤ p := by
    have hlt := (placedM_ok (c := c) g h0).1
    rcases Nat.lt_or_ge p (placedM us d s c l (startM us d s c l p)).1 with y | y
    · exfalso
      have hp1 : p + 1 < us.length := by omega
      have h3 := (place_ge (c := c) g h0 hp1).mp y
      have := start_strict (c := c) g hp1
      omega
    · exact y
  have e1 : (placedM us d s c l (startM us d s c l p)).1 = p := by omega
  have e2 := placed_snd us d s c l (startM us d s c l p)
  rw [e1, start_mark g hp] at e2
  exact Prod.ext e1 e2
/-- where a unit ends -/
theorem placed_end (g : Good us d s l) {p : Nat} (hp : p + 1 < us.length) : placedM us d s c l (startM us d s c l (p + 1) - 1) = (p, lmM us d s c l p) := by
  have hs := start_strict (c := c) g hp
  have hp0 : p < us.length := by omega
  have h0 := start_nn (c := c) g hp0
  have h1 := (place_ge (c := c) (n := startM us d s c l (p + 1) - 1) g (by omega) hp0).mpr (by omega)
  have h2 : (placedM us d s c l (startM us d s c l (p + 1) - 1)).1 ≤ p := by
    rcases Nat.lt_or_ge p (placedM us d s c l (startM us d s c l (p + 1) - 1)).1 with y | y
    · exfalso
      have h3 := (place_ge (c := c) (n := startM us d s c l (p + 1) - 1) g (by omega) hp).mp y
      omega
    · exact y
  have e1 : (placedM us d s c l (startM us d s c l (p + 1) - 1)).1 = p := by omega
  have e2 := placed_snd us d s c l (startM us d s c l (p + 1) - 1)
  rw [e1] at e2
  have e3 : (placedM us d s c l (startM us d s c l (p + 1) - 1)).2 = lmM us d s c l p := e2
  exact Prod.ext e1 e3
theorem lm_ge (g : Good us d s l) {p : Nat} (hp : p + 1 < us.length) : fmM us d l p ≤ lmM us d s c l p := by
  have hp0 : p < us.length := by omega
  have hs := start_strict (c := c) g hp
  have h0 := start_nn (c := c) g hp0
  obtain ⟨_, s1, _⟩ := steps_ok g hp0
  rw [← start_mark (c := c) g hp0]
  unfold lmM
  exact rnd_mono g.srt (step_even g hp0) s1 h0 (by omega)
/-- one number further: the same figure, or the next place -/
theorem fb_succ (g : Good us d s l) {n : Int} (n0 : 0 ≤ n) : (placedM us d s c l (n + 1) = placedM us d s c l n) ∨ (placedM us d s c l (n + 1) ≠ placedM us d s c l n ∧ fbM us d s c l (n + 1) = fbM us d s c l n + 1) := by
  have hlt := (placedM_ok (c := c) g n0).1
  have hlt' := (placedM_ok (c := c) (n := n + 1) g (by omega)).1
  have hm := place_mono (c := c) g n0 (show n ≤ n + 1 by omega)
  have es := placed_snd us d s c l n
  have es' := placed_snd us d s c l (n + 1)
  rcases Nat.lt_or_ge (placedM us d s c l n).1 (placedM us d s c l (n + 1)).1 with y | y
  · right
    -- a new unit begins at n + 1
    have hp1 : (placedM us d s c l n).1 + 1 < us.length := by omega
    have h1 : n < startM us d s c l ((placedM us d s c l n).1 + 1) := by
      rcases Int.lt_or_le n (startM us d s c l ((placedM us d s c l n).1 + 1)) with w | w
      · exact w
      · have := (place_ge (c := c) g n0 hp1).mpr w
        omega
    have h2 := (place_ge (c := c) (n := n + 1) g (by omega) hp1).mp (by omega)
    have en : n + 1 = startM us d s c l ((placedM us d s c l n).1 + 1) := by omega
    have e1 := placed_start (c := c) g hp1
    have e2 := placed_end (c := c) g hp1
    rw [← en] at e1
    rw [← en, Int.add_sub_cancel] at e2
    refine ⟨fun w => ?_, ?_⟩
    · rw [w] at y
      omega
    · unfold fbM
      rw [e1]
      generalize (placedM us d s c l n).1 = p at *
      rw [e2]
      show FU us d s c l p + (lmM us d s c l p - fmM us d l p + 1) + fmM us d l (p + 1) - fmM us d l (p + 1) = FU us d s c l p + lmM us d s c l p - fmM us d l p + 1
      omega
  · have ep : (placedM us d s c l (n + 1)).1 = (placedM us d s c l n).1 := by omega
    obtain ⟨_, s1, _⟩ := steps_ok g hlt
    obtain ⟨r1, r2⟩ := rnd_succ (s := s) g.srt (step_even g hlt) s1 n0
    rw [ep] at es'
    rw [← es, ← es'] at r1 r2
    rcases Int.lt_or_le (placedM us d s c l n).2 (placedM us d s c l (n + 1)).2 with w | w
    · right
      refine ⟨fun v => ?_, ?_⟩
      · rw [v] at w
        omega
      · unfold fbM idxM
        rw [ep]
        omega
    · left
      exact Prod.ext ep (by omega)
theorem fb_mono (g : Good us d s l) {n : Int} (n0 : 0 ≤ n) : ∀ k : Nat, fbM us d s c l n ≤ fbM us d s c l (n + (k : Int)) := by
  intro k
  induction k with
  | zero => rw [show n + ((0 : Nat) : Int) = n by omega]; exact Int.le_refl _
  | succ k ih =>
    rw [show n + ((k + 1 : Nat) : Int) = n + (k : Int) + 1 by omega]
    rcases fb_succ (c := c) (n := n + (k : Int)) g (by omega) with e | ⟨_, e⟩
    · have e2 : fbM us d s c l (n + (k : Int) + 1) = fbM us d s c l (n + (k : Int)) := by unfold fbM; rw [e]
      omega
    · omega
theorem fb_le (g : Good us d s l) {n n' : Int} (n0 : 0 ≤ n) (h : n ≤ n') : fbM us d s c l n ≤ fbM us d s c l n' := by
  have := fb_mono (c := c) g n0 (n' - n).toNat
  rw [show n + ((n' - n).toNat : Int) = n' by omega] at this
  exact this
/-- the figure behind the range of a figure -/
theorem next_place (g : Good us d s l) {p : Nat} {m : Int} (hp : p < us.length) (hm : 0 ≤ m) (hle : lowM us d s c l p m ≤ highM us d s c l p m) :
    lowM us d s c l (placedM us d s c l (highM us d s c l p m + 1)).1 (placedM us d s c l (highM us d s c l p m + 1)).2 = highM us d s c l p m + 1 ∧ idxM us d s c l (placedM us d s c l (highM us d s c l p m + 1)) = idxM us d s c l (p, m) + 1 := by
  have h0 := low_nn (c := c) g hp m
  have hh : 0 ≤ highM us d s c l p m := by omega
  have e0 := (range_iff (c := c) g hh hp hm).mpr ⟨hle, Int.le_refl _⟩
  have e1 : placedM us d s c l (highM us d s c l p m + 1) ≠ (p, m) := fun e => by
    have := (range_iff (c := c) (n := highM us d s c l p m + 1) g (by omega) hp hm).mp e
    omega
  constructor
  · have hin := in_range (c := c) (n := highM us d s c l p m + 1) g (by omega) (p := (placedM us d s c l (highM us d s c l p m + 1)).1) (m := (placedM us d s c l (highM us d s c l p m + 1)).2) rfl
    obtain ⟨k1, k2, _⟩ := placedM_ok (c := c) (n := highM us d s c l p m + 1) g (by omega)
    rcases Int.lt_or_le (lowM us d s c l (placedM us d s c l (highM us d s c l p m + 1)).1 (placedM us d s c l (highM us d s c l p m + 1)).2) (highM us d s c l p m + 1) with y | y
    · exfalso
      have := (range_iff (c := c) g hh k1 k2).mpr ⟨by omega, by omega⟩
      rw [e0] at this
      exact e1 this.symm
    · omega
  · rcases fb_succ (c := c) g hh with e | ⟨_, e⟩
    · rw [e0] at e
      exact absurd e e1
    · unfold fbM at e
      rw [e0] at e
      exact e
/-- which figures are shown -/
theorem is_shown (g : Good us d s l) {p : Nat} {m : Int} (hp : p < us.length) (h1 : fmM us d l p ≤ m) (h2 : p + 1 < us.length → m ≤ lmM us d s c l p) : lowM us d s c l p m ≤ highM us d s c l p m := by
  obtain ⟨_, s1, _⟩ := steps_ok g hp
  have he := step_even g hp
  have hf0 := (thr_fm g hp).2
  have h0 := start_nn (c := c) g hp
  suffices h : ∃ x, 0 ≤ x ∧ placedM us d s c l x = (p, m) by
    obtain ⟨x, x0, ex⟩ := h
    have := (range_iff (c := c) g x0 hp (by omega)).mp ex
    omega
  rcases Int.lt_or_le (fmM us d l p) m with y | y
  · refine ⟨firstR m ((stepsOf us d).getD p 0) s, firstR_nn s1 (by omega), ?_⟩
    have x0 := firstR_nn (m := m) (st := (stepsOf us d).getD p 0) (s := s) s1 (by omega)
    have hgt : startM us d s c l p < firstR m ((stepsOf us d).getD p 0) s := by
      rcases Int.lt_or_le (startM us d s c l p) (firstR m ((stepsOf us d).getD p 0) s) with w | w
      · exact w
      · exfalso
        have := (rnd_ge g.srt he s1 h0 (show 0 ≤ m by omega)).mpr w
        rw [start_mark g hp] at this
        omega
    have hlt : p + 1 < us.length → firstR m ((stepsOf us d).getD p 0) s < startM us d s c l (p + 1) := fun hp1 => by
      have hs := start_strict (c := c) g hp1
      have := (rnd_ge (n := startM us d s c l (p + 1) - 1) g.srt he s1 (by omega) (show 0 ≤ m by omega)).mp (h2 hp1)
      omega
    have a1 := (place_ge (c := c) g x0 hp).mpr (by omega)
    have a2 : (placedM us d s c l (firstR m ((stepsOf us d).getD p 0) s)).1 ≤ p := by
      have hlt2 := (placedM_ok (c := c) g x0).1
      rcases Nat.lt_or_ge p (placedM us d s c l (firstR m ((stepsOf us d).getD p 0) s)).1 with w | w
      · exfalso
        have hp1 : p + 1 < us.length := by omega
        have := (place_ge (c := c) g x0 hp1).mp w
        have := hlt hp1
        omega
      · exact w
    have e1 : (placedM us d s c l (firstR m ((stepsOf us d).getD p 0) s)).1 = p := by omega
    have e2 := placed_snd us d s c l (firstR m ((stepsOf us d).getD p 0) s)
    rw [e1] at e2
    have e3 : rnd (firstR m ((stepsOf us d).getD p 0) s) ((stepsOf us d).getD p 0) s = m := by
      have b1 := (rnd_ge (n := firstR m ((stepsOf us d).getD p 0) s) g.srt he s1 x0 (show 0 ≤ m by omega)).mpr (Int.le_refl _)
      have b2 : ¬ m + 1 ≤ rnd (firstR m ((stepsOf us d).getD p 0) s) ((stepsOf us d).getD p 0) s := fun w => by
        have := (rnd_ge (n := firstR m ((stepsOf us d).getD p 0) s) (m := m + 1) g.srt he s1 x0 (by omega)).mp w
        have := firstR_strict (m := m) (s := s) s1 he (by omega)
        omega
      omega
    rw [e3] at e2
    exact Prod.ext e1 e2
  · refine ⟨_, h0, ?_⟩
    rw [placed_start g hp, show m = fmM us d l p by omega]
theorem FU_up (g : Good us d s l) {p : Nat} (hp : p + 1 < us.length) : FU us d s c l p < FU us d s c l (p + 1) := by
  have := lm_ge (c := c) g hp
  show FU us d s c l p < FU us d s c l p + (lmM us d s c l p - fmM us d l p + 1)
  omega
theorem FU_mono (g : Good us d s l) : ∀ {q p : Nat}, p ≤ q → q < us.length → FU us d s c l p ≤ FU us d s c l q := by
  intro q
  induction q with
  | zero => intro p h _; rw [show p = 0 by omega]; exact Int.le_refl _
  | succ q ih =>
    intro p h hq
    rcases Nat.lt_or_ge p (q + 1) with y | y
    · have := ih (p := p) (by omega) (by omega)
      have := FU_up (c := c) g hq
      omega
    · rw [show p = q + 1 by omega]
      exact Int.le_refl _
theorem FU_nn (g : Good us d s l) {p : Nat} (hp : p < us.length) : 0 ≤ FU us d s c l p := FU_mono (c := c) g (Nat.zero_le p) hp
/-- all that is asked of the unit that figure_at finds -/
theorem at_place (g : Good us d s l) {k : Int} {p : Nat} (hp : p < us.length) (h1 : FU us d s c l p ≤ k) (h2 : p + 1 < us.length → k < FU us d s c l (p + 1)) :
    fmM us d l p ≤ fmM us d l p + k - FU us d s c l p ∧ lowM us d s c l p (fmM us d l p + k - FU us d s c l p) ≤ highM us d s c l p (fmM us d l p + k - FU us d s c l p) ∧ idxM us d s c l (p, fmM us d l p + k - FU us d s c l p) = k := by
  refine ⟨by omega, is_shown g hp (by omega) (fun hp1 => ?_), ?_⟩
  · have h3 := h2 hp1
    have h4 : FU us d s c l (p + 1) = FU us d s c l p + (lmM us d s c l p - fmM us d l p + 1) := rfl
    omega
  · show FU us d s c l p + (fmM us d l p + k - FU us d s c l p) - fmM us d l p = k
    omega
/-- the worth never falls -/
theorem worth_succ (g : Good us d s l) {n : Int} (n0 : 0 ≤ n) : worthM us d s c l n ≤ worthM us d s c l (n + 1) := by
  have hlt := (placedM_ok (c := c) g n0).1
  have hlt' := (placedM_ok (c := c) (n := n + 1) g (by omega)).1
  have hm := place_mono (c := c) g n0 (show n ≤ n + 1 by omega)
  have es := placed_snd us d s c l n
  have es' := placed_snd us d s c l (n + 1)
  obtain ⟨_, s1, _⟩ := steps_ok g hlt
  unfold worthM
  rcases Nat.lt_or_ge (placedM us d s c l n).1 (placedM us d s c l (n + 1)).1 with y | y
  · have hp1 : (placedM us d s c l n).1 + 1 < us.length := by omega
    have h1 : n < startM us d s c l ((placedM us d s c l n).1 + 1) := by
      rcases Int.lt_or_le n (startM us d s c l ((placedM us d s c l n).1 + 1)) with w | w
      · exact w
      · have := (place_ge (c := c) g n0 hp1).mpr w
        omega
    have h2 := (place_ge (c := c) (n := n + 1) g (by omega) hp1).mp (by omega)
    have en : n + 1 = startM us d s c l ((placedM us d s c l n).1 + 1) := by omega
    have e1 := placed_start (c := c) g hp1
    rw [← en] at e1
    have hthr := start_le_thr (c := c) g hp1
    rw [← en] at hthr
    have ht := (thr_fm g hp1).1
    obtain ⟨_, k, hk0, hk⟩ := thr_steps g (show 1 ≤ (placedM us d s c l n).1 + 1 by omega) hp1
    rw [Nat.add_sub_cancel] at hk
    rw [e1]
    generalize (placedM us d s c l n).1 = p at *
    rw [es]
    show rnd n ((stepsOf us d).getD p 0) s * (stepsOf us d).getD p 0 ≤ fmM us d l (p + 1) * (stepsOf us d).getD (p + 1) 0
    rw [← ht, hk]
    rw [hk] at hthr
    exact Int.mul_le_mul_of_nonneg_right (rnd_below s1 (by omega)) (by omega)
  · have ep : (placedM us d s c l (n + 1)).1 = (placedM us d s c l n).1 := by omega
    obtain ⟨r1, r2⟩ := rnd_succ (s := s) g.srt (step_even g hlt) s1 n0
    rw [ep] at es'
    rw [← es, ← es'] at r1
    rw [ep]
    exact Int.mul_le_mul_of_nonneg_right r1 (by omega)
theorem worth_mono (g : Good us d s l) {n : Int} (n0 : 0 ≤ n) : ∀ k : Nat, worthM us d s c l n ≤ worthM us d s c l (n + (k : Int)) := by
  intro k
  induction k with
  | zero => rw [show n + ((0 : Nat) : Int) = n by omega]; exact Int.le_refl _
  | succ k ih =>
    have := worth_succ (c := c) (n := n + (k : Int)) g (by omega)
    rw [show n + ((k + 1 : Nat) : Int) = n + (k : Int) + 1 by omega]
    omega
theorem worth_le (g : Good us d s l) {n n' : Int} (n0 : 0 ≤ n) (h : n ≤ n') : worthM us d s c l n ≤ worthM us d s c l n' := by
  have := worth_mono (c := c) g n0 (n' - n).toNat
  rw [show n + ((n' - n).toNat : Int) = n' by omega] at this
  exact this
/-- figures are the same exactly if their places are -/
theorem same_iff (g : Good us d s l) {n n' : Int} (n0 : 0 ≤ n) (h : n ≤ n') : placedM us d s c l n = placedM us d s c l n' ↔ fbM us d s c l n = fbM us d s c l n' := by
  constructor
  · intro e
    unfold fbM
    rw [e]
  · intro e
    have key : ∀ k : Nat, n + (k : Int) ≤ n' → placedM us d s c l (n + (k : Int)) = placedM us d s c l n := by
      intro k
      induction k with
      | zero => intro _; rw [show n + ((0 : Nat) : Int) = n by omega]
      | succ k ih =>
        intro hk
        have i1 := ih (by omega)
        rw [show n + ((k + 1 : Nat) : Int) = n + (k : Int) + 1 by omega]
        rcases fb_succ (c := c) (n := n + (k : Int)) g (by omega) with e1 | ⟨_, e1⟩
        · rw [e1, i1]
        · exfalso
          have h1 := fb_le (c := c) (n := n + (k : Int) + 1) (n' := n') g (by omega) (by omega)
          have h2 : fbM us d s c l (n + (k : Int)) = fbM us d s c l n := by unfold fbM; rw [i1]
          omega
    have := key (n' - n).toNat (by omega)
    rw [show n + ((n' - n).toNat : Int) = n' by omega] at this
    exact this.symm
end
end My

namespace My
open PySem PySem.Spec PyProof.Rows L2
theorem low_hi {us : List (Str × Int)} {d : Nat} {s : Str} {c : Bool} {l : Int} (g : Good us d s l) {p : Nat} (hp : p < us.length) {m : Int} (m0 : 0 ≤ m) (m1 : m ≤ 2000000000) : lowM us d s c l p m ≤ 2000000000000000000000000000 := by
  obtain ⟨_, s1, s2⟩ := steps_ok g hp
  have h1 := firstR_hi (m := m) (s := s) s1
  have h2 : m * (stepsOf us d).getD p 0 ≤ 2000000000 * 1000000000000000000 := Int.mul_le_mul m1 s2 (by omega) (by decide)
  have h3 := start_le_thr (c := c) g hp
  have h4 : (thrsOf us l).getD p 0 ≤ 1000 * 1000000000000000000 := by
    rcases Nat.eq_zero_or_pos p with z | z
    · subst z
      show (0 : Int) ≤ _
      decide
    · rw [thr_eq z hp]
      have b1 := last_sz_pos g.u hp
      have b2 := g.l1
      have b3 := g.l2
      have : szOf us p * l ≤ 1000000000000000000 * 1000 := Int.mul_le_mul b1.2 b3 (by omega) (by decide)
      omega
  unfold lowM max2
  split <;> omega
/-- the mark of a figure with this place -/
theorem mark_le {us : List (Str × Int)} {d : Nat} {s : Str} {c : Bool} {l : Int} (g : Good us d s l) {p : Nat} (hp : p < us.length) {m : Int} : m ≤ idxM us d s c l (p, m) + 1000000 := by
  have h1 := FU_nn (c := c) g hp
  have h2 := fm_le g hp
  show m ≤ FU us d s c l p + m - fmM us d l p + 1000000
  omega
theorem low_place {us : List (Str × Int)} {d : Nat} {s : Str} {c : Bool} {l : Int} (g : Good us d s l) {p : Nat} (hp : p < us.length) {m : Int} (m0 : 0 ≤ m) (hle : lowM us d s c l p m ≤ highM us d s c l p m) : placedM us d s c l (lowM us d s c l p m) = (p, m) :=
  (range_iff g (low_nn g hp m) hp m0).mpr ⟨Int.le_refl _, hle⟩
theorem low_order {us : List (Str × Int)} {d : Nat} {s : Str} {c : Bool} {l : Int} (g : Good us d s l) {p p' : Nat} (hp : p < us.length) (hp' : p' < us.length) {m m' : Int} (m0 : 0 ≤ m) (m0' : 0 ≤ m') (hle : lowM us d s c l p m ≤ highM us d s c l p m) (hle' : lowM us d s c l p' m' ≤ highM us d s c l p' m')
    (h : idxM us d s c l (p, m) ≤ idxM us d s c l (p', m')) : lowM us d s c l p m ≤ lowM us d s c l p' m' := by
  have e := low_place (c := c) g hp m0 hle
  have e' := low_place (c := c) g hp' m0' hle'
  have n0 := low_nn (c := c) g hp' m'
  rcases Int.lt_or_le (lowM us d s c l p' m') (lowM us d s c l p m) with y | y
  · exfalso
    have h1 := fb_le (c := c) g n0 (Int.le_of_lt y)
    have h2 : fbM us d s c l (lowM us d s c l p' m') = fbM us d s c l (lowM us d s c l p m) := by
      unfold fbM at h1 ⊢
      rw [e, e'] at h1 ⊢
      omega
    have h3 := (same_iff (c := c) g n0 (Int.le_of_lt y)).mpr h2
    rw [e, e'] at h3
    rw [← Prod.mk.inj h3 |>.1, ← Prod.mk.inj h3 |>.2] at y
    omega
  · exact y
end My

namespace My
open PySem PySem.Spec PyProof.Rows L2
abbrev sNextF : Stmt := top 69
theorem scNextF : FnScope ["ladder", "text", "_", "high"] ["ladder", "text"] (defScope sNextF) := ⟨rfl, rfl, rfl, by decide +kernel, rfl, by decide +kernel, by decide +kernel⟩
def spNextF (K : PySem.W.Frag) (C : Addr) : Sp := fun vs H Q _ => ∃ (a : Addr) (us : List (Str × Int)) (d : Nat) (s : Str) (c : Bool) (l : Int) (p : Nat) (m : Int), vs = [.ref a, .str (writ us d p m)] ∧ LadAt K C H a us d s c l ∧ Good us d s l ∧ p < us.length ∧ 0 ≤ m ∧ m < 10 ^ 24 ∧
  lowM us d s c l p m ≤ highM us d s c l p m ∧ highM us d s c l p m < 1000000000000000000000000000000 ∧ ∀ (H' : Hp), Same H H' → Q (.str (shown us d s c l (highM us d s c l p m + 1))) H'
section
variable {P : Program} {w : World} {K : PySem.W.Frag} {mg : Str → Option Value} {base : Heap}
theorem ok_nextf {C : Addr} (d : Dd K mg "next_figure" sNextF ["ladder", "text"]) (dR : Dd K mg "range_of_shown" sRShown ["ladder", "text"]) (dF : Dd K mg "figure_of" sFigOf ["ladder", "number"])
    (GR : FnOk P w K mg base CX0 6 dR.f dR.fd ["ladder", "text"] (spRShown K C)) (GF : FnOk P w K mg base CX0 5 dF.f dF.fd ["ladder", "number"] (spFig K C)) :
    FnOk P w K mg base CX0 7 d.f d.fd ["ladder", "text"] (spNextF K C) := by
  refine d.F.ok scNextF (fun vs H Q E h => ?_) (fun cdv A outer s H vs Q E hr h => ?_)
  · obtain ⟨_, _, _, _, _, _, _, _, rfl, _⟩ := h
    rfl
  · obtain ⟨a, us, dn, z, c, l, p, m, rfl, hL, g, hlt, hm, hm2, hle, hbig, q⟩ := h
    have nd := scNextF.nd
    have hr4 : Room 5 _ := hr.mono (by decide)
    refine ⟨_, pss_cons (ps_asg (pe_call GR hr (by rfl) dR.g dR.F.kp dR.b .nil pass0 (pa_cons (pv 0) (pa_cons (pv 1) pa_nil))) (pg_tup rfl (pgs_cons (pg_name (i := 2) nd rfl (.inl rfl)) (pgs_cons (pg_name (i := 3) nd rfl (.inl rfl)) pgs_nil))))
      (pss_one (ps_ret (pe_call GF hr4 (by rfl) dF.g dF.F.kp dF.b .nil pass0 (pa_cons (pv 0) (pa_cons (pe_op op_add (pv 3) pe_int) pa_nil))))), ?_⟩
    refine ⟨_, rfl, _, rfl, a, us, dn, z, c, l, p, m, rfl, hL, g, hlt, hm, hm2, hle, fun r H1 s1 hr1 => ?_⟩
    refine ⟨r, _, rfl, hr1, rfl, _, _, rfl, _, _, rfl, rfl, ?_⟩
    have h0 := low_nn (c := c) g hlt m
    exact ⟨_, rfl, _, rfl, _, 1, rfl, rfl, a, us, dn, z, c, l, _, rfl, hL.same s1, g, by omega, by omega, fun H2 s2 => q H2 (s1.trans s2)⟩
end
end My

namespace My
open PySem PySem.Spec PyProof.Rows L2
abbrev sPrevF : Stmt := top 70
theorem scPrevF : FnScope ["ladder", "text", "low", "_"] ["ladder", "text"] (defScope sPrevF) := ⟨rfl, rfl, rfl, by decide +kernel, rfl, by decide +kernel, by decide +kernel⟩
def spPrevF (K : PySem.W.Frag) (C : Addr) : Sp := fun vs H Q _ => ∃ (a : Addr) (us : List (Str × Int)) (d : Nat) (s : Str) (c : Bool) (l : Int) (p : Nat) (m : Int), vs = [.ref a, .str (writ us d p m)] ∧ LadAt K C H a us d s c l ∧ Good us d s l ∧ p < us.length ∧ 0 ≤ m ∧ m < 10 ^ 24 ∧
  lowM us d s c l p m ≤ highM us d s c l p m ∧ lowM us d s c l p m < 1000000000000000000000000000000 ∧ (lowM us d s c l p m = 0 → ∀ (H' : Hp), Same H H' → Q .non H') ∧ (0 < lowM us d s c l p m → ∀ (H' : Hp), Same H H' → Q (.str (shown us d s c l (lowM us d s c l p m - 1))) H')
section
variable {P : Program} {w : World} {K : PySem.W.Frag} {mg : Str → Option Value} {base : Heap}
theorem ok_prevf {C : Addr} (d : Dd K mg "previous_figure" sPrevF ["ladder", "text"]) (dR : Dd K mg "range_of_shown" sRShown ["ladder", "text"]) (dF : Dd K mg "figure_of" sFigOf ["ladder", "number"])
    (GR : FnOk P w K mg base CX0 6 dR.f dR.fd ["ladder", "text"] (spRShown K C)) (GF : FnOk P w K mg base CX0 5 dF.f dF.fd ["ladder", "number"] (spFig K C)) :
    FnOk P w K mg base CX0 7 d.f d.fd ["ladder", "text"] (spPrevF K C) := by
  refine d.F.ok scPrevF (fun vs H Q E h => ?_) (fun cdv A outer s H vs Q E hr h => ?_)
  · obtain ⟨_, _, _, _, _, _, _, _, rfl, _⟩ := h
    rfl
  · obtain ⟨a, us, dn, z, c, l, p, m, rfl, hL, g, hlt, hm, hm2, hle, hbig, q0, q1⟩ := h
    have nd := scPrevF.nd
    have hr4 : Room 5 _ := hr.mono (by decide)
    refine ⟨_, pss_cons (ps_asg (pe_call GR hr (by rfl) dR.g dR.F.kp dR.b .nil pass0 (pa_cons (pv 0) (pa_cons (pv 1) pa_nil))) (pg_tup rfl (pgs_cons (pg_name (i := 2) nd rfl (.inl rfl)) (pgs_cons (pg_name (i := 3) nd rfl (.inl rfl)) pgs_nil))))
      (pss_cons (ps_if (pt_cmpR op_eq (pv 2) pe_int (nomark _)) (pss_one (ps_ret pe_non)) pss_nil)
      (pss_one (ps_ret (pe_call GF hr4 (by rfl) dF.g dF.F.kp dF.b .nil pass0 (pa_cons (pv 0) (pa_cons (pe_op op_sub (pv 2) pe_int) pa_nil)))))), ?_⟩
    refine ⟨_, rfl, _, rfl, a, us, dn, z, c, l, p, m, rfl, hL, g, hlt, hm, hm2, hle, fun r H1 s1 hr1 => ?_⟩
    refine ⟨r, _, rfl, hr1, rfl, _, _, rfl, _, _, rfl, rfl, ?_⟩
    have h0 := low_nn (c := c) g hlt m
    refine ⟨_, rfl, rfl, _, rfl, ite2 (fun e => ?_) (fun e => ?_)⟩
    · exact q0 (V.int.inj (of_decide_eq_true e)) H1 s1
    · have e1 : ¬ lowM us dn z c l p m = 0 := fun y => e (decide_eq_true (congrArg V.int y))
      exact ⟨_, rfl, _, rfl, _, 1, rfl, rfl, a, us, dn, z, c, l, _, rfl, hL.same s1, g, by omega, by omega, fun H2 s2 => q1 (by omega) H2 (s1.trans s2)⟩
end
end My

namespace My
open PySem PySem.Spec PyProof.Rows L2
/-! ### places of figures, in the program -/
abbrev sFirstMark : Stmt := top 57
abbrev sLastMark : Stmt := top 58
abbrev sFiguresBU : Stmt := top 79
abbrev sFiguresB : Stmt := top 78
abbrev sPlaceOf : Stmt := top 73
abbrev sFigureAt : Stmt := top 72
theorem scFirstMark : FnScope ["ladder", "place"] ["ladder", "place"] (defScope sFirstMark) := ⟨rfl, rfl, rfl, by decide +kernel, rfl, by decide +kernel, by decide +kernel⟩
theorem scLastMark : FnScope ["ladder", "place"] ["ladder", "place"] (defScope sLastMark) := ⟨rfl, rfl, rfl, by decide +kernel, rfl, by decide +kernel, by decide +kernel⟩
theorem scFiguresBU : FnScope ["ladder", "unit", "other"] ["ladder", "unit"] (defScope sFiguresBU) := ⟨rfl, rfl, rfl, by decide +kernel, rfl, by decide +kernel, by decide +kernel⟩
theorem scFiguresB : FnScope ["ladder", "number", "unit", "mark"] ["ladder", "number"] (defScope sFiguresB) := ⟨rfl, rfl, rfl, by decide +kernel, rfl, by decide +kernel, by decide +kernel⟩
theorem scPlaceOf : FnScope ["ladder", "text", "low", "_"] ["ladder", "text"] (defScope sPlaceOf) := ⟨rfl, rfl, rfl, by decide +kernel, rfl, by decide +kernel, by decide +kernel⟩
theorem scFigureAt : FnScope ["ladder", "place", "firsts", "unit", "first"] ["ladder", "place"] (defScope sFigureAt) := ⟨rfl, rfl, rfl, by decide +kernel, rfl, by decide +kernel, by decide +kernel⟩
def spFirstMark (K : PySem.W.Frag) (C : Addr) : Sp := fun vs H Q _ => ∃ (a : Addr) (us : List (Str × Int)) (d : Nat) (s : Str) (c : Bool) (l : Int) (p : Nat), vs = [.ref a, .int (p : Int)] ∧ LadAt K C H a us d s c l ∧ Good us d s l ∧ p < us.length ∧ Q (.int (fmM us d l p)) H
def spLastMark (K : PySem.W.Frag) (C : Addr) : Sp := fun vs H Q _ => ∃ (a : Addr) (us : List (Str × Int)) (d : Nat) (s : Str) (c : Bool) (l : Int) (p : Nat), vs = [.ref a, .int (p : Int)] ∧ LadAt K C H a us d s c l ∧ Good us d s l ∧ p + 1 < us.length ∧ ∀ H', Same H H' → Q (.int (lmM us d s c l p)) H'
def spFiguresBU (K : PySem.W.Frag) (C : Addr) : Sp := fun vs H Q _ => ∃ (a : Addr) (us : List (Str × Int)) (d : Nat) (s : Str) (c : Bool) (l : Int) (p : Nat), vs = [.ref a, .int (p : Int)] ∧ LadAt K C H a us d s c l ∧ Good us d s l ∧ p < us.length ∧ ∀ H', Same H H' → Q (.int (FU us d s c l p)) H'
def spFiguresB (K : PySem.W.Frag) (C : Addr) : Sp := fun vs H Q _ => ∃ (a : Addr) (us : List (Str × Int)) (d : Nat) (s : Str) (c : Bool) (l n : Int), vs = [.ref a, .int n] ∧ LadAt K C H a us d s c l ∧ Good us d s l ∧ 0 ≤ n ∧ ∀ H', Same H H' → Q (.int (fbM us d s c l n)) H'
def spPlaceOf (K : PySem.W.Frag) (C : Addr) : Sp := fun vs H Q _ => ∃ (a : Addr) (us : List (Str × Int)) (d : Nat) (s : Str) (c : Bool) (l : Int) (p : Nat) (m : Int), vs = [.ref a, .str (writ us d p m)] ∧ LadAt K C H a us d s c l ∧ Good us d s l ∧ p < us.length ∧ 0 ≤ m ∧ m < 10 ^ 24 ∧
  lowM us d s c l p m ≤ highM us d s c l p m ∧ ∀ (H' : Hp), Same H H' → Q (.int (idxM us d s c l (p, m))) H'
def spFigureAt (K : PySem.W.Frag) (C : Addr) : Sp := fun vs H Q _ => ∃ (a : Addr) (us : List (Str × Int)) (d : Nat) (s : Str) (c : Bool) (l k : Int), vs = [.ref a, .int k] ∧ LadAt K C H a us d s c l ∧ Good us d s l ∧ 0 ≤ k ∧ k ≤ 1000000000 ∧
  ∀ (p : Nat) (m : Int) (H' : Hp), Same H H' → p < us.length → 0 ≤ m → m ≤ 1001000000 → lowM us d s c l p m ≤ highM us d s c l p m → idxM us d s c l (p, m) = k → Q (.str (writ us d p m)) H'
theorem sum_snoc (xs : List Int) (x : Int) : (xs ++ [x]).sum = xs.sum + x := by
  rw [List.sum_append, List.sum_singleton]
section
variable {P : Program} {w : World} {K : PySem.W.Frag} {mg : Str → Option Value} {base : Heap}
theorem ok_firstmark (d : Dd K mg "first_mark" sFirstMark ["ladder", "place"]) (L : LadC K mg) : FnOk P w K mg base CX0 2 d.f d.fd ["ladder", "place"] (spFirstMark K L.C) := by
  refine d.F.ok scFirstMark (fun vs H Q E h => ?_) (fun cdv A outer s H vs Q E hr h => ?_)
  · obtain ⟨_, _, _, _, _, _, _, rfl, _⟩ := h
    rfl
  · obtain ⟨a, us, dn, z, c, l, p, rfl, ⟨dx, ua, t, st, th, hp, hua, ht, hs, hth⟩, g, hlt, q⟩ := h
    refine ⟨_, pss_one (ps_ret (pe_op op_fdivW (pe_ix ix_tup (pe_fld (pv 0) rfl) (pv 1) (fun _ _ => rfl)) (pe_ix ix_tup (pe_fld (pv 0) rfl) (pv 1) (fun _ _ => rfl)))), ?_⟩
    have ht0 := thr_get g hlt
    obtain ⟨k1, k2, k3⟩ := steps_ok g hlt
    exact ⟨_, rfl, a, L.C, dx, _, _, rfl, hp, L.cl, L.nThr, fl_thr .., _, rfl, th, _, p, .int ((thrsOf us l).getD p 0), rfl, rfl, hth, atI_nat (by rw [List.getElem?_map, ht0]; rfl),
      _, rfl, a, L.C, dx, _, _, rfl, hp, L.cl, L.nSteps, fl_steps .., _, rfl, st, _, p, .int ((stepsOf us dn).getD p 0), rfl, rfl, hs, atI_nat (by rw [List.getElem?_map, k1]; rfl), _, _, rfl, rfl, divw_small k2 k3, q⟩
theorem ok_lastmark (d : Dd K mg "last_mark" sLastMark ["ladder", "place"]) (dS : Dd K mg "start_of" sStartOf ["ladder", "place"]) (dF : Dd K mg "first_rounded" sFirstR ["mark", "step", "rounding"]) (dR : Dd K mg "rounded" sRounded ["number", "step", "rounding"]) (dG : Dd K mg "goes_up" sGoes ["below", "rest", "step", "rounding"]) (L : LadC K mg) (B : Bt mg) :
    FnOk P w K mg base CX0 4 d.f d.fd ["ladder", "place"] (spLastMark K L.C) := by
  have GS : FnOk P w K mg base CX0 3 dS.f dS.fd ["ladder", "place"] (spStartOf K L.C) := ok_startof dS dF L
  have GR : FnOk P w K mg base CX0 3 dR.f dR.fd ["number", "step", "rounding"] spRounded := ok_rounded dR dG B
  refine d.F.ok scLastMark (fun vs H Q E h => ?_) (fun cdv A outer s H vs Q E hr h => ?_)
  · obtain ⟨_, _, _, _, _, _, _, rfl, _⟩ := h
    rfl
  · obtain ⟨a, us, dn, z, c, l, p, rfl, hL, g, hlt, q⟩ := h
    refine ⟨_, pss_one (ps_ret (pe_call GR hr (by rfl) dR.g dR.F.kp dR.b .nil pass0 (pa_cons (pe_op op_sub (pe_call GS hr (by rfl) dS.g dS.F.kp dS.b .nil pass0 (pa_cons (pv 0) (pa_cons (pe_op op_add (pv 1) pe_int) pa_nil))) pe_int)
      (pa_cons (pe_ix ix_tup (pe_fld (pv 0) rfl) (pv 1) (fun _ _ => rfl)) (pa_cons (pe_fld (pv 0) rfl) pa_nil))))), ?_⟩
    obtain ⟨k1, k2, k3⟩ := steps_ok g (show p < us.length by omega)
    obtain ⟨dx, ua, t, st, th, hp, hua, ht, hs, hth⟩ := id hL
    refine ⟨_, rfl, _, rfl, p, 1, rfl, rfl, a, us, dn, z, c, l, p + 1, rfl, hL, g, hlt, _, 1, rfl, rfl, ?_⟩
    exact ⟨_, rfl, a, L.C, dx, _, _, rfl, hp, L.cl, L.nSteps, fl_steps .., _, rfl, st, _, p, .int ((stepsOf us dn).getD p 0), rfl, rfl, hs, atI_nat (by rw [List.getElem?_map, k1]; rfl), _, rfl, a, L.C, dx, _, _, rfl, hp, L.cl, L.nRnd, fl_rnd .., _, _, z, rfl, k2, by omega, q⟩
theorem ok_figbu {C : Addr} (d : Dd K mg "figures_before_unit" sFiguresBU ["ladder", "unit"]) (dL : Dd K mg "last_mark" sLastMark ["ladder", "place"]) (dF : Dd K mg "first_mark" sFirstMark ["ladder", "place"]) (B : Bt mg) (bS : mg "sum" = none)
    (GL : FnOk P w K mg base CX0 4 dL.f dL.fd ["ladder", "place"] (spLastMark K C)) (GF : FnOk P w K mg base CX0 2 dF.f dF.fd ["ladder", "place"] (spFirstMark K C)) :
    FnOk P w K mg base CX0 5 d.f d.fd ["ladder", "unit"] (spFiguresBU K C) := by
  refine d.F.ok scFiguresBU (fun vs H Q E h => ?_) (fun cdv A outer s H vs Q E hr h => ?_)
  · obtain ⟨_, _, _, _, _, _, _, rfl, _⟩ := h
    rfl
  · obtain ⟨a, us, dn, z, c, l, p, rfl, hL, g, hlt, q⟩ := h
    have hr1 : Room 2 _ := hr.mono (by decide)
    have nd := scFiguresBU.nd
    refine ⟨_, pss_one (ps_ret (pe_callB (cr_sum rfl) (by rfl) bS (by decide +kernel) (pa_cons
      (pe_lc (own := [("other", 2)]) (g := gName 2) (tt := tYes) rfl nd (pi_range1 (by rfl) B.range (pa_cons (pv 1) pa_nil)) (blkOk_by (own := [("other", 2)]) (N := ["ladder", "unit", "other"]) (sc := defScope sFiguresBU) (by decide +kernel)) (fun _ _ _ _ _ => pg_name (i := 2) nd rfl (Or.inl rfl))
        (fun _ _ _ _ _ => pts_nil) (fun _ _ _ _ _ => pe_op op_add (pe_op op_sub (pe_call GL hr (by rfl) dL.g dL.F.kp dL.b .nil pass0 (pa_cons (pv 0) (pa_cons (pv 2) pa_nil))) (pe_call GF hr1 (by rfl) dF.g dF.F.kp dF.b .nil pass0 (pa_cons (pv 0) (pa_cons (pv 2) pa_nil)))) pe_int)) pa_nil))), ?_⟩
    have hhi := g.u.hi
    refine ⟨_, rfl, p, rfl, by omega, by omega, fun D nD => ?_⟩
    rw [Int.toNat_natCast]
    refine lc_range (lo := 0) (n := p) (fun i H2 => Same H H2 ∧ H2 D = some (.lst (((List.range i).map fun k => lmM us dn z c l k - fmM us dn l k + 1).map V.int))) ⟨same_upd nD, upd_same⟩ ?_ ?_
    · rintro i H2 hi ⟨sm, hD⟩
      have ei : (0 : Int) + (i : Int) = (i : Int) := by omega
      refine ⟨rfl, _, rfl, _, rfl, a, us, dn, z, c, l, i, by rw [ei]; rfl, hL.same sm, g, by omega, fun H3 s3 => ?_⟩
      refine ⟨_, rfl, _, rfl, a, us, dn, z, c, l, i, by rw [ei]; rfl, (hL.same sm).same s3, g, by omega, _, _, rfl, rfl, _, 1, rfl, rfl, _, s3 _ _ hD, ?_, fun b o eb => ?_, ?_⟩
      · rw [List.length_map, List.length_map, List.length_range]
        exact Nat.lt_of_lt_of_le (show i < 7 by omega) (by decide)
      · rw [upd_ne (ne_of_none eb nD)]
        exact s3 _ _ (sm _ _ eb)
      · rw [upd_same, List.range_succ, List.map_append, List.map_append]
        rfl
    · rintro H2 ⟨sm, hD⟩
      refine ⟨D, _, rfl, SqL.of hD, ?_⟩
      have e : ∀ j : Nat, ((List.range j).map fun k => lmM us dn z c l k - fmM us dn l k + 1).sum = FU us dn z c l j := by
        intro j
        induction j with
        | zero => rfl
        | succ j ih =>
          rw [List.range_succ, List.map_append, List.map_singleton, sum_snoc, ih]
          rfl
      rw [e]
      exact q H2 sm
theorem ok_figb {C : Addr} (d : Dd K mg "figures_before" sFiguresB ["ladder", "number"]) (dU : Dd K mg "figures_before_unit" sFiguresBU ["ladder", "unit"]) (dF : Dd K mg "first_mark" sFirstMark ["ladder", "place"]) (dP : Dd K mg "placed" sPlaced ["ladder", "number"])
    (GU' : FnOk P w K mg base CX0 5 dU.f dU.fd ["ladder", "unit"] (spFiguresBU K C)) (GF : FnOk P w K mg base CX0 2 dF.f dF.fd ["ladder", "place"] (spFirstMark K C)) (GP : FnOk P w K mg base CX0 4 dP.f dP.fd ["ladder", "number"] (spPlaced K C)) :
    FnOk P w K mg base CX0 6 d.f d.fd ["ladder", "number"] (spFiguresB K C) := by
  refine d.F.ok scFiguresB (fun vs H Q E h => ?_) (fun cdv A outer s H vs Q E hr h => ?_)
  · obtain ⟨_, _, _, _, _, _, _, rfl, _⟩ := h
    rfl
  · obtain ⟨a, us, dn, z, c, l, n, rfl, hL, g, h0, q⟩ := h
    have hr1 : Room 2 _ := hr.mono (by decide)
    have hr3 : Room 4 _ := hr.mono (by decide)
    have nd := scFiguresB.nd
    refine ⟨_, pss_cons (ps_asg (pe_call GP hr3 (by rfl) dP.g dP.F.kp dP.b .nil pass0 (pa_cons (pv 0) (pa_cons (pv 1) pa_nil))) (pg_tup rfl (pgs_cons (pg_name (i := 2) nd rfl (.inl rfl)) (pgs_cons (pg_name (i := 3) nd rfl (.inl rfl)) pgs_nil))))
      (pss_one (ps_ret (pe_op op_sub (pe_op op_add (pe_call GU' hr (by rfl) dU.g dU.F.kp dU.b .nil pass0 (pa_cons (pv 0) (pa_cons (pv 2) pa_nil))) (pv 3)) (pe_call GF hr1 (by rfl) dF.g dF.F.kp dF.b .nil pass0 (pa_cons (pv 0) (pa_cons (pv 2) pa_nil)))))), ?_⟩
    obtain ⟨k1, k2, k3⟩ := placedM_ok (c := c) g h0
    refine ⟨_, rfl, _, rfl, a, us, dn, z, c, l, n, rfl, hL, g, h0, fun r H1 s1 hr' => ?_⟩
    refine ⟨r, _, rfl, hr', rfl, _, _, rfl, _, _, rfl, rfl, ?_⟩
    refine ⟨_, rfl, _, rfl, a, us, dn, z, c, l, _, rfl, hL.same s1, g, k1, fun H2 s2 => ?_⟩
    exact ⟨_, rfl, _, _, rfl, rfl, _, rfl, _, rfl, a, us, dn, z, c, l, _, rfl, (hL.same s1).same s2, g, k1, _, _, rfl, rfl, q H2 (s1.trans s2)⟩
theorem ok_placeof {C : Addr} (d : Dd K mg "place_of" sPlaceOf ["ladder", "text"]) (dR : Dd K mg "range_of_shown" sRShown ["ladder", "text"]) (dB : Dd K mg "figures_before" sFiguresB ["ladder", "number"])
    (GR : FnOk P w K mg base CX0 6 dR.f dR.fd ["ladder", "text"] (spRShown K C)) (GB : FnOk P w K mg base CX0 6 dB.f dB.fd ["ladder", "number"] (spFiguresB K C)) :
    FnOk P w K mg base CX0 7 d.f d.fd ["ladder", "text"] (spPlaceOf K C) := by
  refine d.F.ok scPlaceOf (fun vs H Q E h => ?_) (fun cdv A outer s H vs Q E hr h => ?_)
  · obtain ⟨_, _, _, _, _, _, _, _, rfl, _⟩ := h
    rfl
  · obtain ⟨a, us, dn, z, c, l, p, m, rfl, hL, g, hlt, hm, hm2, hle, q⟩ := h
    have nd := scPlaceOf.nd
    refine ⟨_, pss_cons (ps_asg (pe_call GR hr (by rfl) dR.g dR.F.kp dR.b .nil pass0 (pa_cons (pv 0) (pa_cons (pv 1) pa_nil))) (pg_tup rfl (pgs_cons (pg_name (i := 2) nd rfl (.inl rfl)) (pgs_cons (pg_name (i := 3) nd rfl (.inl rfl)) pgs_nil))))
      (pss_one (ps_ret (pe_call GB hr (by rfl) dB.g dB.F.kp dB.b .nil pass0 (pa_cons (pv 0) (pa_cons (pv 2) pa_nil))))), ?_⟩
    refine ⟨_, rfl, _, rfl, a, us, dn, z, c, l, p, m, rfl, hL, g, hlt, hm, hm2, hle, fun r H1 s1 hr1 => ?_⟩
    refine ⟨r, _, rfl, hr1, rfl, _, _, rfl, _, _, rfl, rfl, ?_⟩
    have h0 := low_nn (c := c) g hlt m
    have e := (range_iff (c := c) g h0 hlt hm).mpr ⟨Int.le_refl _, hle⟩
    refine ⟨_, rfl, _, rfl, a, us, dn, z, c, l, _, rfl, hL.same s1, g, h0, fun H2 s2 => ?_⟩
    unfold fbM
    rw [e]
    exact q H2 (s1.trans s2)
theorem ok_figat {C : Addr} (d : Dd K mg "figure_at" sFigureAt ["ladder", "place"]) (dU : Dd K mg "figures_before_unit" sFiguresBU ["ladder", "unit"]) (dF : Dd K mg "first_mark" sFirstMark ["ladder", "place"]) (dC : Dd K mg "check_ladder" sCLad ["ladder"]) (dW : DdW K mg) (dT : Dd K mg "written" sWritten ["ladder", "place", "mark"]) (L : LadC K mg) (eC : C = L.C) (B : Bt mg) (gP : ∃ t, mg "MOST_PLACE" = some (.int 1000000000 t))
    (GU' : FnOk P w K mg base CX0 5 dU.f dU.fd ["ladder", "unit"] (spFiguresBU K C)) (GF : FnOk P w K mg base CX0 2 dF.f dF.fd ["ladder", "place"] (spFirstMark K C)) (GC : FnOk P w K mg base CX0 2 dC.f dC.fd ["ladder"] (spCLad K C)) (GT : FnOk P w K mg base CX0 2 dT.f dT.fd ["ladder", "place", "mark"] (spWritten K C)) :
    FnOk P w K mg base CX0 6 d.f d.fd ["ladder", "place"] (spFigureAt K C) := by
  subst eC
  obtain ⟨t1, g1⟩ := gP
  have GW : FnOk P w K mg base CX0 2 dW.f dW.fd ["value", "low", "high"] spWithin := ok_within dW B
  refine d.F.ok scFigureAt (fun vs H Q E h => ?_) (fun cdv A outer s H vs Q E hr h => ?_)
  · obtain ⟨_, _, _, _, _, _, _, rfl, _⟩ := h
    rfl
  · obtain ⟨a, us, dn, z, c, l, k, rfl, hL, g, h0, h1, q⟩ := h
    have hr1 : Room 2 _ := hr.mono (by decide)
    have nd := scFigureAt.nd
    refine ⟨_, pss_cons (ps_expr (pe_call GC hr1 (by rfl) dC.g dC.F.kp dC.b .nil pass0 (pa_cons (pv 0) pa_nil)))
      (pss_cons (ps_if (pt_not (pt_val (pe_call GW hr1 (by rfl) dW.g dW.F.kp dW.b .nil pass0 (pa_cons (pv 1) (pa_cons pe_int (pa_cons (pe_glob (v := .int 1000000000) (by rfl) g1 ⟨_, rfl⟩) pa_nil)))))) (pss_one ps_never) pss_nil)
      (Evl.pss_cut (ps_setLc (i := 2) (own := [("unit", 3)]) (g := gName 3) (tt := tYes) rfl nd rfl rfl (by rfl) (pi_range1 (by rfl) B.range (pa_cons (pe_callB call_len_seq (by rfl) B.len PySem.boot_len (pa_cons (pe_fld (pv 0) rfl) pa_nil)) pa_nil))
          (blkOk_by (own := [("unit", 3)]) (N := ["ladder", "place", "firsts", "unit", "first"]) (sc := defScope sFigureAt) (by decide +kernel)) (fun _ _ _ _ _ => pg_name (i := 3) nd rfl (Or.inl rfl)) (fun _ _ _ _ _ => pts_nil)
          (fun _ _ _ _ _ => pe_call GU' hr (by rfl) dU.g dU.F.kp dU.b .nil pass0 (pa_cons (pv 0) (pa_cons (pv 3) pa_nil))))
      (Evl.pss_cut (ps_set (i := 3) nd rfl (.inl rfl) (pe_op op_sub (pe_callB call_len_seq (by rfl) B.len PySem.boot_len (pa_cons
          (pe_lc (own := [("first", 4)]) (g := gName 4) rfl nd (pi_list (pv 2)) (blkOk_by (own := [("first", 4)]) (N := ["ladder", "place", "firsts", "unit", "first"]) (sc := defScope sFigureAt) (by decide +kernel)) (fun _ _ _ _ _ => pg_name (i := 4) nd rfl (Or.inl rfl))
            (fun _ _ _ _ _ => pts_one (pt_cmpR op_le (pv 4) (pv 1) (nomark _))) (fun _ _ _ _ _ => pv 4)) pa_nil)) pe_int))
      (pss_one (ps_ret (pe_call GT hr1 (by rfl) dT.g dT.F.kp dT.b .nil pass0 (pa_cons (pv 0) (pa_cons (pv 3) (pa_cons (pe_op op_sub (pe_op op_add (pe_call GF hr1 (by rfl) dF.g dF.F.kp dF.b .nil pass0 (pa_cons (pv 0) (pa_cons (pv 3) pa_nil))) (pv 1)) (pe_ix ix_list (pv 2) (pv 3) (fun _ _ => rfl))) pa_nil))))))))), ?_⟩
    have hlo := g.u.lo
    have hhi := g.u.hi
    refine ⟨_, rfl, a, us, dn, z, c, l, rfl, hL, ?_⟩
    refine ⟨_, rfl, k, 0, 1000000000, rfl, ?_⟩
    rw [decide_eq_true (show (0 : Int) ≤ k ∧ k ≤ 1000000000 from ⟨h0, h1⟩)]
    refine ⟨true, rfl, iteF ?_⟩
    obtain ⟨dx, ua, t, st, th, hp, ⟨ps, hua, hu⟩, ht, hs, hth⟩ := id hL
    have el := UP.len hu
    refine ⟨fun σ' H' => ∃ F, σ' = [some (.ref a), some (.int k), some (.ref F), none, none] ∧ Same H H' ∧ H' F = some (.lst (((List.range us.length).map fun j => FU us dn z c l j).map V.int)), ?_, ?_⟩
    · refine ⟨_, rfl, a, L.C, dx, _, _, rfl, hp, L.cl, L.nUnits, fl_units .., ua, _, rfl, .inr hua, _, rfl, by rw [List.length_map, el]; omega, by rw [List.length_map, el]; omega, fun D nD => ?_⟩
      rw [List.length_map, el, Int.toNat_natCast]
      refine lc_range (lo := 0) (n := us.length) (fun i H2 => Same H H2 ∧ H2 D = some (.lst (((List.range i).map fun j => FU us dn z c l j).map V.int))) ⟨same_upd nD, upd_same⟩ ?_ ?_
      · rintro i H2 hi ⟨sm, hD⟩
        have ei : (0 : Int) + (i : Int) = (i : Int) := by omega
        refine ⟨rfl, _, rfl, _, rfl, a, us, dn, z, c, l, i, by rw [ei]; rfl, hL.same sm, g, hi, fun H3 s3 => ?_⟩
        refine ⟨_, s3 _ _ hD, ?_, fun b o eb => ?_, ?_⟩
        · rw [List.length_map, List.length_map, List.length_range]
          exact Nat.lt_of_lt_of_le (show i < 7 by omega) (by decide)
        · rw [upd_ne (ne_of_none eb nD)]
          exact s3 _ _ (sm _ _ eb)
        · rw [upd_same, List.range_succ, List.map_append, List.map_append]
          rfl
      · rintro H2 ⟨sm, hD⟩
        exact ⟨D, rfl, sm, hD⟩
    rintro σ' H1 ⟨F, rfl, s1, hF⟩
    obtain ⟨T, eT⟩ : ∃ T, ((List.range us.length).map fun j => FU us dn z c l j) = T := ⟨_, rfl⟩
    have Tlen : T.length = us.length := by rw [← eT, List.length_map, List.length_range]
    have Tat : ∀ j, j < us.length → T[j]? = some (FU us dn z c l j) := fun j hj => by
      rw [← eT, List.getElem?_map, List.getElem?_range hj]
      rfl
    have Tup : T.Pairwise (· ≤ ·) := by
      rw [List.pairwise_iff_getElem]
      intro i j hi hj hij
      have e1 := Tat i (by omega)
      have e2 := Tat j (by omega)
      rw [List.getElem?_eq_getElem hi] at e1
      rw [List.getElem?_eq_getElem hj] at e2
      rw [Option.some.inj e1, Option.some.inj e2]
      exact FU_mono (c := c) g (by omega) (by omega)
    rw [eT] at hF
    have c0 := (asc_cnt (n := k) Tup (Tat 0 (by omega))).mp (by show (0 : Int) ≤ k; exact h0)
    have cle : (T.filter fun x => decide (x ≤ k)).length ≤ us.length := by rw [← Tlen]; exact List.length_filter_le _ _
    obtain ⟨p, hpc⟩ : ∃ p, (T.filter fun x => decide (x ≤ k)).length = p + 1 := ⟨(T.filter fun x => decide (x ≤ k)).length - 1, by omega⟩
    have hp1 : p < us.length := by omega
    have f1 := (asc_cnt (n := k) Tup (Tat p hp1)).mpr (by omega)
    have f2 : p + 1 < us.length → k < FU us dn z c l (p + 1) := fun hq => by
      rcases Int.lt_or_le k (FU us dn z c l (p + 1)) with y | y
      · exact y
      · have := (asc_cnt (n := k) Tup (Tat (p + 1) hq)).mp y
        omega
    refine ⟨fun σ' H' => σ' = [some (.ref a), some (.int k), some (.ref F), some (.int (p : Int)), none] ∧ Same H1 H', ?_, ?_⟩
    · refine ⟨_, rfl, F, rfl, ⟨_, SqL.of hF⟩, fun D nD => ?_⟩
      refine lc_list (K := K) (a := F) (xs := T.map V.int) (fun i H2 => Same H1 H2 ∧ H2 D = some (.lst (((T.take i).filter fun t => decide (t ≤ k)).map V.int))) ⟨same_upd nD, upd_same⟩ (fun i H2 _ h => SqL.of (h.1 _ _ hF)) ?_ ?_
      · rintro i x H2 hi ⟨sm, hD⟩
        rw [List.getElem?_map] at hi
        cases hy : T[i]? with
        | none => rw [hy] at hi; cases hi
        | some y =>
          rw [hy] at hi
          cases hi
          have et : (T.take (i + 1)).filter (fun t => decide (t ≤ k)) = (T.take i).filter (fun t => decide (t ≤ k)) ++ (if decide (y ≤ k) = true then [y] else []) := by
            rw [List.take_add_one, hy, List.filter_append]
            congr 1
            show List.filter _ [y] = _
            rw [List.filter_cons]
            rfl
          refine ⟨rfl, .int y, rfl, .int k, rfl, y, k, rfl, rfl, _, rfl, ite2 (fun c1 => ?_) (fun c1 => ?_)⟩
          · refine ⟨.int y, rfl, _, hD, ?_, fun b o eb => ?_, ?_⟩
            · rw [List.length_map]
              have k1 : ((T.take i).filter fun t => decide (t ≤ k)).length ≤ 6 := Nat.le_trans (List.length_filter_le _ _) (by rw [List.length_take, Tlen]; omega)
              exact Nat.lt_of_le_of_lt k1 (by decide)
            · rw [upd_ne (ne_of_none eb nD)]
              exact sm _ _ eb
            · have c2 : decide (y ≤ k) = true := c1
              rw [upd_same, et, if_pos c2, List.map_append]
              rfl
          · have c2 : ¬ decide (y ≤ k) = true := c1
            refine ⟨sm, ?_⟩
            rw [et, if_neg c2, List.append_nil]
            exact hD
      · rintro H2 ⟨sm, hD⟩
        rw [List.length_map, List.take_of_length_le (Nat.le_refl _)] at hD
        refine ⟨D, _, rfl, .inl (SqL.of hD), _, 1, rfl, rfl, ?_, sm⟩
        have e : ((((T.filter fun t => decide (t ≤ k)).map V.int).length : Nat) : Int) - 1 = (p : Int) := by
          rw [List.length_map]
          omega
        show [some (V.ref a), some (V.int k), some (V.ref F), some (V.int ((((T.filter fun t => decide (t ≤ k)).map V.int).length : Int) - 1)), none] = _
        rw [e]
    rintro σ' H2 ⟨rfl, s2⟩
    obtain ⟨a1, a2, a3⟩ := at_place (c := c) g hp1 f1 f2
    have hfm := (thr_fm g hp1).2
    have hfm2 := fm_le g hp1
    have hfu := FU_nn (c := c) g hp1
    have s12 := s1.trans s2
    refine ⟨_, rfl, _, rfl, _, rfl, _, rfl, a, us, dn, z, c, l, p, rfl, hL.same s12, g, hp1, _, rfl, _, k, rfl, rfl, _, rfl, _, rfl, F, _, (p : Int), .int (FU us dn z c l p), rfl, rfl, SqL.of (s2 _ _ hF), atI_nat (by rw [List.getElem?_map, Tat p hp1]; rfl), _, _, rfl, rfl, ?_⟩
    exact ⟨a, us, dn, z, c, l, p, _, rfl, hL.same s12, g, hp1, by omega, by omega, q p _ H2 s12 hp1 (by omega) (by omega) a2 a3⟩
end
end My

namespace My
open PySem PySem.Spec PyProof.Rows L2
abbrev sForms : Stmt := top 71
theorem scForms : FnScope ["ladder", "low", "high"] ["ladder", "low", "high"] (defScope sForms) := ⟨rfl, rfl, rfl, by decide +kernel, rfl, by decide +kernel, by decide +kernel⟩
def spForms (K : PySem.W.Frag) (C : Addr) : Sp := fun vs H Q _ => ∃ (a : Addr) (us : List (Str × Int)) (d : Nat) (s : Str) (c : Bool) (l x y : Int), vs = [.ref a, .int x, .int y] ∧ LadAt K C H a us d s c l ∧ Good us d s l ∧ 0 ≤ x ∧ x ≤ y ∧ y ≤ 1000000000000000000 ∧
  ∀ (H' : Hp), Same H H' → Q (.int (fbM us d s c l y - fbM us d s c l x + 1)) H'
section
variable {P : Program} {w : World} {K : PySem.W.Frag} {mg : Str → Option Value} {base : Heap}
theorem ok_forms {C : Addr} (d : Dd K mg "forms" sForms ["ladder", "low", "high"]) (dC : Dd K mg "check_ladder" sCLad ["ladder"]) (dN : Dd K mg "check_number" sCNum ["number"]) (dB : Dd K mg "figures_before" sFiguresB ["ladder", "number"])
    (GC : FnOk P w K mg base CX0 2 dC.f dC.fd ["ladder"] (spCLad K C)) (GN : FnOk P w K mg base CX0 3 dN.f dN.fd ["number"] spCNum) (GB : FnOk P w K mg base CX0 6 dB.f dB.fd ["ladder", "number"] (spFiguresB K C)) :
    FnOk P w K mg base CX0 7 d.f d.fd ["ladder", "low", "high"] (spForms K C) := by
  refine d.F.ok scForms (fun vs H Q E h => ?_) (fun cdv A outer s H vs Q E hr h => ?_)
  · obtain ⟨_, _, _, _, _, _, _, _, rfl, _⟩ := h
    rfl
  · obtain ⟨a, us, dn, z, c, l, x, y, rfl, hL, g, x0, xy, y1, q⟩ := h
    have hr1 : Room 2 _ := hr.mono (by decide)
    have hr2 : Room 3 _ := hr.mono (by decide)
    refine ⟨_, pss_cons (ps_expr (pe_call GC hr1 (by rfl) dC.g dC.F.kp dC.b .nil pass0 (pa_cons (pv 0) pa_nil)))
      (pss_cons (ps_expr (pe_call GN hr2 (by rfl) dN.g dN.F.kp dN.b .nil pass0 (pa_cons (pv 1) pa_nil)))
      (pss_cons (ps_expr (pe_call GN hr2 (by rfl) dN.g dN.F.kp dN.b .nil pass0 (pa_cons (pv 2) pa_nil)))
      (pss_cons (ps_if (pt_cmpR op_lt (pv 2) (pv 1) (nomark _)) (pss_one ps_never) pss_nil)
      (pss_one (ps_ret (pe_op op_add (pe_op op_sub (pe_call GB hr (by rfl) dB.g dB.F.kp dB.b .nil pass0 (pa_cons (pv 0) (pa_cons (pv 2) pa_nil))) (pe_call GB hr (by rfl) dB.g dB.F.kp dB.b .nil pass0 (pa_cons (pv 0) (pa_cons (pv 1) pa_nil)))) pe_int)))))), ?_⟩
    have e : decide (y < x) = false := decide_eq_false (by omega)
    refine ⟨_, rfl, a, us, dn, z, c, l, rfl, hL, _, rfl, x, rfl, x0, by omega, _, rfl, y, rfl, by omega, y1, ?_⟩
    refine ⟨_, rfl, _, rfl, _, _, rfl, rfl, _, rfl, ?_⟩
    rw [e]
    refine iteF ?_
    refine ⟨_, rfl, _, rfl, a, us, dn, z, c, l, y, rfl, hL, g, by omega, fun H1 s1 => ?_⟩
    refine ⟨_, rfl, _, rfl, a, us, dn, z, c, l, x, rfl, hL.same s1, g, x0, fun H2 s2 => ?_⟩
    exact ⟨_, _, rfl, rfl, _, 1, rfl, rfl, q H2 (s1.trans s2)⟩
end
end My

namespace My
open PySem PySem.Spec PyProof.Rows L2
/-! ### when two ladders show the same -/
/-- what a step and a rounding may be -/
structure Stp (st : Int) (s : Str) : Prop where
  pos : 0 < st
  even : st = 1 ∨ st % 2 = 0
  srt : s ∈ sorts
theorem Good.stp {us : List (Str × Int)} {d : Nat} {s : Str} {l : Int} (g : Good us d s l) {p : Nat} (hp : p < us.length) : Stp ((stepsOf us d).getD p 0) s := ⟨(steps_ok g hp).2.1, step_even g hp, g.srt⟩
/-- two marks further it goes on alike -/
theorem firstR_two {m st : Int} {s : Str} (h : Stp st s) (m1 : 1 ≤ m) : firstR (m + 2) st s = firstR m st s + 2 * st := by
  have e : (m + 2) * st = m * st + 2 * st := by rw [Int.add_mul]
  have e' : (m + 2 - 1) * st = (m - 1) * st + 2 * st := by rw [show m + 2 - 1 = (m - 1) + 2 by omega, Int.add_mul]
  have c1 : (m + 2 = 0 ∨ st = 1 ∨ s = "down") ↔ (m = 0 ∨ st = 1 ∨ s = "down") := ⟨fun y => y.elim (fun y => by omega) .inr, fun y => y.elim (fun y => by omega) .inr⟩
  have c2 : (s = "even" ∧ (m + 2) % 2 = 1) ↔ (s = "even" ∧ m % 2 = 1) := ⟨fun y => ⟨y.1, by omega⟩, fun y => ⟨y.1, by omega⟩⟩
  unfold firstR
  rw [e, e']
  by_cases k1 : m = 0 ∨ st = 1 ∨ s = "down"
  · rw [if_pos (c1.mpr k1), if_pos k1]
  · rw [if_neg (fun y => k1 (c1.mp y)), if_neg k1]
    by_cases k2 : s = "up"
    · rw [if_pos k2, if_pos k2]
      omega
    · rw [if_neg k2, if_neg k2]
      by_cases k3 : s = "even" ∧ m % 2 = 1
      · rw [if_pos (c2.mpr k3), if_pos k3]
        omega
      · rw [if_neg (fun y => k3 (c2.mp y)), if_neg k3]
        omega
/-- what agrees at three marks in a row agrees at all -/
theorem firstR_agree {st st' m : Int} {s s' : Str} (h : Stp st s) (h' : Stp st' s') (m0 : 0 ≤ m) (e1 : firstR (m + 1) st s = firstR (m + 1) st' s') (e2 : firstR (m + 2) st s = firstR (m + 2) st' s') (e3 : firstR (m + 3) st s = firstR (m + 3) st' s') :
    ∀ k : Nat, firstR (m + 1 + (k : Int)) st s = firstR (m + 1 + (k : Int)) st' s' := by
  have a := firstR_two h (show 1 ≤ m + 1 by omega)
  have a' := firstR_two h' (show 1 ≤ m + 1 by omega)
  rw [show m + 1 + 2 = m + 3 by omega] at a a'
  have est : st = st' := by omega
  have key : ∀ k : Nat, firstR (m + 1 + (k : Int)) st s = firstR (m + 1 + (k : Int)) st' s' ∧ firstR (m + 1 + (k : Int) + 1) st s = firstR (m + 1 + (k : Int) + 1) st' s' := by
    intro k
    induction k with
    | zero =>
      rw [show m + 1 + ((0 : Nat) : Int) = m + 1 by omega, show m + 1 + 1 = m + 2 by omega]
      exact ⟨e1, e2⟩
    | succ k ih =>
      rw [show m + 1 + ((k + 1 : Nat) : Int) = m + 1 + (k : Int) + 1 by omega]
      refine ⟨ih.2, ?_⟩
      rw [show m + 1 + (k : Int) + 1 + 1 = m + 1 + (k : Int) + 2 by omega, firstR_two h (by omega), firstR_two h' (by omega), ih.1, est]
  exact fun k => (key k).1
theorem rnd_step_eq {n st m : Int} {s : Str} (h : Stp st s) (n0 : 0 ≤ n) (m0 : 0 ≤ m) (h1 : rnd n st s < m) (h2 : m ≤ rnd (n + 1) st s) : n + 1 = firstR m st s := by
  have a := (rnd_ge h.srt h.even h.pos (show 0 ≤ n + 1 by omega) m0).mp h2
  have b : ¬ firstR m st s ≤ n := fun y => by have := (rnd_ge h.srt h.even h.pos n0 m0).mpr y; omega
  omega
/-- marks that are equal up to a change, and not from there on: the change is one of the next three -/
theorem change_near {st st' a n : Int} {s s' : Str} (h : Stp st s) (h' : Stp st' s') (a0 : 0 ≤ a) (an : a < n) (hsame : ∀ x, a ≤ x → x < n → rnd x st s = rnd x st' s') (hinc : rnd (n - 1) st s < rnd n st s) (hst : rnd n st' s' ≤ rnd (n - 1) st' s') :
    ∃ j : Nat, j < 3 ∧ n = firstR (rnd a st s + 1 + (j : Int)) st s := by
  have r0 := rnd_nn (s := s) a0 h.pos
  have hm := rnd_mono h.srt h.even h.pos a0 (show a ≤ n - 1 by omega)
  have hn : n = firstR (rnd (n - 1) st s + 1) st s := by
    have := rnd_step_eq (n := n - 1) (m := rnd (n - 1) st s + 1) h (by omega) (by omega) (by omega) (by rw [Int.sub_add_cancel]; omega)
    omega
  rcases Int.lt_or_le (rnd (n - 1) st s) (rnd a st s + 3) with y | y
  · refine ⟨(rnd (n - 1) st s - rnd a st s).toNat, by omega, ?_⟩
    rw [show rnd a st s + 1 + ((rnd (n - 1) st s - rnd a st s).toNat : Int) = rnd (n - 1) st s + 1 by omega]
    exact hn
  · exfalso
    have ea := hsame a (Int.le_refl _) an
    have en := hsame (n - 1) (by omega) (by omega)
    -- a change of the one is a change of the other
    have both : ∀ i : Int, 1 ≤ i → i ≤ 3 → firstR (rnd a st s + i) st s = firstR (rnd a st s + i) st' s' := fun i i1 i2 => by
      have b1 := (rnd_ge (m := rnd a st s + i) h.srt h.even h.pos (show 0 ≤ n - 1 by omega) (by omega)).mp (by omega)
      have b2 : ¬ firstR (rnd a st s + i) st s ≤ a := fun w => by have := (rnd_ge (m := rnd a st s + i) h.srt h.even h.pos a0 (by omega)).mpr w; omega
      have c1 := hsame (firstR (rnd a st s + i) st s) (by omega) (by omega)
      have c2 := hsame (firstR (rnd a st s + i) st s - 1) (by omega) (by omega)
      have d1 := (rnd_ge (n := firstR (rnd a st s + i) st s) (m := rnd a st s + i) h.srt h.even h.pos (by omega) (by omega)).mpr (Int.le_refl _)
      have d2 : ¬ rnd a st s + i ≤ rnd (firstR (rnd a st s + i) st s - 1) st s := fun w => by
        have := (rnd_ge (n := firstR (rnd a st s + i) st s - 1) (m := rnd a st s + i) h.srt h.even h.pos (by omega) (by omega)).mp w
        omega
      have := rnd_step_eq (n := firstR (rnd a st s + i) st s - 1) (m := rnd a st s + i) h' (by omega) (by omega) (by omega) (by rw [Int.sub_add_cancel]; omega)
      omega
    have ag := firstR_agree h h' r0 (both 1 (by omega) (by omega)) (both 2 (by omega) (by omega)) (both 3 (by omega) (by omega)) (rnd (n - 1) st s - rnd a st s).toNat
    rw [show rnd a st s + 1 + ((rnd (n - 1) st s - rnd a st s).toNat : Int) = rnd (n - 1) st s + 1 by omega, ← hn] at ag
    have := (rnd_ge (n := n) (m := rnd (n - 1) st s + 1) h'.srt h'.even h'.pos (by omega) (by omega)).mpr (by omega)
    omega
/-! the form of a figure -/
theorem split_at {X X' Y Y' : List Nat} (h : 46 ∉ X) (h' : 46 ∉ X') (e : X ++ 46 :: Y = X' ++ 46 :: Y') : X = X' ∧ Y = Y' := by
  induction X generalizing X' with
  | nil =>
    cases X' with
    | nil => exact ⟨rfl, (List.cons.inj e).2⟩
    | cons x r =>
      have := (List.cons.inj e).1
      exact absurd (by rw [this]; exact List.mem_cons_self) h'
  | cons x r ih =>
    cases X' with
    | nil =>
      have := (List.cons.inj e).1
      exact absurd (by rw [this]; exact List.mem_cons_self) h
    | cons x' r' =>
      obtain ⟨e1, e2⟩ := List.cons.inj e
      obtain ⟨i1, i2⟩ := ih (X' := r') (fun w => h (List.mem_cons_of_mem _ w)) (fun w => h' (List.mem_cons_of_mem _ w)) e2
      exact ⟨by rw [e1, i1], i2⟩
theorem no46 {L : List Nat} (h : ∀ c ∈ L, 48 ≤ c ∧ c ≤ 57) : 46 ∉ L := fun w => by have := h 46 w; omega
theorem dg_inj {m m' : Int} {n n' : Nat} (hm : 0 ≤ m) (hm' : 0 ≤ m') (l1 : n + (dg m).length ≤ 4300) (e : List.replicate n 48 ++ dg m = List.replicate n' 48 ++ dg m') : m = m' := by
  have b1 := int_back (t := ⟨(List.replicate n 48 ++ dg m).toArray⟩) (n := n) hm rfl (by
    rw [str_len]
    show (List.replicate n 48 ++ dg m).length ≤ 4300
    rw [List.length_append, List.length_replicate]
    exact l1)
  have b2 := int_back (t := ⟨(List.replicate n 48 ++ dg m).toArray⟩) (n := n') hm' e (by
    rw [str_len]
    show (List.replicate n 48 ++ dg m).length ≤ 4300
    rw [List.length_append, List.length_replicate]
    exact l1)
  rw [b1] at b2
  exact Option.some.inj b2
theorem writ_form {us us' : List (Str × Int)} {d d' p p' : Nat} {m m' : Int} (g : GoodUs us) (g' : GoodUs us') (hd : d ≤ 3) (hd' : d' ≤ 3) (hp : p < us.length) (hp' : p' < us'.length) (hm : 0 ≤ m) (hm' : 0 ≤ m') (h1 : m < 10 ^ 40) (h2 : m' < 10 ^ 40) (e : writ us d p m = writ us' d' p' m') :
    m = m' ∧ ∀ k, writ us d p k = writ us' d' p' k := by
  have ea : ahead d p m = ahead d' p' m' := by rw [← writ_ahead g hp hm, ← writ_ahead g' hp' hm', e]
  have wc := writ_codes (us := us) (d := d) (p := p) (m := m)
  have wc' := writ_codes (us := us') (d := d') (p := p') (m := m')
  rw [e, ea, wc'] at wc
  have en : (us'.getD p' ("", 0)).1 = (us.getD p ("", 0)).1 := str_ext (List.append_cancel_left wc)
  have l1 := dg_small (m := m) (by omega)
  have l2 := dg_small (m := m') (by omega)
  have dz : ∀ {d : Nat} {m : Int}, 0 ≤ m → 46 ∉ zf d m := fun {d m} hm => no46 (zf_digits hm)
  by_cases c : p = 0 ∨ d = 0
  · by_cases c' : p' = 0 ∨ d' = 0
    · have ed : dg m = dg m' := by
        unfold ahead at ea
        rw [if_pos c, if_pos c'] at ea
        exact ea
      refine ⟨dg_inj (n := 0) (n' := 0) hm hm' (by omega) (by rw [List.replicate_zero, List.nil_append, List.nil_append]; exact ed), fun k => ?_⟩
      unfold writ
      rw [if_pos c, if_pos c', en]
    · exfalso
      unfold ahead at ea
      rw [if_pos c, if_neg c'] at ea
      have : 46 ∈ dg m := by
        rw [ea]
        unfold body
        exact List.mem_append_right _ List.mem_cons_self
      exact no46 (dg_digits hm) this
  · by_cases c' : p' = 0 ∨ d' = 0
    · exfalso
      unfold ahead at ea
      rw [if_neg c, if_pos c'] at ea
      have : 46 ∈ dg m' := by
        rw [← ea]
        unfold body
        exact List.mem_append_right _ List.mem_cons_self
      exact no46 (dg_digits hm') this
    · unfold ahead at ea
      rw [if_neg c, if_neg c'] at ea
      have eb := ea
      unfold body at eb
      obtain ⟨_, eY⟩ := split_at (fun w => dz hm (List.mem_of_mem_take w)) (fun w => dz hm' (List.mem_of_mem_take w)) eb
      have eL := congrArg List.length eY
      rw [List.length_drop, List.length_drop, zf_len, zf_len] at eL
      have hdd : d = d' := by omega
      have ef : zf d m = zf d' m' := by rw [← filter_body hm, ← filter_body hm', ea]
      refine ⟨?_, fun k => ?_⟩
      · unfold zf at ef
        exact dg_inj hm hm' (by omega) ef
      · unfold writ
        rw [if_neg c, if_neg c', en, hdd]
/-! the numbers that are tried -/
def chg (us : List (Str × Int)) (d : Nat) (s : Str) (c : Bool) (l n : Int) (k : Nat) : List Int := (List.range k).map fun (j : Nat) => firstR ((placedM us d s c l n).2 + (1 + (j : Int))) ((stepsOf us d).getD (placedM us d s c l n).1 0) s
def stars (us : List (Str × Int)) (d : Nat) (s : Str) (c : Bool) (l : Int) : List Int := (List.range us.length).map fun p => startM us d s c l p
theorem unit_in {us : List (Str × Int)} {d : Nat} {s : Str} {c : Bool} {l : Int} (g : Good us d s l) {n x : Int} (n0 : 0 ≤ n) (h1 : startM us d s c l (placedM us d s c l n).1 ≤ x) (h2 : x ≤ n) : (placedM us d s c l x).1 = (placedM us d s c l n).1 := by
  have hlt := (placedM_ok (c := c) g n0).1
  have hs := start_nn (c := c) g hlt
  have a := (place_ge (c := c) (n := x) g (by omega) hlt).mpr h1
  have b := place_mono (c := c) (n := x) (n' := n) g (by omega) h2
  omega
theorem chg_mem {us : List (Str × Int)} {d : Nat} {s : Str} {c : Bool} {l n : Int} {k j : Nat} (hj : j < k) {x : Int} (e : x = firstR ((placedM us d s c l n).2 + 1 + (j : Int)) ((stepsOf us d).getD (placedM us d s c l n).1 0) s) : x ∈ chg us d s c l n k := by
  refine List.mem_map.mpr ⟨j, List.mem_range.mpr hj, ?_⟩
  rw [e, Int.add_assoc]
/-- the first number that is shown differently is tried -/
theorem unlike_tried {us us' : List (Str × Int)} {d d' : Nat} {s s' : Str} {c c' : Bool} {l l' n : Int} (g : Good us d s l) (g' : Good us' d' s' l') (n0 : 0 ≤ n) (n1 : n < 10 ^ 39) (hne : shown us d s c l n ≠ shown us' d' s' c' l' n) (hmin : ∀ x, 0 ≤ x → x < n → shown us d s c l x = shown us' d' s' c' l' x) :
    ∃ a, (a ∈ stars us d s c l ∨ a ∈ stars us' d' s' c' l') ∧ (n = a ∨ n ∈ chg us d s c l a 3 ∨ n ∈ chg us' d' s' c' l' a 3) := by
  obtain ⟨k1, k2, k3⟩ := placedM_ok (c := c) g n0
  obtain ⟨j1, j2, j3⟩ := placedM_ok (c := c') g' n0
  have hA := (place_ge (c := c) g n0 k1).mp (Nat.le_refl _)
  have hB := (place_ge (c := c') g' n0 j1).mp (Nat.le_refl _)
  have sA0 := start_nn (c := c) g k1
  have sB0 := start_nn (c := c') g' j1
  have mA : startM us d s c l (placedM us d s c l n).1 ∈ stars us d s c l := List.mem_map.mpr ⟨_, List.mem_range.mpr k1, rfl⟩
  have mB : startM us' d' s' c' l' (placedM us' d' s' c' l' n).1 ∈ stars us' d' s' c' l' := List.mem_map.mpr ⟨_, List.mem_range.mpr j1, rfl⟩
  have uA := fun x (h1 : startM us d s c l (placedM us d s c l n).1 ≤ x) (h2 : x ≤ n) => unit_in (c := c) g n0 h1 h2
  have uB := fun x (h1 : startM us' d' s' c' l' (placedM us' d' s' c' l' n).1 ≤ x) (h2 : x ≤ n) => unit_in (c := c') g' n0 h1 h2
  have hpA := g.stp k1
  have hpB := g'.stp j1
  have sndA := fun x => placed_snd us d s c l x
  have sndB := fun x => placed_snd us' d' s' c' l' x
  obtain ⟨pA, epA⟩ : ∃ p, (placedM us d s c l n).1 = p := ⟨_, rfl⟩
  obtain ⟨pB, epB⟩ : ∃ p, (placedM us' d' s' c' l' n).1 = p := ⟨_, rfl⟩
  rw [epA] at hA sA0 mA uA hpA k1
  rw [epB] at hB sB0 mB uB hpB j1
  -- the later one of both starts
  obtain ⟨a, ha, ha1, ha2, han⟩ : ∃ a, (a ∈ stars us d s c l ∨ a ∈ stars us' d' s' c' l') ∧ startM us d s c l pA ≤ a ∧ startM us' d' s' c' l' pB ≤ a ∧ a ≤ n := by
    rcases Int.lt_or_le (startM us d s c l pA) (startM us' d' s' c' l' pB) with y | y
    · exact ⟨_, .inr mB, by omega, Int.le_refl _, hB⟩
    · exact ⟨_, .inl mA, Int.le_refl _, y, hA⟩
  refine ⟨a, ha, ?_⟩
  rcases Int.lt_or_le a n with y | y
  · right
    have a0 : 0 ≤ a := by omega
    -- marks in this stretch
    have wA : ∀ x, a ≤ x → x ≤ n → shown us d s c l x = writ us d pA (rnd x ((stepsOf us d).getD pA 0) s) := fun x h1 h2 => by
      unfold shown
      rw [sndA, uA x (by omega) h2]
    have wB : ∀ x, a ≤ x → x ≤ n → shown us' d' s' c' l' x = writ us' d' pB (rnd x ((stepsOf us' d').getD pB 0) s') := fun x h1 h2 => by
      unfold shown
      rw [sndB, uB x (by omega) h2]
    have bnd : ∀ {st : Int} {s : Str} (x : Int), 0 < st → 0 ≤ x → x ≤ n → 0 ≤ rnd x st s ∧ rnd x st s < 10 ^ 40 := fun {st s} x hst h1 h2 => by
      have := rnd_lo (s := s) h1 hst
      omega
    have form := fun x (h1 : a ≤ x) (h2 : x < n) => writ_form g.u g'.u g.d3 g'.d3 k1 j1 (bnd (s := s) x hpA.pos (by omega) (by omega)).1 (bnd (s := s') x hpB.pos (by omega) (by omega)).1 (bnd x hpA.pos (by omega) (by omega)).2 (bnd x hpB.pos (by omega) (by omega)).2 (by rw [← wA x h1 (by omega), ← wB x h1 (by omega)]; exact hmin x (by omega) h2)
    have same : ∀ x, a ≤ x → x < n → rnd x ((stepsOf us d).getD pA 0) s = rnd x ((stepsOf us' d').getD pB 0) s' := fun x h1 h2 => (form x h1 h2).1
    have fmt := (form a (Int.le_refl _) y).2
    have diff : rnd n ((stepsOf us d).getD pA 0) s ≠ rnd n ((stepsOf us' d').getD pB 0) s' := fun e => by
      refine hne ?_
      rw [wA n (by omega) (Int.le_refl _), wB n (by omega) (Int.le_refl _), e]
      exact fmt _
    have eP := same (n - 1) (by omega) (by omega)
    have incA := rnd_succ (n := n - 1) hpA.srt hpA.even hpA.pos (by omega)
    have incB := rnd_succ (n := n - 1) hpB.srt hpB.even hpB.pos (by omega)
    rw [Int.sub_add_cancel] at incA incB
    have eaA : (placedM us d s c l a).1 = pA := uA a ha1 han
    have eaB : (placedM us' d' s' c' l' a).1 = pB := uB a ha2 han
    rcases Int.lt_or_le (rnd (n - 1) ((stepsOf us d).getD pA 0) s) (rnd n ((stepsOf us d).getD pA 0) s) with w | w
    · left
      obtain ⟨j, hj, ej⟩ := change_near hpA hpB a0 y same w (by omega)
      exact chg_mem hj (by rw [sndA, eaA]; exact ej)
    · right
      obtain ⟨j, hj, ej⟩ := change_near hpB hpA a0 y (fun x h1 h2 => (same x h1 h2).symm) (by omega) w
      exact chg_mem hj (by rw [sndB, eaB]; exact ej)
  · exact .inl (by omega)
end My

/-! min(xs, default=d) of a list of ints -/
namespace MyM
open PySem PySem.W PyProof.Rows L2
section
variable {prog : Program} {w : World} {A : Around} {E : Value → Shared → Prop} {s : Shared} {l : Addr} {its : List Value} {ns : List Int} {d : Value} {Q : Value → Shared → Prop}
theorem min_intDefault {xs : Array (Int × Tok)} (hh : A.handled = none) (hl : s.heap.IsList l (intItems xs))
    (h0 : xs.size = 0 → ∀ h' tk, (∀ b o, s.heap.get? b = some o → h'.get? b = some o) → Q d { s with heap := h', toks := tk })
    (h : 0 < xs.size → ∀ v h' tk, (intItems xs)[argBest (fun i j => decide (numAt xs i < numAt xs j)) (xs.size - 1)]? = some v → (∀ b o, s.heap.get? b = some o → h'.get? b = some o) → Q v { s with heap := h', toks := tk }) :
    wpAny (model prog w) A (call (.builtin "min") [.ref l] [(Str.ofString "default", d)]) Q E s := by
  have hn : (intItems xs).size = xs.size := by simp [intItems]
  refine call_min_walkD (PySem.W.iter_listW (A := A.in1) hh hl fun s₂ e W st hfp hw hk => ?_)
  refine ⟨_, _, _, _, _, _, _, s.heap, (fun i j => decide (numAt xs i < numAt xs j)), rfl, W, st, hfp, hw, hk, fun hz s' m => ?_, fun hp => ⟨fun i j vi vj s Q E _ hi hj hq => CmpOf.ints_lt (numAt xs) (fun _ _ => intItems_at) i j vi vj s Q E hi hj hq, fun v s' hP m => ?_⟩⟩
  · obtain ⟨h', tk, rfl, hk'⟩ := PySem.W.moved_old e rfl m
    exact h0 (by omega) h' tk hk'
  · obtain ⟨h', tk, rfl, hk'⟩ := PySem.W.moved_old e rfl m
    rw [hn] at hP hp
    exact h hp v h' tk hP hk'
theorem min_rawD (hh : A.handled = none) (hl : s.heap.IsList l its.toArray) (hi : IntsAre its ns)
    (h0 : ns = [] → ∀ h' tk, (∀ b o, s.heap.get? b = some o → h'.get? b = some o) → Q d { s with heap := h', toks := tk })
    (h : ∀ h' tk M t', (∀ b o, s.heap.get? b = some o → h'.get? b = some o) → M ∈ ns → (∀ a, a ∈ ns → M ≤ a) → Q (.int M t') { s with heap := h', toks := tk }) : wpAny (model prog w) A (call (.builtin "min") [.ref l] [(Str.ofString "default", d)]) Q E s := by
  obtain ⟨xs, e⟩ := hi.allInts.items
  have hn : numsOf (intItems xs).toList = ns := by rw [← e]; exact hi.numsOf
  rw [nums_intItems] at hn
  subst hn
  rw [e] at hl
  refine min_intDefault hh hl (fun hz h' tk hk => h0 (by
    have : xs = #[] := Array.eq_empty_of_size_eq_zero hz
    subst this
    rfl) h' tk hk) fun hsz v h' tk hv hk => ?_
  obtain ⟨t, rfl⟩ := intItems_at hv
  obtain ⟨h1, h2⟩ := argBest_lt (numAt xs) (xs.size - 1)
  refine h h' tk _ t hk ?_ fun a ha => ?_
  · rw [numAt_eq]; exact PySem.getD_mem (by rw [List.length_map, Array.length_toList]; omega)
  · obtain ⟨j, hj, rfl⟩ := mem_getD ha
    rw [List.length_map, Array.length_toList] at hj
    rw [← numAt_eq]; exact h2 j (by omega)
end
def rMinD (K : PySem.W.Frag) : List V → List V → Hp → VK → Prop := fun vs zs H Q => ∃ (a : Addr) (ns : List Int) (dv : V), vs = [V.ref a] ∧ zs = [dv] ∧ SqL K H a (ns.map V.int) ∧ (ns = [] → Q dv H) ∧ ∀ m, m ∈ ns → (∀ y, y ∈ ns → m ≤ y) → Q (.int m) H
theorem cr_minD {X : Cx} (hc : X.calm = true) : CallRK X (.builtin "min") [Str.ofString "default"] (rMinD X.K) := by
  intro pins s σ H xs zs us ws Q I r rz h
  obtain ⟨a, ns, dv, rfl, rfl, hs, q0, q⟩ := h
  obtain ⟨its, rv, hl, _⟩ := I.list hs
  rw [Vals.ref1 r]
  cases rz with
  | cons rd t =>
    cases t
    exact min_rawD (I.ok.hd hc) hl.isList rv.ints (fun hn h' tk hk => ⟨dv, H, I.kept hk, rd, q0 hn⟩) fun h' tk m t' hk h1 h2 => ⟨.int _, H, I.kept hk, ⟨_, rfl⟩, q m h1 h2⟩
end MyM

namespace My
open PySem PySem.Spec PyProof.Rows L2
/-! ### starts, next changes -/
abbrev sStarts : Stmt := top 55
abbrev sNextC : Stmt := top 59
theorem scStarts : FnScope ["ladder", "place"] ["ladder"] (defScope sStarts) := ⟨rfl, rfl, rfl, by decide +kernel, rfl, by decide +kernel, by decide +kernel⟩
theorem scNextC : FnScope ["ladder", "number", "many", "place", "mark", "more"] ["ladder", "number", "many"] (defScope sNextC) := ⟨rfl, rfl, rfl, by decide +kernel, rfl, by decide +kernel, by decide +kernel⟩
def spStarts (K : PySem.W.Frag) (C : Addr) : Sp := fun vs H Q _ => ∃ (a : Addr) (us : List (Str × Int)) (d : Nat) (s : Str) (c : Bool) (l : Int), vs = [.ref a] ∧ LadAt K C H a us d s c l ∧ Good us d s l ∧
  ∀ (p : Addr) (H' : Hp), Same H H' → H p = none → H' p = some (.lst ((stars us d s c l).map V.int)) → Q (.ref p) H'
def spNextC (K : PySem.W.Frag) (C : Addr) : Sp := fun vs H Q _ => ∃ (a : Addr) (us : List (Str × Int)) (d : Nat) (s : Str) (c : Bool) (l n : Int) (k : Nat), vs = [.ref a, .int n, .int (k : Int)] ∧ LadAt K C H a us d s c l ∧ Good us d s l ∧ 0 ≤ n ∧ k ≤ 100 ∧
  ∀ (p : Addr) (H' : Hp), Same H H' → H p = none → H' p = some (.lst ((chg us d s c l n k).map V.int)) → Q (.ref p) H'
theorem LadAt.butL {K : PySem.W.Frag} {C : Addr} {H H' : Hp} {N p : Addr} {xs : List V} {us : List (Str × Int)} {d : Nat} {s : Str} {c : Bool} {l : Int} (hN : H N = some (.lst xs)) (b : But N H H') (h : LadAt K C H p us d s c l) : LadAt K C H' p us d s c l := by
  obtain ⟨dx, ua, t, st, th, h1, h2, h3, h4, h5⟩ := h
  have npa : p ≠ N := ne_of h1 hN (by intro z; cases z)
  exact ⟨dx, ua, t, st, th, b _ _ h1 npa, UA.but hN rfl b h2, b.sqt hN rfl h3, b.sqt hN rfl h4, b.sqt hN rfl h5⟩
section
variable {P : Program} {w : World} {K : PySem.W.Frag} {mg : Str → Option Value} {base : Heap}
theorem ok_starts {C : Addr} (d : Dd K mg "starts_of" sStarts ["ladder"]) (dS : Dd K mg "start_of" sStartOf ["ladder", "place"]) (L : LadC K mg) (eC : C = L.C) (B : Bt mg)
    (GS : FnOk P w K mg base CX0 3 dS.f dS.fd ["ladder", "place"] (spStartOf K C)) : FnOk P w K mg base CX0 4 d.f d.fd ["ladder"] (spStarts K C) := by
  subst eC
  refine d.F.ok scStarts (fun vs H Q E h => ?_) (fun cdv A outer s H vs Q E hr h => ?_)
  · obtain ⟨_, _, _, _, _, _, rfl, _⟩ := h
    rfl
  · obtain ⟨a, us, dn, z, c, l, rfl, hL, g, q⟩ := h
    have nd := scStarts.nd
    refine ⟨_, pss_one (ps_ret (pe_lc (own := [("place", 1)]) (g := gName 1) (tt := tYes) rfl nd (pi_range1 (by rfl) B.range (pa_cons (pe_callB call_len_seq (by rfl) B.len PySem.boot_len (pa_cons (pe_fld (pv 0) rfl) pa_nil)) pa_nil))
      (blkOk_by (own := [("place", 1)]) (N := ["ladder", "place"]) (sc := defScope sStarts) (by decide +kernel)) (fun _ _ _ _ _ => pg_name (i := 1) nd rfl (Or.inl rfl)) (fun _ _ _ _ _ => pts_nil)
      (fun _ _ _ _ _ => pe_call GS hr (by rfl) dS.g dS.F.kp dS.b .nil pass0 (pa_cons (pv 0) (pa_cons (pv 1) pa_nil))))), ?_⟩
    have hlo := g.u.lo
    have hhi := g.u.hi
    obtain ⟨dx, ua, t, st, th, hp, ⟨ps, hua, hu⟩, ht, hs, hth⟩ := id hL
    have el := UP.len hu
    refine ⟨_, rfl, a, L.C, dx, _, _, rfl, hp, L.cl, L.nUnits, fl_units .., ua, _, rfl, .inr hua, _, rfl, by rw [List.length_map, el]; omega, by rw [List.length_map, el]; omega, fun D nD => ?_⟩
    rw [List.length_map, el, Int.toNat_natCast]
    refine lc_range (lo := 0) (n := us.length) (fun i H2 => Same H H2 ∧ H2 D = some (.lst (((List.range i).map fun p => startM us dn z c l p).map V.int))) ⟨same_upd nD, upd_same⟩ ?_ ?_
    · rintro i H2 hi ⟨sm, hD⟩
      have ei : (0 : Int) + (i : Int) = (i : Int) := by omega
      refine ⟨rfl, _, rfl, _, rfl, a, us, dn, z, c, l, i, by rw [ei]; rfl, hL.same sm, g, hi, ?_⟩
      refine ⟨_, hD, ?_, fun b o eb => ?_, ?_⟩
      · rw [List.length_map, List.length_map, List.length_range]
        exact Nat.lt_of_lt_of_le (show i < 7 by omega) (by decide)
      · rw [upd_ne (ne_of_none eb nD)]
        exact sm _ _ eb
      · rw [upd_same, List.range_succ, List.map_append, List.map_append]
        rfl
    · rintro H2 ⟨sm, hD⟩
      exact q D H2 sm nD hD
theorem ok_nextc {C : Addr} (d : Dd K mg "next_changes" sNextC ["ladder", "number", "many"]) (dR : Dd K mg "first_rounded" sFirstR ["mark", "step", "rounding"]) (dP : Dd K mg "placed" sPlaced ["ladder", "number"]) (L : LadC K mg) (eC : C = L.C) (B : Bt mg)
    (GR : FnOk P w K mg base CX0 2 dR.f dR.fd ["mark", "step", "rounding"] spFirstR) (GP : FnOk P w K mg base CX0 4 dP.f dP.fd ["ladder", "number"] (spPlaced K C)) : FnOk P w K mg base CX0 5 d.f d.fd ["ladder", "number", "many"] (spNextC K C) := by
  subst eC
  refine d.F.ok scNextC (fun vs H Q E h => ?_) (fun cdv A outer s H vs Q E hr h => ?_)
  · obtain ⟨_, _, _, _, _, _, _, _, rfl, _⟩ := h
    rfl
  · obtain ⟨a, us, dn, z, c, l, n, k, rfl, hL, g, n0, hk, q⟩ := h
    have hr1 : Room 2 _ := hr.mono (by decide)
    have nd := scNextC.nd
    refine ⟨_, pss_cons (ps_asg (pe_call GP hr (by rfl) dP.g dP.F.kp dP.b .nil pass0 (pa_cons (pv 0) (pa_cons (pv 1) pa_nil))) (pg_tup rfl (pgs_cons (pg_name (i := 3) nd rfl (.inr rfl)) (pgs_cons (pg_name (i := 4) nd rfl (.inr rfl)) pgs_nil))))
      (pss_one (ps_ret (pe_lc (own := [("more", 5)]) (g := gName 5) (tt := tYes) rfl nd (pi_range2 (by rfl) B.range (pa_cons pe_int (pa_cons (pe_op op_add (pv 2) pe_int) pa_nil)))
        (blkOk_by (own := [("more", 5)]) (N := ["ladder", "number", "many", "place", "mark", "more"]) (sc := defScope sNextC) (by decide +kernel)) (fun _ _ _ _ _ => pg_name (i := 5) nd rfl (Or.inl rfl)) (fun _ _ _ _ _ => pts_nil)
        (fun _ _ _ _ _ => pe_call GR hr1 (by rfl) dR.g dR.F.kp dR.b .nil pass0 (pa_cons (pe_op op_add (pv 4) (pv 5)) (pa_cons (pe_ix (r := rIxT K) ix_tup (show PE _ _ (tFld K (tVar 0) "steps") from pe_fld (pv 0) rfl) (pv 3) (fun _ _ => rfl)) (pa_cons (show PE _ _ (tFld K (tVar 0) "rounding") from pe_fld (pv 0) rfl) pa_nil))))))), ?_⟩
    obtain ⟨PM, ePM⟩ : ∃ PM, placedM us dn z c l n = PM := ⟨_, rfl⟩
    obtain ⟨k1, k2, k3⟩ := placedM_ok (c := c) g n0
    rw [ePM] at k1 k2 k3
    obtain ⟨st1, st2, st3⟩ := steps_ok g k1
    refine ⟨_, rfl, _, rfl, a, us, dn, z, c, l, n, rfl, hL, g, n0, fun r H1 s1 hr' => ?_⟩
    rw [ePM] at hr'
    refine ⟨r, _, rfl, hr', rfl, _, _, rfl, _, _, rfl, rfl, ?_⟩
    refine ⟨_, rfl, _, 1, rfl, rfl, _, _, rfl, ⟨by omega, by omega, by omega, by omega⟩, fun D nD => ?_⟩
    rw [show ((k : Int) + 1 - 1).toNat = k by omega]
    refine lc_range (lo := 1) (n := k) (fun i H2 => Same H1 H2 ∧ H2 D = some (.lst ((chg us dn z c l n i).map V.int))) ⟨same_upd nD, upd_same⟩ ?_ ?_
    · rintro i H2 hi ⟨sm, hD⟩
      obtain ⟨dx, ua, t, st, th, hp, hua, ht, hs, hth⟩ := (hL.same s1).same sm
      refine ⟨rfl, _, rfl, _, rfl, _, _, rfl, rfl, _, rfl, a, L.C, dx, _, _, rfl, hp, L.cl, L.nSteps, fl_steps .., _, rfl, st, _, PM.1, .int ((stepsOf us dn).getD PM.1 0), rfl, rfl, hs, atI_nat (by rw [List.getElem?_map, st1]; rfl), _, rfl, a, L.C, dx, _, _, rfl, hp, L.cl, L.nRnd, fl_rnd .., _, _, z, rfl, st2, st3, ?_⟩
      refine ⟨_, hD, ?_, fun b o eb => ?_, ?_⟩
      · unfold chg
        rw [List.length_map, List.length_map, List.length_range]
        exact Nat.lt_of_lt_of_le (show i < 101 by omega) (by decide)
      · rw [upd_ne (ne_of_none eb nD)]
        exact sm _ _ eb
      · unfold chg
        rw [upd_same, List.range_succ, List.map_append, List.map_append, ePM]
        rfl
    · rintro H2 ⟨sm, hD⟩
      refine q D H2 (s1.trans sm) ?_ hD
      cases e : H D with
      | none => rfl
      | some o =>
        exfalso
        have := s1 _ _ e
        rw [nD] at this
        cases this
end
end My

namespace My
open PySem PySem.Spec PyProof.Rows L2
/-! ### first_unlike, are_alike -/
abbrev sPoss : Stmt := top 64
abbrev sFirstU : Stmt := top 62
theorem scPoss : FnScope ["ladder", "other", "numbers", "start"] ["ladder", "other"] (defScope sPoss) := ⟨rfl, rfl, rfl, by decide +kernel, rfl, by decide +kernel, by decide +kernel⟩
theorem scFirstU : FnScope ["ladder", "other", "number"] ["ladder", "other"] (defScope sFirstU) := ⟨rfl, rfl, rfl, by decide +kernel, rfl, by decide +kernel, by decide +kernel⟩
/-- what a ladder is made of -/
structure Lad where
  us : List (Str × Int)
  d : Nat
  s : Str
  c : Bool
  l : Int
abbrev Lad.At (A : Lad) (K : PySem.W.Frag) (C : Addr) (H : Hp) (p : Addr) : Prop := LadAt K C H p A.us A.d A.s A.c A.l
abbrev Lad.Ok (A : Lad) : Prop := Good A.us A.d A.s A.l
abbrev Lad.show (A : Lad) (n : Int) : Str := shown A.us A.d A.s A.c A.l n
abbrev Lad.stars (A : Lad) : List Int := My.stars A.us A.d A.s A.c A.l
abbrev Lad.chg (A : Lad) (n : Int) (k : Nat) : List Int := My.chg A.us A.d A.s A.c A.l n k
def possL (A B : Lad) (xs : List Int) : List Int := xs.flatMap fun x => x :: (A.chg x 3 ++ B.chg x 3)
def spPoss (K : PySem.W.Frag) (C : Addr) : Sp := fun vs H Q _ => ∃ (a b : Addr) (A B : Lad), vs = [.ref a, .ref b] ∧ A.At K C H a ∧ B.At K C H b ∧ A.Ok ∧ B.Ok ∧
  ∀ (p : Addr) (H' : Hp), Same H H' → H' p = some (.lst ((possL A B (A.stars ++ B.stars)).map V.int)) → Q (.ref p) H'
/-- the first number that is shown differently -/
def Unlike (A B : Lad) (r : Option Int) : Prop := match r with
  | none => ∀ x, 0 ≤ x → x < 10 ^ 38 → A.show x = B.show x
  | some n => 0 ≤ n ∧ n ≤ 100000000000000000000000 ∧ A.show n ≠ B.show n ∧ ∀ x, 0 ≤ x → x < n → A.show x = B.show x
def optV : Option Int → V
  | none => .non
  | some n => .int n
def spFirstU (K : PySem.W.Frag) (C : Addr) : Sp := fun vs H Q _ => ∃ (a b : Addr) (A B : Lad), vs = [.ref a, .ref b] ∧ A.At K C H a ∧ B.At K C H b ∧ A.Ok ∧ B.Ok ∧
  ∀ (r : Option Int) (H' : Hp), Same H H' → Unlike A B r → Q (optV r) H'
def spAlike (K : PySem.W.Frag) (C : Addr) : Sp := fun vs H Q _ => ∃ (a b : Addr) (A B : Lad), vs = [.ref a, .ref b] ∧ A.At K C H a ∧ B.At K C H b ∧ A.Ok ∧ B.Ok ∧
  ∀ (r : Option Int) (H' : Hp), Same H H' → Unlike A B r → Q (.bl r.isNone) H'
theorem stars_le {A : Lad} (g : A.Ok) {x : Int} (h : x ∈ A.stars) : 0 ≤ x ∧ x ≤ 1000000000000000000000 := by
  obtain ⟨p, hp, e⟩ := List.mem_map.mp h
  have hp' : p < A.us.length := List.mem_range.mp hp
  have h0 := start_nn (c := A.c) g hp'
  have h1 := start_le_thr (c := A.c) g hp'
  have h4 : (thrsOf A.us A.l).getD p 0 ≤ 1000 * 1000000000000000000 := by
    rcases Nat.eq_zero_or_pos p with z | z
    · subst z
      show (0 : Int) ≤ _
      decide
    · rw [thr_eq z hp']
      have b1 := last_sz_pos g.u hp'
      have b2 := g.l1
      have b3 := g.l2
      have : szOf A.us p * A.l ≤ 1000000000000000000 * 1000 := Int.mul_le_mul b1.2 b3 (by omega) (by decide)
      omega
  omega
theorem chg_le {A : Lad} (g : A.Ok) {n x : Int} {k : Nat} (n0 : 0 ≤ n) (hk : k ≤ 6) (h : x ∈ A.chg n k) : 0 ≤ x ∧ x ≤ n + 10000000000000000000 := by
  obtain ⟨j, hj, e⟩ := List.mem_map.mp h
  have hj' := List.mem_range.mp hj
  obtain ⟨k1, k2, k3⟩ := placedM_ok (c := A.c) g n0
  have hp := g.stp k1
  have hs := (steps_ok g k1).2.2
  have es := placed_snd A.us A.d A.s A.c A.l n
  have h1 := firstR_hi (m := (placedM A.us A.d A.s A.c A.l n).2 + (1 + (j : Int))) (s := A.s) hp.pos
  have h0 := firstR_nn (m := (placedM A.us A.d A.s A.c A.l n).2 + (1 + (j : Int))) (s := A.s) hp.pos (by omega)
  -- the mark of n stands for at most a step more than n
  have h2 := (rnd_ge (n := n) (m := (placedM A.us A.d A.s A.c A.l n).2) hp.srt hp.even hp.pos n0 k2).mp (by rw [← es]; exact Int.le_refl _)
  have h3 := firstR_lo (m := (placedM A.us A.d A.s A.c A.l n).2) (s := A.s) hp.pos
  generalize (stepsOf A.us A.d).getD (placedM A.us A.d A.s A.c A.l n).1 0 = st at *
  generalize (placedM A.us A.d A.s A.c A.l n).2 = m at *
  have e2 : (m + (1 + (j : Int))) * st = m * st + (1 + (j : Int)) * st := by rw [Int.add_mul]
  have h5 : (1 + (j : Int)) * st ≤ 6 * 1000000000000000000 := Int.mul_le_mul (by omega) hs (by have := hp.pos; omega) (by decide)
  rw [← e]
  omega
theorem poss_le {A B : Lad} (g : A.Ok) (g' : B.Ok) {x : Int} (h : x ∈ possL A B (A.stars ++ B.stars)) : 0 ≤ x ∧ x ≤ 100000000000000000000000 := by
  obtain ⟨y, hy, hx⟩ := List.mem_flatMap.mp h
  have by' : 0 ≤ y ∧ y ≤ 1000000000000000000000 := by
    rcases List.mem_append.mp hy with k | k
    · exact stars_le g k
    · exact stars_le g' k
  rcases List.mem_cons.mp hx with k | k
  · omega
  · rcases List.mem_append.mp k with k | k
    · have := chg_le g by'.1 (by omega) k
      omega
    · have := chg_le g' by'.1 (by omega) k
      omega
theorem least_exists {p : Int → Prop} {n : Int} (n0 : 0 ≤ n) (hn : p n) : ∃ m, 0 ≤ m ∧ m ≤ n ∧ p m ∧ ∀ x, 0 ≤ x → x < m → ¬ p x := by
  have key : ∀ k : Nat, ∀ n : Int, n = (k : Int) → p n → ∃ m, 0 ≤ m ∧ m ≤ n ∧ p m ∧ ∀ x, 0 ≤ x → x < m → ¬ p x := by
    intro k
    induction k using Nat.strongRecOn with
    | ind k ih =>
      intro n e hn
      by_cases h : ∃ x, 0 ≤ x ∧ x < n ∧ p x
      · obtain ⟨x, x0, x1, hx⟩ := h
        obtain ⟨m, m0, m1, hm, hl⟩ := ih x.toNat (by omega) x (by omega) hx
        exact ⟨m, m0, by omega, hm, hl⟩
      · exact ⟨n, by omega, Int.le_refl _, hn, fun x x0 x1 hx => h ⟨x, x0, x1, hx⟩⟩
  exact key n.toNat n (by omega) hn
/-- what is asked of the numbers that are tried -/
theorem unlike_all {A B : Lad} (g : A.Ok) (g' : B.Ok) (h : ∀ x ∈ possL A B (A.stars ++ B.stars), A.show x = B.show x) : Unlike A B none := by
  -- the marks have less than 40 digits up to here
  intro x x0 x1
  by_cases e : A.show x = B.show x
  · exact e
  · exfalso
    obtain ⟨m, m0, m1, hm, hl⟩ := least_exists (p := fun x => A.show x ≠ B.show x) x0 e
    obtain ⟨a, ha, hc⟩ := unlike_tried (c := A.c) (c' := B.c) g g' m0 (by omega) hm (fun x x0 x1 => Classical.not_not.mp (hl x x0 x1))
    refine hm (h m (List.mem_flatMap.mpr ⟨a, List.mem_append.mpr ha, ?_⟩))
    rcases hc with k | k | k
    · rw [k]
      exact List.mem_cons_self
    · exact List.mem_cons_of_mem _ (List.mem_append_left _ k)
    · exact List.mem_cons_of_mem _ (List.mem_append_right _ k)
theorem unlike_some {A B : Lad} (g : A.Ok) (g' : B.Ok) {n : Int} (hn : n ∈ possL A B (A.stars ++ B.stars)) (hne : A.show n ≠ B.show n) (hl : ∀ x ∈ possL A B (A.stars ++ B.stars), A.show x ≠ B.show x → n ≤ x) : Unlike A B (some n) := by
  have hb := poss_le g g' hn
  refine ⟨hb.1, hb.2, hne, fun x x0 x1 => ?_⟩
  by_cases e : A.show x = B.show x
  · exact e
  · exfalso
    obtain ⟨m, m0, m1, hm, hl2⟩ := least_exists (p := fun x => A.show x ≠ B.show x) x0 e
    obtain ⟨a, ha, hc⟩ := unlike_tried (c := A.c) (c' := B.c) g g' m0 (by omega) hm (fun x x0 x1 => Classical.not_not.mp (hl2 x x0 x1))
    have hmm : m ∈ possL A B (A.stars ++ B.stars) := by
      refine List.mem_flatMap.mpr ⟨a, List.mem_append.mpr ha, ?_⟩
      rcases hc with k | k | k
      · rw [k]
        exact List.mem_cons_self
      · exact List.mem_cons_of_mem _ (List.mem_append_left _ k)
      · exact List.mem_cons_of_mem _ (List.mem_append_right _ k)
    have := hl m hmm hm
    omega
end My

namespace My
open PySem PySem.Spec PyProof.Rows L2
theorem len_chg (A : Lad) (n : Int) (k : Nat) : (A.chg n k).length = k := by
  show (My.chg A.us A.d A.s A.c A.l n k).length = k
  unfold My.chg
  rw [List.length_map, List.length_range]
theorem len_stars (A : Lad) : A.stars.length = A.us.length := by
  show (My.stars A.us A.d A.s A.c A.l).length = _
  unfold My.stars
  rw [List.length_map, List.length_range]
theorem len_poss (A B : Lad) : ∀ xs : List Int, (possL A B xs).length = 7 * xs.length
  | [] => rfl
  | x :: r => by
    have ih := len_poss A B r
    unfold possL at ih ⊢
    rw [List.flatMap_cons, List.length_append, ih, List.length_cons, List.length_cons, List.length_append, len_chg, len_chg]
    omega
theorem poss_snoc (A B : Lad) (xs : List Int) (y : Int) : possL A B (xs ++ [y]) = possL A B xs ++ (y :: (A.chg y 3 ++ B.chg y 3)) := by
  unfold possL
  rw [List.flatMap_append, List.flatMap_cons, List.flatMap_nil, List.append_nil]
section
variable {P : Program} {w : World} {K : PySem.W.Frag} {mg : Str → Option Value} {base : Heap}
theorem ok_poss {C : Addr} (d : Dd K mg "possible_first_ones" sPoss ["ladder", "other"]) (dS : Dd K mg "starts_of" sStarts ["ladder"]) (dN : Dd K mg "next_changes" sNextC ["ladder", "number", "many"]) (gE : ∃ t, mg "ENOUGH_CHANGES_alike" = some (.int 3 t))
    (GS : FnOk P w K mg base CX0 4 dS.f dS.fd ["ladder"] (spStarts K C)) (GN : FnOk P w K mg base CX0 5 dN.f dN.fd ["ladder", "number", "many"] (spNextC K C)) : FnOk P w K mg base CX0 6 d.f d.fd ["ladder", "other"] (spPoss K C) := by
  obtain ⟨t1, g1⟩ := gE
  refine d.F.ok scPoss (fun vs H Q E h => ?_) (fun cdv A0 outer s H vs Q E hr h => ?_)
  · obtain ⟨_, _, _, _, rfl, _⟩ := h
    rfl
  · obtain ⟨a, b, A, B, rfl, hA, hB, gA, gB, q⟩ := h
    have hr3 : Room 4 _ := hr.mono (by decide)
    have nd := scPoss.nd
    refine ⟨_, pss_cons (ps_set (i := 2) nd rfl (.inl rfl) (pe_lst pa_nil))
      (pss_cons (ps_for PassesOwn.never rfl (pi_list (pe_op op_cat (pe_call GS hr3 (by rfl) dS.g dS.F.kp dS.b .nil pass0 (pa_cons (pv 0) pa_nil)) (pe_call GS hr3 (by rfl) dS.g dS.F.kp dS.b .nil pass0 (pa_cons (pv 1) pa_nil)))) (pg_name (i := 3) nd rfl (.inl rfl))
        (pss_cons (ps_expr (pe_bm PySem.F.plainAttrs_list PySem.F.slot_list_append PySem.F.type_list_append mt_append (pv 2) (pa_cons (pv 3) pa_nil)))
        (pss_cons (ps_expr (pe_bm PySem.F.plainAttrs_list PySem.F.slot_list_extend PySem.F.type_list_extend mt_extend (pv 2) (pa_cons (pe_call GN hr (by rfl) dN.g dN.F.kp dN.b .nil pass0 (pa_cons (pv 0) (pa_cons (pv 3) (pa_cons (pe_glob (v := .int 3) (by rfl) g1 ⟨_, rfl⟩) pa_nil)))) pa_nil)))
        (pss_one (ps_expr (pe_bm PySem.F.plainAttrs_list PySem.F.slot_list_extend PySem.F.type_list_extend mt_extend (pv 2) (pa_cons (pe_call GN hr (by rfl) dN.g dN.F.kp dN.b .nil pass0 (pa_cons (pv 1) (pa_cons (pv 3) (pa_cons (pe_glob (v := .int 3) (by rfl) g1 ⟨_, rfl⟩) pa_nil)))) pa_nil)))))))
      (pss_one (ps_ret (pv 2)))), ?_⟩
    refine ⟨Nat.zero_le _, fun N nN => ?_⟩
    have sN := same_upd nN (o := .lst [])
    refine ⟨_, rfl, a, A.us, A.d, A.s, A.c, A.l, rfl, LadAt.same sN hA, gA, fun p1 H1 s1 np1 h1 => ?_⟩
    refine ⟨_, rfl, b, B.us, B.d, B.s, B.c, B.l, rfl, (LadAt.same sN hB).same s1, gB, fun p2 H2 s2 np2 h2 => ?_⟩
    have hla := len_stars A
    have hlb := len_stars B
    have hia := gA.u.hi
    have hib := gB.u.hi
    refine ⟨p1, p2, _, _, rfl, rfl, s2 _ _ h1, h2, ?_, fun c nc => ?_⟩
    · rw [List.length_map, List.length_map]
      exact Nat.le_trans (show A.stars.length + B.stars.length ≤ 12 by omega) (by decide)
    rw [← List.map_append]
    have sc := same_upd nc (o := .lst ((A.stars ++ B.stars).map V.int))
    have hNc : (upd H2 c (.lst ((A.stars ++ B.stars).map V.int))) N = some (.lst []) := sc _ _ (s2 _ _ (s1 _ _ upd_same))
    have ncN : c ≠ N := (ne_of_none (s2 _ _ (s1 _ _ upd_same)) nc).symm
    have hAc : LadAt K C (upd H2 c (.lst ((A.stars ++ B.stars).map V.int))) a A.us A.d A.s A.c A.l := (((LadAt.same sN hA).same s1).same s2).same sc
    have hBc : LadAt K C (upd H2 c (.lst ((A.stars ++ B.stars).map V.int))) b B.us B.d B.s B.c B.l := (((LadAt.same sN hB).same s1).same s2).same sc
    have hold : ∀ {H' : Hp}, But N (upd H2 c (.lst ((A.stars ++ B.stars).map V.int))) H' → Same H H' := fun bt x o e => bt x o (sc _ _ (s2 _ _ (s1 _ _ (sN _ _ e)))) (ne_of_none e nN)
    have hlist : (upd H2 c (.lst ((A.stars ++ B.stars).map V.int))) c = some (.lst ((A.stars ++ B.stars).map V.int)) := upd_same
    generalize upd H2 c (.lst ((A.stars ++ B.stars).map V.int)) = Hc at hNc hAc hBc hold hlist ⊢
    refine ⟨c, rfl, ⟨_, SqL.of hlist⟩, for_list (K := K) (a := c) (xs := (A.stars ++ B.stars).map V.int) (fun i σ H' => (∃ v3, σ = [some (.ref a), some (.ref b), some (.ref N), v3]) ∧ But N Hc H' ∧ H' N = some (.lst ((possL A B ((A.stars ++ B.stars).take i)).map V.int))) ⟨⟨_, rfl⟩, But.refl _ _, hNc⟩ (fun i σ H' _ h => SqL.of (h.2.1 _ _ hlist ncN)) ?_ ?_⟩
    · rintro i x σ H3 hi ⟨⟨v3, rfl⟩, b3, hN3⟩
      rw [List.getElem?_map] at hi
      cases hy : (A.stars ++ B.stars)[i]? with
      | none => rw [hy] at hi; cases hi
      | some y =>
        rw [hy] at hi
        cases hi
        have hym : y ∈ A.stars ++ B.stars := List.mem_of_getElem? hy
        have y0 : 0 ≤ y := by
          rcases List.mem_append.mp hym with k | k
          · exact (stars_le gA k).1
          · exact (stars_le gB k).1
        have hlt : ((A.stars ++ B.stars).take i).length ≤ 12 := by rw [List.length_take, List.length_append]; omega
        have hlp := len_poss A B ((A.stars ++ B.stars).take i)
        refine ⟨_, rfl, .inl ⟨rfl, _, SqL.of hN3⟩, _, rfl, N, _, _, rfl, rfl, hN3, ?_, ?_⟩
        · rw [List.length_map]
          exact Nat.lt_of_le_of_lt (show _ ≤ 84 by omega) (by decide)
        have h4 : (upd H3 N (.lst ((possL A B ((A.stars ++ B.stars).take i)).map V.int ++ [.int y]))) N = some (.lst ((possL A B ((A.stars ++ B.stars).take i) ++ [y]).map V.int)) := by
          rw [upd_same, List.map_append]
          rfl
        have b4 := b3.trans (But.upd N H3 (.lst ((possL A B ((A.stars ++ B.stars).take i)).map V.int ++ [.int y])))
        generalize upd H3 N (.lst ((possL A B ((A.stars ++ B.stars).take i)).map V.int ++ [.int y])) = H4 at h4 b4 ⊢
        refine ⟨_, rfl, .inl ⟨rfl, _, SqL.of h4⟩, _, rfl, _, rfl, a, A.us, A.d, A.s, A.c, A.l, y, 3, rfl, hAc.butL hNc b4, gA, y0, by decide, fun e1 H5 s5 ne1 he1 => ?_⟩
        refine ⟨N, e1, _, _, rfl, rfl, s5 _ _ h4, he1, ?_, ?_⟩
        · rw [List.length_map, List.length_map, List.length_append, hlp]
          have : (chg A.us A.d A.s A.c A.l y 3).length = 3 := len_chg A y 3
          exact Nat.le_trans (show _ ≤ 100 by simp only [List.length_singleton]; omega) (by decide)
        rw [← List.map_append]
        have h6 : (upd H5 N (.lst ((possL A B ((A.stars ++ B.stars).take i) ++ [y] ++ A.chg y 3).map V.int))) N = some (.lst ((possL A B ((A.stars ++ B.stars).take i) ++ [y] ++ A.chg y 3).map V.int)) := upd_same
        have b6 := (b4.trans (Same.but s5)).trans (But.upd N H5 (.lst ((possL A B ((A.stars ++ B.stars).take i) ++ [y] ++ A.chg y 3).map V.int)))
        generalize upd H5 N (.lst ((possL A B ((A.stars ++ B.stars).take i) ++ [y] ++ A.chg y 3).map V.int)) = H6 at h6 b6 ⊢
        refine ⟨_, rfl, .inl ⟨rfl, _, SqL.of h6⟩, _, rfl, _, rfl, b, B.us, B.d, B.s, B.c, B.l, y, 3, rfl, hBc.butL hNc b6, gB, y0, by decide, fun e2 H7 s7 ne2 he2 => ?_⟩
        refine ⟨N, e2, _, _, rfl, rfl, s7 _ _ h6, he2, ?_, ⟨_, rfl⟩, (b6.trans (Same.but s7)).trans (But.upd N H7 _), ?_⟩
        · rw [List.length_map, List.length_map, List.length_append, List.length_append, hlp]
          have := len_chg A y 3
          have : (chg A.us A.d A.s A.c A.l y 3).length = 3 := len_chg A y 3
          have : (chg B.us B.d B.s B.c B.l y 3).length = 3 := len_chg B y 3
          exact Nat.le_trans (show _ ≤ 100 by simp only [List.length_singleton]; omega) (by decide)
        · rw [upd_same, ← List.map_append, List.take_add_one, hy]
          show some (HO.lst _) = some (HO.lst ((possL A B ((A.stars ++ B.stars).take i ++ [y])).map V.int))
          rw [poss_snoc]
          simp only [List.append_assoc, List.cons_append, List.nil_append]
    · rintro σ H3 ⟨⟨v3, rfl⟩, b3, hN3⟩
      rw [List.length_map, List.take_of_length_le (Nat.le_refl _)] at hN3
      exact ⟨_, rfl, q N H3 (hold b3) hN3⟩
theorem ok_firstu {C : Addr} (d : Dd K mg "first_unlike" sFirstU ["ladder", "other"]) (dP : Dd K mg "possible_first_ones" sPoss ["ladder", "other"]) (dC : Dd K mg "check_ladder" sCLad ["ladder"]) (dF : Dd K mg "figure_of" sFigOf ["ladder", "number"]) (B0 : Bt mg)
    (GP : FnOk P w K mg base CX0 6 dP.f dP.fd ["ladder", "other"] (spPoss K C)) (GC : FnOk P w K mg base CX0 2 dC.f dC.fd ["ladder"] (spCLad K C)) (GF : FnOk P w K mg base CX0 5 dF.f dF.fd ["ladder", "number"] (spFig K C)) : FnOk P w K mg base CX0 7 d.f d.fd ["ladder", "other"] (spFirstU K C) := by
  refine d.F.ok scFirstU (fun vs H Q E h => ?_) (fun cdv A0 outer s H vs Q E hr h => ?_)
  · obtain ⟨_, _, _, _, rfl, _⟩ := h
    rfl
  · obtain ⟨a, b, A, B, rfl, hA, hB, gA, gB, q⟩ := h
    have hr1 : Room 2 _ := hr.mono (by decide)
    have hr4 : Room 5 _ := hr.mono (by decide)
    have nd := scFirstU.nd
    refine ⟨_, pss_cons (ps_expr (pe_call GC hr1 (by rfl) dC.g dC.F.kp dC.b .nil pass0 (pa_cons (pv 0) pa_nil)))
      (pss_cons (ps_expr (pe_call GC hr1 (by rfl) dC.g dC.F.kp dC.b .nil pass0 (pa_cons (pv 1) pa_nil)))
      (pss_one (ps_ret (pe_callBK (MyM.cr_minD rfl) (by rfl) B0.min (by decide +kernel) (pa_cons (pe_lc (own := [("number", 2)]) (g := gName 2) rfl nd (pi_list (pe_call GP hr (by rfl) dP.g dP.F.kp dP.b .nil pass0 (pa_cons (pv 0) (pa_cons (pv 1) pa_nil))))
          (blkOk_by (own := [("number", 2)]) (N := ["ladder", "other", "number"]) (sc := defScope sFirstU) (by decide +kernel)) (fun _ _ _ _ _ => pg_name (i := 2) nd rfl (Or.inl rfl))
          (fun _ _ _ _ _ => pts_one (pt_cmpR op_ne (pe_call GF hr4 (by rfl) dF.g dF.F.kp dF.b .nil pass0 (pa_cons (pv 0) (pa_cons (pv 2) pa_nil))) (pe_call GF hr4 (by rfl) dF.g dF.F.kp dF.b .nil pass0 (pa_cons (pv 1) (pa_cons (pv 2) pa_nil))) (nomark _))) (fun _ _ _ _ _ => pv 2)) pa_nil) (pk_cons pe_non pk_nil))))), ?_⟩
    refine ⟨_, rfl, a, A.us, A.d, A.s, A.c, A.l, rfl, hA, _, rfl, b, B.us, B.d, B.s, B.c, B.l, rfl, hB, ?_⟩
    refine ⟨_, rfl, _, rfl, a, b, A, B, rfl, hA, hB, gA, gB, fun N H1 s1 hN => ?_⟩
    refine ⟨N, rfl, ⟨_, SqL.of hN⟩, fun D nD => ?_⟩
    have hln := len_poss A B (A.stars ++ B.stars)
    have hla := len_stars A
    have hlb := len_stars B
    have hia := gA.u.hi
    have hib := gB.u.hi
    have hball := fun x (hx : x ∈ possL A B (A.stars ++ B.stars)) => poss_le gA gB hx
    have hfin1 := unlike_all gA gB
    have hfin2 := fun (n : Int) => unlike_some (n := n) gA gB
    rw [List.length_append] at hln
    generalize possL A B (A.stars ++ B.stars) = T at hN hln hball hfin1 hfin2
    refine lc_list (K := K) (a := N) (xs := T.map V.int) (fun i H2 => Same H1 H2 ∧ H2 D = some (.lst (((T.take i).filter fun x => decide (A.show x ≠ B.show x)).map V.int))) ⟨same_upd nD, upd_same⟩ (fun i H2 _ h => SqL.of (h.1 _ _ hN)) ?_ ?_
    · rintro i x H2 hi ⟨sm, hD⟩
      rw [List.getElem?_map] at hi
      cases hy : T[i]? with
      | none => rw [hy] at hi; cases hi
      | some y =>
        rw [hy] at hi
        cases hi
        have hb := hball y (List.mem_of_getElem? hy)
        have et : (T.take (i + 1)).filter (fun x => decide (A.show x ≠ B.show x)) = (T.take i).filter (fun x => decide (A.show x ≠ B.show x)) ++ (if decide (A.show y ≠ B.show y) = true then [y] else []) := by
          rw [List.take_add_one, hy, List.filter_append]
          congr 1
          show List.filter _ [y] = _
          rw [List.filter_cons]
          rfl
        refine ⟨rfl, _, rfl, _, rfl, a, A.us, A.d, A.s, A.c, A.l, y, rfl, (hA.same s1).same sm, gA, hb.1, by omega, fun H3 s3 => ?_⟩
        refine ⟨_, rfl, _, rfl, b, B.us, B.d, B.s, B.c, B.l, y, rfl, ((hB.same s1).same sm).same s3, gB, hb.1, by omega, fun H4 s4 => ?_⟩
        have s24 := s3.trans s4
        refine ⟨rfl, _, rfl, ite2 (fun e => ?_) (fun e => ?_)⟩
        · have e' : A.show y ≠ B.show y := fun k => by
            rw [show shown A.us A.d A.s A.c A.l y = shown B.us B.d B.s B.c B.l y from k, decide_eq_true rfl] at e
            cases e
          refine ⟨.int y, rfl, _, s24 _ _ hD, ?_, fun x o ex => ?_, ?_⟩
          · rw [List.length_map]
            have k1 : ((T.take i).filter fun x => decide (A.show x ≠ B.show x)).length ≤ 84 := Nat.le_trans (List.length_filter_le _ _) (by rw [List.length_take]; omega)
            exact Nat.lt_of_le_of_lt k1 (by decide)
          · rw [upd_ne (ne_of_none ex nD)]
            exact s24 _ _ (sm _ _ ex)
          · rw [upd_same, et, if_pos (decide_eq_true e'), List.map_append]
            rfl
        · have e' : ¬ A.show y ≠ B.show y := fun k => by
            refine e ?_
            have : decide (V.str (shown A.us A.d A.s A.c A.l y) = V.str (shown B.us B.d B.s B.c B.l y)) = false := decide_eq_false fun w => k (V.str.inj w)
            rw [this]
            rfl
          refine ⟨sm.trans s24, ?_⟩
          rw [et, if_neg (fun k => e' (of_decide_eq_true k)), List.append_nil]
          exact s24 _ _ hD
    · rintro H2 ⟨sm, hD⟩
      rw [List.length_map, List.take_of_length_le (Nat.le_refl _)] at hD
      refine ⟨D, _, .non, rfl, rfl, SqL.of hD, fun e => q none H2 (s1.trans sm) (hfin1 fun x hx => ?_), fun m hm hl => q (some m) H2 (s1.trans sm) ?_⟩
      · by_cases k : A.show x = B.show x
        · exact k
        · exfalso
          have : x ∈ T.filter fun x => decide (A.show x ≠ B.show x) := List.mem_filter.mpr ⟨hx, decide_eq_true k⟩
          rw [e] at this
          cases this
      · obtain ⟨h1, h2⟩ := List.mem_filter.mp hm
        exact hfin2 m h1 (of_decide_eq_true h2) fun x hx hne => hl x (List.mem_filter.mpr ⟨hx, decide_eq_true hne⟩)
end
end My

namespace My
open PySem PySem.Spec PyProof.Rows L2
/-! ### when one ladder tells another one -/
theorem firstR_far {m st : Int} {s : Str} (h : Stp st s) (m1 : 1 ≤ m) : ∀ t : Nat, firstR (m + 2 * (t : Int)) st s = firstR m st s + 2 * (t : Int) * st := by
  intro t
  induction t with
  | zero => rw [show m + 2 * ((0 : Nat) : Int) = m by omega, show 2 * ((0 : Nat) : Int) * st = 0 by rw [show 2 * ((0 : Nat) : Int) = 0 by omega, Int.zero_mul], Int.add_zero]
  | succ t ih =>
    rw [show m + 2 * ((t + 1 : Nat) : Int) = m + 2 * (t : Int) + 2 by omega, firstR_two h (by omega), ih, show 2 * ((t + 1 : Nat) : Int) = 2 * (t : Int) + 2 by omega, Int.add_mul]
    omega
theorem firstR_mono {m m' st : Int} {s : Str} (h : Stp st s) (m0 : 0 ≤ m) (hm : m ≤ m') : firstR m st s ≤ firstR m' st s := by
  have key : ∀ j : Nat, firstR m st s ≤ firstR (m + (j : Int)) st s := by
    intro j
    induction j with
    | zero => rw [show m + ((0 : Nat) : Int) = m by omega]; exact Int.le_refl _
    | succ j ih =>
      have := firstR_strict (m := m + (j : Int)) (s := s) h.pos h.even (by omega)
      rw [show m + ((j + 1 : Nat) : Int) = m + (j : Int) + 1 by omega]
      omega
  have := key (m' - m).toNat
  rw [show m + ((m' - m).toNat : Int) = m' by omega] at this
  exact this
/-- a number at which a mark begins -/
def Beg (st : Int) (s : Str) (x : Int) : Prop := ∃ k, 1 ≤ k ∧ x = firstR k st s
/-- two begins whose marks are an even number apart: so far apart are all that follow in such steps -/
theorem beg_step {st x y : Int} {s : Str} {k k' : Int} (h : Stp st s) (k1 : 1 ≤ k) (hk : k ≤ k') (he : (k' - k) % 2 = 0) (ex : x = firstR k st s) (ey : y = firstR k' st s) : ∀ t : Nat, Beg st s (x + (t : Int) * (y - x)) := by
  intro t
  obtain ⟨e, hee⟩ : ∃ e : Nat, k' = k + 2 * (e : Int) := ⟨((k' - k) / 2).toNat, by omega⟩
  have h1 := firstR_far h k1 e
  rw [← hee] at h1
  refine ⟨k + 2 * ((t * e : Nat) : Int), by omega, ?_⟩
  rw [firstR_far h k1 (t * e), ex, ey, h1]
  have e1 : firstR k st s + 2 * (e : Int) * st - firstR k st s = 2 * (e : Int) * st := by omega
  rw [e1, Int.natCast_mul]
  have : (t : Int) * (2 * (e : Int) * st) = 2 * ((t : Int) * (e : Int)) * st := by
    rw [← Int.mul_assoc, ← Int.mul_assoc, Int.mul_comm (t : Int) 2, Int.mul_assoc 2 (t : Int)]
  rw [this]
/-- six changes that are hidden nowhere: none is hidden -/
theorem beg_all {st st' m : Int} {s s' : Str} (h : Stp st s) (h' : Stp st' s') (m0 : 0 ≤ m) (hb : ∀ i : Int, 1 ≤ i → i ≤ 6 → Beg st' s' (firstR (m + i) st s)) : ∀ j : Nat, Beg st' s' (firstR (m + 1 + (j : Int)) st s) := by
  have three : ∀ i : Int, 1 ≤ i → i ≤ 2 → ∀ t : Nat, Beg st' s' (firstR (m + i + 2 * (t : Int)) st s) := by
    intro i i1 i2 t
    obtain ⟨a, a1, ea⟩ := hb i (by omega) (by omega)
    obtain ⟨b, b1, eb⟩ := hb (i + 2) (by omega) (by omega)
    obtain ⟨c, c1, ec⟩ := hb (i + 4) (by omega) (by omega)
    have f1 := firstR_two (m := m + i) h (by omega)
    have f2 := firstR_two (m := m + i + 2) h (by omega)
    rw [show m + (i + 2) = m + i + 2 by omega] at eb
    rw [show m + (i + 4) = m + i + 2 + 2 by omega] at ec
    have hp := h.pos
    have ord : ∀ {u v : Int}, 1 ≤ u → 1 ≤ v → firstR u st' s' < firstR v st' s' → u ≤ v := fun {u v} u1 v1 w => by
      rcases Int.lt_or_le v u with y | y
      · have := firstR_mono h' (show 0 ≤ v by omega) (Int.le_of_lt y)
        omega
      · exact y
    have ab := ord a1 b1 (by omega)
    have bc := ord b1 c1 (by omega)
    have ft := firstR_far h (show 1 ≤ m + i by omega) t
    by_cases p1 : (b - a) % 2 = 0
    · have := beg_step h' a1 ab p1 ea eb t
      rw [ft, show firstR (m + i) st s + 2 * (t : Int) * st = firstR (m + i) st s + (t : Int) * (firstR (m + i + 2) st s - firstR (m + i) st s) by
        rw [f1, show firstR (m + i) st s + 2 * st - firstR (m + i) st s = 2 * st by omega, ← Int.mul_assoc, Int.mul_comm (t : Int) 2]]
      exact this
    · by_cases p2 : (c - b) % 2 = 0
      · -- from the second one on; the first one is known
        rcases Nat.eq_zero_or_pos t with z | z
        · subst z
          rw [show m + i + 2 * ((0 : Nat) : Int) = m + i by omega]
          exact ⟨a, a1, ea⟩
        · have := beg_step h' b1 bc p2 eb ec (t - 1)
          rw [ft, show firstR (m + i) st s + 2 * (t : Int) * st = firstR (m + i + 2) st s + ((t - 1 : Nat) : Int) * (firstR (m + i + 2 + 2) st s - firstR (m + i + 2) st s) by
            rw [f2, f1, show firstR (m + i) st s + 2 * st + 2 * st - (firstR (m + i) st s + 2 * st) = 2 * st by omega, show 2 * (t : Int) = 2 * ((t - 1 : Nat) : Int) + 2 by omega, Int.add_mul, ← Int.mul_assoc, Int.mul_comm ((t - 1 : Nat) : Int) 2]
            omega]
          exact this
      · have p3 : (c - a) % 2 = 0 := by omega
        have hac : a ≤ c := by omega
        rcases Nat.mod_two_eq_zero_or_one t with z | z
        · obtain ⟨u, hu⟩ : ∃ u, t = 2 * u := ⟨t / 2, by omega⟩
          have := beg_step h' a1 hac p3 ea ec u
          rw [ft, show firstR (m + i) st s + 2 * (t : Int) * st = firstR (m + i) st s + (u : Int) * (firstR (m + i + 2 + 2) st s - firstR (m + i) st s) by
            rw [f2, f1, show firstR (m + i) st s + 2 * st + 2 * st - firstR (m + i) st s = 4 * st by omega, ← Int.mul_assoc, Int.mul_comm (u : Int) 4, hu]
            rw [show 2 * ((2 * u : Nat) : Int) = 4 * (u : Int) by omega]]
          exact this
        · obtain ⟨u, hu⟩ : ∃ u, t = 2 * u + 1 := ⟨t / 2, by omega⟩
          -- the second one and one two steps later
          obtain ⟨d, d1, ed⟩ : ∃ d, d = b + (c - a) ∧ True := ⟨_, rfl, trivial⟩
          obtain ⟨e, hee⟩ : ∃ e : Nat, c = a + 2 * (e : Int) := ⟨((c - a) / 2).toNat, by omega⟩
          have g1 := firstR_far h' a1 e
          have g2 := firstR_far h' b1 e
          rw [← hee, ← ec, ← ea] at g1
          have := beg_step (y := firstR (b + 2 * (e : Int)) st' s') h' b1 (by omega) (by omega) eb rfl u
          rw [g2, ← eb] at this
          rw [ft, show firstR (m + i) st s + 2 * (t : Int) * st = firstR (m + i + 2) st s + (u : Int) * (firstR (m + i + 2) st s + 2 * (e : Int) * st' - firstR (m + i + 2) st s) by
            rw [show firstR (m + i + 2) st s + 2 * (e : Int) * st' - firstR (m + i + 2) st s = firstR (m + i + 2 + 2) st s - firstR (m + i) st s by omega, f2, f1, show firstR (m + i) st s + 2 * st + 2 * st - firstR (m + i) st s = 4 * st by omega, ← Int.mul_assoc, Int.mul_comm (u : Int) 4, hu]
            rw [show 2 * ((2 * u + 1 : Nat) : Int) = 4 * (u : Int) + 2 by omega, Int.add_mul]
            omega]
          exact this
  intro j
  rcases Nat.mod_two_eq_zero_or_one j with z | z
  · obtain ⟨t, ht⟩ : ∃ t, j = 2 * t := ⟨j / 2, by omega⟩
    have := three 1 (by omega) (by omega) t
    rw [show m + 1 + (j : Int) = m + 1 + 2 * (t : Int) by omega]
    exact this
  · obtain ⟨t, ht⟩ : ∃ t, j = 2 * t + 1 := ⟨j / 2, by omega⟩
    have := three 2 (by omega) (by omega) t
    rw [show m + 1 + (j : Int) = m + 2 + 2 * (t : Int) by omega]
    exact this
/-- the marks of n and of the number before it -/
def Chg (us : List (Str × Int)) (d : Nat) (s : Str) (c : Bool) (l n : Int) : Prop := placedM us d s c l (n - 1) ≠ placedM us d s c l n
theorem beg_chg {us : List (Str × Int)} {d : Nat} {s : Str} {c : Bool} {l n : Int} {p : Nat} (g : Good us d s l) (n1 : 1 ≤ n) (hp : p < us.length) (e1 : (placedM us d s c l (n - 1)).1 = p) (e2 : (placedM us d s c l n).1 = p) : Chg us d s c l n ↔ Beg ((stepsOf us d).getD p 0) s n := by
  have h := g.stp hp
  have s1 := placed_snd us d s c l (n - 1)
  have s2 := placed_snd us d s c l n
  rw [e1] at s1
  rw [e2] at s2
  have inc := rnd_succ (n := n - 1) h.srt h.even h.pos (by omega)
  rw [Int.sub_add_cancel] at inc
  have r0 := rnd_nn (s := s) (show 0 ≤ n - 1 by omega) h.pos
  constructor
  · intro hc
    have hne : rnd (n - 1) ((stepsOf us d).getD p 0) s ≠ rnd n ((stepsOf us d).getD p 0) s := fun w => hc (Prod.ext (by rw [e1, e2]) (by rw [s1, s2, w]))
    have := rnd_step_eq (n := n - 1) (m := rnd n ((stepsOf us d).getD p 0) s) h (by omega) (by omega) (by omega) (by rw [Int.sub_add_cancel]; exact Int.le_refl _)
    exact ⟨rnd n ((stepsOf us d).getD p 0) s, by omega, by omega⟩
  · rintro ⟨k, k1, ek⟩ w
    have a := (rnd_ge (n := n) (m := k) h.srt h.even h.pos (by omega) (by omega)).mpr (by omega)
    have b : ¬ k ≤ rnd (n - 1) ((stepsOf us d).getD p 0) s := fun y => by
      have := (rnd_ge (n := n - 1) (m := k) h.srt h.even h.pos (by omega) (by omega)).mp y
      omega
    have := congrArg Prod.snd w
    rw [s1, s2] at this
    omega
/-- the first change of the one that the other one hides is tried -/
theorem untold_tried {us us' : List (Str × Int)} {d d' : Nat} {s s' : Str} {c c' : Bool} {l l' n : Int} (g : Good us d s l) (g' : Good us' d' s' l') (n1 : 1 ≤ n) (hB : Chg us' d' s' c' l' n) (hA : ¬ Chg us d s c l n) (hmin : ∀ x, 1 ≤ x → x < n → Chg us' d' s' c' l' x → Chg us d s c l x) :
    ∃ a, (a ∈ stars us d s c l ∨ a ∈ stars us' d' s' c' l') ∧ (n = a ∨ n ∈ chg us' d' s' c' l' a 6) := by
  have n0 : 0 ≤ n := by omega
  obtain ⟨k1, k2, k3⟩ := placedM_ok (c := c) g n0
  obtain ⟨j1, j2, j3⟩ := placedM_ok (c := c') g' n0
  have hAs := (place_ge (c := c) g n0 k1).mp (Nat.le_refl _)
  have hBs := (place_ge (c := c') g' n0 j1).mp (Nat.le_refl _)
  have sA0 := start_nn (c := c) g k1
  have sB0 := start_nn (c := c') g' j1
  have mA : startM us d s c l (placedM us d s c l n).1 ∈ stars us d s c l := List.mem_map.mpr ⟨_, List.mem_range.mpr k1, rfl⟩
  have mB : startM us' d' s' c' l' (placedM us' d' s' c' l' n).1 ∈ stars us' d' s' c' l' := List.mem_map.mpr ⟨_, List.mem_range.mpr j1, rfl⟩
  have uA := fun x (h1 : startM us d s c l (placedM us d s c l n).1 ≤ x) (h2 : x ≤ n) => unit_in (c := c) g n0 h1 h2
  have uB := fun x (h1 : startM us' d' s' c' l' (placedM us' d' s' c' l' n).1 ≤ x) (h2 : x ≤ n) => unit_in (c := c') g' n0 h1 h2
  have hpA := g.stp k1
  have hpB := g'.stp j1
  have sndB := fun x => placed_snd us' d' s' c' l' x
  have begA := fun (x : Int) (x1 : 1 ≤ x) (e1 : (placedM us d s c l (x - 1)).1 = (placedM us d s c l n).1) (e2 : (placedM us d s c l x).1 = (placedM us d s c l n).1) => beg_chg (c := c) g x1 k1 e1 e2
  have begB := fun (x : Int) (x1 : 1 ≤ x) (e1 : (placedM us' d' s' c' l' (x - 1)).1 = (placedM us' d' s' c' l' n).1) (e2 : (placedM us' d' s' c' l' x).1 = (placedM us' d' s' c' l' n).1) => beg_chg (c := c') g' x1 j1 e1 e2
  obtain ⟨pA, epA⟩ : ∃ p, (placedM us d s c l n).1 = p := ⟨_, rfl⟩
  obtain ⟨pB, epB⟩ : ∃ p, (placedM us' d' s' c' l' n).1 = p := ⟨_, rfl⟩
  rw [epA] at hAs sA0 mA uA hpA begA
  rw [epB] at hBs sB0 mB uB hpB begB
  obtain ⟨a, ha, ha1, ha2, han⟩ : ∃ a, (a ∈ stars us d s c l ∨ a ∈ stars us' d' s' c' l') ∧ startM us d s c l pA ≤ a ∧ startM us' d' s' c' l' pB ≤ a ∧ a ≤ n := by
    rcases Int.lt_or_le (startM us d s c l pA) (startM us' d' s' c' l' pB) with y | y
    · exact ⟨_, .inr mB, by omega, Int.le_refl _, hBs⟩
    · exact ⟨_, .inl mA, Int.le_refl _, y, hAs⟩
  refine ⟨a, ha, ?_⟩
  rcases Int.lt_or_le a n with y | y
  · right
    have a0 : 0 ≤ a := by omega
    have bB : ∀ x, a < x → x ≤ n → (Chg us' d' s' c' l' x ↔ Beg ((stepsOf us' d').getD pB 0) s' x) := fun x h1 h2 => begB x (by omega) (uB (x - 1) (by omega) (by omega)) (uB x (by omega) h2)
    have bA : ∀ x, a < x → x ≤ n → (Chg us d s c l x ↔ Beg ((stepsOf us d).getD pA 0) s x) := fun x h1 h2 => begA x (by omega) (uA (x - 1) (by omega) (by omega)) (uA x (by omega) h2)
    obtain ⟨k, hk1, hk⟩ := (bB n y (Int.le_refl _)).mp hB
    have eaB : (placedM us' d' s' c' l' a).1 = pB := uB a ha2 han
    have r0 := rnd_nn (s := s') a0 hpB.pos
    -- the mark of n lies above that of a
    have hgt : rnd a ((stepsOf us' d').getD pB 0) s' < k := by
      rcases Int.lt_or_le (rnd a ((stepsOf us' d').getD pB 0) s') k with w | w
      · exact w
      · have := (rnd_ge (n := a) (m := k) hpB.srt hpB.even hpB.pos a0 (by omega)).mp w
        omega
    rcases Int.lt_or_le k (rnd a ((stepsOf us' d').getD pB 0) s' + 7) with w | w
    · refine chg_mem (j := (k - rnd a ((stepsOf us' d').getD pB 0) s' - 1).toNat) (by omega) ?_
      rw [sndB, eaB, show rnd a ((stepsOf us' d').getD pB 0) s' + 1 + ((k - rnd a ((stepsOf us' d').getD pB 0) s' - 1).toNat : Int) = k by omega]
      exact hk
    · exfalso
      refine hA ((bA n y (Int.le_refl _)).mpr ?_)
      have six : ∀ i : Int, 1 ≤ i → i ≤ 6 → Beg ((stepsOf us d).getD pA 0) s (firstR (rnd a ((stepsOf us' d').getD pB 0) s' + i) ((stepsOf us' d').getD pB 0) s') := fun i i1 i2 => by
        have c1 : firstR (rnd a ((stepsOf us' d').getD pB 0) s' + i) ((stepsOf us' d').getD pB 0) s' < n := by
          have q1 := firstR_strict (m := rnd a ((stepsOf us' d').getD pB 0) s' + i) (s := s') hpB.pos hpB.even (by omega)
          have q2 := firstR_mono hpB (show 0 ≤ rnd a ((stepsOf us' d').getD pB 0) s' + i + 1 by omega) (show rnd a ((stepsOf us' d').getD pB 0) s' + i + 1 ≤ k by omega)
          omega
        have c2 : a < firstR (rnd a ((stepsOf us' d').getD pB 0) s' + i) ((stepsOf us' d').getD pB 0) s' := by
          rcases Int.lt_or_le a (firstR (rnd a ((stepsOf us' d').getD pB 0) s' + i) ((stepsOf us' d').getD pB 0) s') with v | v
          · exact v
          · have := (rnd_ge (n := a) (m := rnd a ((stepsOf us' d').getD pB 0) s' + i) hpB.srt hpB.even hpB.pos a0 (by omega)).mpr v
            omega
        exact (bA _ c2 (by omega)).mp (hmin _ (by omega) c1 ((bB _ c2 (by omega)).mpr ⟨_, by omega, rfl⟩))
      have := beg_all hpB hpA r0 six (k - rnd a ((stepsOf us' d').getD pB 0) s' - 1).toNat
      rw [show rnd a ((stepsOf us' d').getD pB 0) s' + 1 + ((k - rnd a ((stepsOf us' d').getD pB 0) s' - 1).toNat : Int) = k by omega, ← hk] at this
      exact this
  · exact .inl (by omega)
end My

namespace My
open PySem PySem.Spec PyProof.Rows L2
/-! ### first_untold, tells -/
abbrev sIsChg : Stmt := top 91
abbrev sPossC : Stmt := top 92
abbrev sFirstT : Stmt := top 88
abbrev sTells : Stmt := top 89
theorem scIsChg : FnScope ["ladder", "number"] ["ladder", "number"] (defScope sIsChg) := ⟨rfl, rfl, rfl, by decide +kernel, rfl, by decide +kernel, by decide +kernel⟩
theorem scPossC : FnScope ["ladder", "other", "numbers", "start"] ["ladder", "other"] (defScope sPossC) := ⟨rfl, rfl, rfl, by decide +kernel, rfl, by decide +kernel, by decide +kernel⟩
theorem scFirstT : FnScope ["ladder", "other", "untold", "number"] ["ladder", "other"] (defScope sFirstT) := ⟨rfl, rfl, rfl, by decide +kernel, rfl, by decide +kernel, by decide +kernel⟩
theorem scTells : FnScope ["ladder", "other"] ["ladder", "other"] (defScope sTells) := ⟨rfl, rfl, rfl, by decide +kernel, rfl, by decide +kernel, by decide +kernel⟩
abbrev Lad.Chg (A : Lad) (n : Int) : Prop := My.Chg A.us A.d A.s A.c A.l n
def isC (A : Lad) (n : Int) : Bool := decide (0 < n) && !decide (V.str (A.show n) = V.str (A.show (n - 1)))
theorem shown_same' {us : List (Str × Int)} {d : Nat} {s : Str} {c : Bool} {l x y : Int} (g : Good us d s l) (x0 : 0 ≤ x) (y0 : 0 ≤ y) (x1 : x ≤ 1000000000000000000000000000000) (y1 : y ≤ 1000000000000000000000000000000) : shown us d s c l x = shown us d s c l y ↔ placedM us d s c l x = placedM us d s c l y := by
  constructor
  · intro e
    obtain ⟨k1, k2, k3⟩ := placedM_ok (c := c) g x0
    obtain ⟨j1, j2, j3⟩ := placedM_ok (c := c) g y0
    obtain ⟨e1, e2⟩ := writ_inj g.u g.d3 k1 j1 k2 j2 (by omega) (by omega) e
    exact Prod.ext e1 e2
  · intro e
    unfold shown
    rw [e]
theorem isC_iff {A : Lad} (g : A.Ok) {n : Int} (n0 : 0 ≤ n) (n1 : n ≤ 1000000000000000000000000000000) : isC A n = true ↔ 1 ≤ n ∧ A.Chg n := by
  unfold isC
  rw [Bool.and_eq_true, decide_eq_true_eq]
  constructor
  · rintro ⟨h1, h2⟩
    refine ⟨h1, fun w => ?_⟩
    have := (shown_same' g (show 0 ≤ n - 1 by omega) n0 (by omega) n1).mpr w
    rw [show V.str (A.show n) = V.str (A.show (n - 1)) from congrArg V.str this.symm, decide_eq_true rfl] at h2
    cases h2
  · rintro ⟨h1, h2⟩
    refine ⟨h1, ?_⟩
    rw [decide_eq_false (fun w => h2 ((shown_same' g (show 0 ≤ n - 1 by omega) n0 (by omega) n1).mp (V.str.inj w).symm))]
    rfl
def possC (B : Lad) (xs : List Int) : List Int := xs.flatMap fun x => x :: B.chg x 6
/-- the first change of the other one that the ladder hides -/
def Untold (A B : Lad) (r : Option Int) : Prop := match r with
  | none => ∀ x, 1 ≤ x → B.Chg x → A.Chg x
  | some n => 1 ≤ n ∧ n ≤ 100000000000000000000000 ∧ B.Chg n ∧ ¬ A.Chg n ∧ ∀ x, 1 ≤ x → x < n → B.Chg x → A.Chg x
def spIsChg (K : PySem.W.Frag) (C : Addr) : Sp := fun vs H Q _ => ∃ (a : Addr) (A : Lad) (n : Int), vs = [.ref a, .int n] ∧ A.At K C H a ∧ A.Ok ∧ 0 ≤ n ∧ n ≤ 1000000000000000000000000000000 ∧ ∀ (H' : Hp), Same H H' → Q (.bl (isC A n)) H'
def spPossC (K : PySem.W.Frag) (C : Addr) : Sp := fun vs H Q _ => ∃ (a b : Addr) (A B : Lad), vs = [.ref a, .ref b] ∧ A.At K C H a ∧ B.At K C H b ∧ A.Ok ∧ B.Ok ∧
  ∀ (p : Addr) (H' : Hp), Same H H' → H' p = some (.lst ((possC B (A.stars ++ B.stars)).map V.int)) → Q (.ref p) H'
def spFirstT (K : PySem.W.Frag) (C : Addr) : Sp := fun vs H Q _ => ∃ (a b : Addr) (A B : Lad), vs = [.ref a, .ref b] ∧ A.At K C H a ∧ B.At K C H b ∧ A.Ok ∧ B.Ok ∧
  (∀ (H' : Hp), Same H H' → Untold A B none → Q .non H') ∧ ∀ (n : Int) (p : Addr) (H' : Hp), Same H H' → Untold A B (some n) → SqT K H' p [.int (n - 1), .int n] → Q (.ref p) H'
def spTells (K : PySem.W.Frag) (C : Addr) : Sp := fun vs H Q _ => ∃ (a b : Addr) (A B : Lad), vs = [.ref a, .ref b] ∧ A.At K C H a ∧ B.At K C H b ∧ A.Ok ∧ B.Ok ∧
  ∀ (r : Option Int) (H' : Hp), Same H H' → Untold A B r → Q (.bl r.isNone) H'
theorem len_possC (B : Lad) : ∀ xs : List Int, (possC B xs).length = 7 * xs.length
  | [] => rfl
  | x :: r => by
    have ih := len_possC B r
    unfold possC at ih ⊢
    rw [List.flatMap_cons, List.length_append, ih, List.length_cons, List.length_cons, len_chg]
    omega
theorem possC_snoc (B : Lad) (xs : List Int) (y : Int) : possC B (xs ++ [y]) = possC B xs ++ (y :: B.chg y 6) := by
  unfold possC
  rw [List.flatMap_append, List.flatMap_cons, List.flatMap_nil, List.append_nil]
theorem possC_le {A B : Lad} (g : A.Ok) (g' : B.Ok) {x : Int} (h : x ∈ possC B (A.stars ++ B.stars)) : 0 ≤ x ∧ x ≤ 100000000000000000000000 := by
  obtain ⟨y, hy, hx⟩ := List.mem_flatMap.mp h
  have by' : 0 ≤ y ∧ y ≤ 1000000000000000000000 := by
    rcases List.mem_append.mp hy with k | k
    · exact stars_le g k
    · exact stars_le g' k
  rcases List.mem_cons.mp hx with k | k
  · omega
  · have := chg_le g' by'.1 (by omega) k
    omega
theorem untold_none {A B : Lad} (g : A.Ok) (g' : B.Ok) (h : ∀ x ∈ possC B (A.stars ++ B.stars), ¬ (isC B x = true ∧ ¬ isC A x = true)) : Untold A B none := by
  intro x x1 hB
  by_cases hA : A.Chg x
  · exact hA
  · exfalso
    obtain ⟨m, m0, m1, ⟨h1, h2, h3⟩, hl⟩ := least_exists (p := fun x => 1 ≤ x ∧ B.Chg x ∧ ¬ A.Chg x) (show 0 ≤ x by omega) ⟨x1, hB, hA⟩
    obtain ⟨a, ha, hc⟩ := untold_tried (c := A.c) (c' := B.c) g g' h1 h2 h3 (fun x x1 x2 hb => Classical.byContradiction fun k => hl x (by omega) x2 ⟨x1, hb, k⟩)
    have hmm : m ∈ possC B (A.stars ++ B.stars) := by
      refine List.mem_flatMap.mpr ⟨a, List.mem_append.mpr ha, ?_⟩
      rcases hc with k | k
      · rw [k]
        exact List.mem_cons_self
      · exact List.mem_cons_of_mem _ k
    have hb := possC_le g g' hmm
    exact h m hmm ⟨(isC_iff g' hb.1 (by omega)).mpr ⟨h1, h2⟩, fun k => h3 ((isC_iff g hb.1 (by omega)).mp k).2⟩
theorem untold_some {A B : Lad} (g : A.Ok) (g' : B.Ok) {n : Int} (hn : n ∈ possC B (A.stars ++ B.stars)) (hB : isC B n = true) (hA : ¬ isC A n = true) (hl : ∀ x ∈ possC B (A.stars ++ B.stars), isC B x = true → ¬ isC A x = true → n ≤ x) : Untold A B (some n) := by
  have hb := possC_le g g' hn
  obtain ⟨n1, hB'⟩ := (isC_iff g' hb.1 (by omega)).mp hB
  have hA' : ¬ A.Chg n := fun k => hA ((isC_iff g hb.1 (by omega)).mpr ⟨n1, k⟩)
  refine ⟨n1, hb.2, hB', hA', fun x x1 x2 hx => ?_⟩
  by_cases hax : A.Chg x
  · exact hax
  · exfalso
    obtain ⟨m, m0, m1, ⟨h1, h2, h3⟩, hl2⟩ := least_exists (p := fun x => 1 ≤ x ∧ B.Chg x ∧ ¬ A.Chg x) (show 0 ≤ x by omega) ⟨x1, hx, hax⟩
    obtain ⟨a, ha, hc⟩ := untold_tried (c := A.c) (c' := B.c) g g' h1 h2 h3 (fun x x1 x2 hb => Classical.byContradiction fun k => hl2 x (by omega) x2 ⟨x1, hb, k⟩)
    have hmm : m ∈ possC B (A.stars ++ B.stars) := by
      refine List.mem_flatMap.mpr ⟨a, List.mem_append.mpr ha, ?_⟩
      rcases hc with k | k
      · rw [k]
        exact List.mem_cons_self
      · exact List.mem_cons_of_mem _ k
    have hbm := possC_le g g' hmm
    have := hl m hmm ((isC_iff g' hbm.1 (by omega)).mpr ⟨h1, h2⟩) (fun k => h3 ((isC_iff g hbm.1 (by omega)).mp k).2)
    omega
section
variable {P : Program} {w : World} {K : PySem.W.Frag} {mg : Str → Option Value} {base : Heap}
theorem ok_ischg {C : Addr} (d : Dd K mg "is_change" sIsChg ["ladder", "number"]) (dF : Dd K mg "figure_of" sFigOf ["ladder", "number"]) (GF : FnOk P w K mg base CX0 5 dF.f dF.fd ["ladder", "number"] (spFig K C)) : FnOk P w K mg base CX0 6 d.f d.fd ["ladder", "number"] (spIsChg K C) := by
  refine d.F.ok scIsChg (fun vs H Q E h => ?_) (fun cdv A0 outer s H vs Q E hr h => ?_)
  · obtain ⟨_, _, _, rfl, _⟩ := h
    rfl
  · obtain ⟨a, A, n, rfl, hA, gA, n0, n1, q⟩ := h
    refine ⟨_, pss_one (ps_ret (pe_and (pe_cmpR op_gt (pv 1) pe_int (nomark _)) (pe_one (pe_cmpR op_ne (pe_call GF hr (by rfl) dF.g dF.F.kp dF.b .nil pass0 (pa_cons (pv 0) (pa_cons (pv 1) pa_nil))) (pe_call GF hr (by rfl) dF.g dF.F.kp dF.b .nil pass0 (pa_cons (pv 0) (pa_cons (pe_op op_sub (pv 1) pe_int) pa_nil))) (nomark _))))), ?_⟩
    unfold isC at q
    refine ⟨_, rfl, _, _, rfl, rfl, _, rfl, ite2 (fun e => ?_) (fun e => ?_)⟩
    · have e' : 0 < n := of_decide_eq_true e
      rw [decide_eq_true e', Bool.true_and] at q
      refine ⟨_, rfl, _, rfl, a, A.us, A.d, A.s, A.c, A.l, n, rfl, hA, gA, n0, n1, fun H1 s1 => ?_⟩
      refine ⟨_, rfl, _, rfl, n, 1, rfl, rfl, a, A.us, A.d, A.s, A.c, A.l, n - 1, rfl, LadAt.same s1 hA, gA, by omega, by omega, fun H2 s2 => ?_⟩
      exact ⟨rfl, q H2 (s1.trans s2)⟩
    · have e' : ¬ 0 < n := fun k => e (decide_eq_true k)
      rw [decide_eq_false e', Bool.false_and] at q
      exact q H (Same.refl _)
theorem ok_possc {C : Addr} (d : Dd K mg "possible_changes" sPossC ["ladder", "other"]) (dS : Dd K mg "starts_of" sStarts ["ladder"]) (dN : Dd K mg "next_changes" sNextC ["ladder", "number", "many"]) (gE : ∃ t, mg "ENOUGH_CHANGES_tells" = some (.int 6 t))
    (GS : FnOk P w K mg base CX0 4 dS.f dS.fd ["ladder"] (spStarts K C)) (GN : FnOk P w K mg base CX0 5 dN.f dN.fd ["ladder", "number", "many"] (spNextC K C)) : FnOk P w K mg base CX0 6 d.f d.fd ["ladder", "other"] (spPossC K C) := by
  obtain ⟨t1, g1⟩ := gE
  refine d.F.ok scPossC (fun vs H Q E h => ?_) (fun cdv A0 outer s H vs Q E hr h => ?_)
  · obtain ⟨_, _, _, _, rfl, _⟩ := h
    rfl
  · obtain ⟨a, b, A, B, rfl, hA, hB, gA, gB, q⟩ := h
    have hr3 : Room 4 _ := hr.mono (by decide)
    have nd := scPossC.nd
    refine ⟨_, pss_cons (ps_set (i := 2) nd rfl (.inl rfl) (pe_lst pa_nil))
      (pss_cons (ps_for PassesOwn.never rfl (pi_list (pe_op op_cat (pe_call GS hr3 (by rfl) dS.g dS.F.kp dS.b .nil pass0 (pa_cons (pv 0) pa_nil)) (pe_call GS hr3 (by rfl) dS.g dS.F.kp dS.b .nil pass0 (pa_cons (pv 1) pa_nil)))) (pg_name (i := 3) nd rfl (.inl rfl))
        (pss_cons (ps_expr (pe_bm PySem.F.plainAttrs_list PySem.F.slot_list_append PySem.F.type_list_append mt_append (pv 2) (pa_cons (pv 3) pa_nil)))
        (pss_one (ps_expr (pe_bm PySem.F.plainAttrs_list PySem.F.slot_list_extend PySem.F.type_list_extend mt_extend (pv 2) (pa_cons (pe_call GN hr (by rfl) dN.g dN.F.kp dN.b .nil pass0 (pa_cons (pv 1) (pa_cons (pv 3) (pa_cons (pe_glob (v := .int 6) (by rfl) g1 ⟨_, rfl⟩) pa_nil)))) pa_nil))))))
      (pss_one (ps_ret (pv 2)))), ?_⟩
    refine ⟨Nat.zero_le _, fun N nN => ?_⟩
    have sN := same_upd nN (o := .lst [])
    refine ⟨_, rfl, a, A.us, A.d, A.s, A.c, A.l, rfl, LadAt.same sN hA, gA, fun p1 H1 s1 np1 h1 => ?_⟩
    refine ⟨_, rfl, b, B.us, B.d, B.s, B.c, B.l, rfl, (LadAt.same sN hB).same s1, gB, fun p2 H2 s2 np2 h2 => ?_⟩
    have hla := len_stars A
    have hlb := len_stars B
    have hia := gA.u.hi
    have hib := gB.u.hi
    refine ⟨p1, p2, _, _, rfl, rfl, s2 _ _ h1, h2, ?_, fun c nc => ?_⟩
    · rw [List.length_map, List.length_map]
      exact Nat.le_trans (show A.stars.length + B.stars.length ≤ 12 by omega) (by decide)
    rw [← List.map_append]
    have sc := same_upd nc (o := .lst ((A.stars ++ B.stars).map V.int))
    have hNc : (upd H2 c (.lst ((A.stars ++ B.stars).map V.int))) N = some (.lst []) := sc _ _ (s2 _ _ (s1 _ _ upd_same))
    have ncN : c ≠ N := (ne_of_none (s2 _ _ (s1 _ _ upd_same)) nc).symm
    have hBc : LadAt K C (upd H2 c (.lst ((A.stars ++ B.stars).map V.int))) b B.us B.d B.s B.c B.l := (((LadAt.same sN hB).same s1).same s2).same sc
    have hold : ∀ {H' : Hp}, But N (upd H2 c (.lst ((A.stars ++ B.stars).map V.int))) H' → Same H H' := fun bt x o e => bt x o (sc _ _ (s2 _ _ (s1 _ _ (sN _ _ e)))) (ne_of_none e nN)
    have hlist : (upd H2 c (.lst ((A.stars ++ B.stars).map V.int))) c = some (.lst ((A.stars ++ B.stars).map V.int)) := upd_same
    generalize upd H2 c (.lst ((A.stars ++ B.stars).map V.int)) = Hc at hNc hBc hold hlist ⊢
    refine ⟨c, rfl, ⟨_, SqL.of hlist⟩, for_list (K := K) (a := c) (xs := (A.stars ++ B.stars).map V.int) (fun i σ H' => (∃ v3, σ = [some (.ref a), some (.ref b), some (.ref N), v3]) ∧ But N Hc H' ∧ H' N = some (.lst ((possC B ((A.stars ++ B.stars).take i)).map V.int))) ⟨⟨_, rfl⟩, But.refl _ _, hNc⟩ (fun i σ H' _ h => SqL.of (h.2.1 _ _ hlist ncN)) ?_ ?_⟩
    · rintro i x σ H3 hi ⟨⟨v3, rfl⟩, b3, hN3⟩
      rw [List.getElem?_map] at hi
      cases hy : (A.stars ++ B.stars)[i]? with
      | none => rw [hy] at hi; cases hi
      | some y =>
        rw [hy] at hi
        cases hi
        have hym : y ∈ A.stars ++ B.stars := List.mem_of_getElem? hy
        have y0 : 0 ≤ y := by
          rcases List.mem_append.mp hym with k | k
          · exact (stars_le gA k).1
          · exact (stars_le gB k).1
        have hlt : ((A.stars ++ B.stars).take i).length ≤ 12 := by rw [List.length_take, List.length_append]; omega
        have hlp := len_possC B ((A.stars ++ B.stars).take i)
        refine ⟨_, rfl, .inl ⟨rfl, _, SqL.of hN3⟩, _, rfl, N, _, _, rfl, rfl, hN3, ?_, ?_⟩
        · rw [List.length_map]
          exact Nat.lt_of_le_of_lt (show _ ≤ 84 by omega) (by decide)
        have h4 : (upd H3 N (.lst ((possC B ((A.stars ++ B.stars).take i)).map V.int ++ [.int y]))) N = some (.lst ((possC B ((A.stars ++ B.stars).take i) ++ [y]).map V.int)) := by
          rw [upd_same, List.map_append]
          rfl
        have b4 := b3.trans (But.upd N H3 (.lst ((possC B ((A.stars ++ B.stars).take i)).map V.int ++ [.int y])))
        generalize upd H3 N (.lst ((possC B ((A.stars ++ B.stars).take i)).map V.int ++ [.int y])) = H4 at h4 b4 ⊢
        refine ⟨_, rfl, .inl ⟨rfl, _, SqL.of h4⟩, _, rfl, _, rfl, b, B.us, B.d, B.s, B.c, B.l, y, 6, rfl, hBc.butL hNc b4, gB, y0, by decide, fun e2 H7 s7 ne2 he2 => ?_⟩
        refine ⟨N, e2, _, _, rfl, rfl, s7 _ _ h4, he2, ?_, ⟨_, rfl⟩, (b4.trans (Same.but s7)).trans (But.upd N H7 _), ?_⟩
        · rw [List.length_map, List.length_map, List.length_append, hlp]
          have : (chg B.us B.d B.s B.c B.l y 6).length = 6 := len_chg B y 6
          exact Nat.le_trans (show _ ≤ 100 by simp only [List.length_singleton]; omega) (by decide)
        · rw [upd_same, ← List.map_append, List.take_add_one, hy]
          show some (HO.lst _) = some (HO.lst ((possC B ((A.stars ++ B.stars).take i ++ [y])).map V.int))
          rw [possC_snoc]
          simp only [List.append_assoc, List.cons_append, List.nil_append]
    · rintro σ H3 ⟨⟨v3, rfl⟩, b3, hN3⟩
      rw [List.length_map, List.take_of_length_le (Nat.le_refl _)] at hN3
      exact ⟨_, rfl, q N H3 (hold b3) hN3⟩
end
end My

namespace My
open PySem PySem.Spec PyProof.Rows L2
section
variable {P : Program} {w : World} {K : PySem.W.Frag} {mg : Str → Option Value} {base : Heap}
theorem ok_firstt {C : Addr} (d : Dd K mg "first_untold" sFirstT ["ladder", "other"]) (dP : Dd K mg "possible_changes" sPossC ["ladder", "other"]) (dC : Dd K mg "check_ladder" sCLad ["ladder"]) (dI : Dd K mg "is_change" sIsChg ["ladder", "number"]) (B0 : Bt mg)
    (GP : FnOk P w K mg base CX0 6 dP.f dP.fd ["ladder", "other"] (spPossC K C)) (GC : FnOk P w K mg base CX0 2 dC.f dC.fd ["ladder"] (spCLad K C)) (GI : FnOk P w K mg base CX0 6 dI.f dI.fd ["ladder", "number"] (spIsChg K C)) : FnOk P w K mg base CX0 7 d.f d.fd ["ladder", "other"] (spFirstT K C) := by
  refine d.F.ok scFirstT (fun vs H Q E h => ?_) (fun cdv A0 outer s H vs Q E hr h => ?_)
  · obtain ⟨_, _, _, _, rfl, _⟩ := h
    rfl
  · obtain ⟨a, b, A, B, rfl, hA, hB, gA, gB, q0, q1⟩ := h
    have hr1 : Room 2 _ := hr.mono (by decide)
    have nd := scFirstT.nd
    refine ⟨_, pss_cons (ps_expr (pe_call GC hr1 (by rfl) dC.g dC.F.kp dC.b .nil pass0 (pa_cons (pv 0) pa_nil)))
      (pss_cons (ps_expr (pe_call GC hr1 (by rfl) dC.g dC.F.kp dC.b .nil pass0 (pa_cons (pv 1) pa_nil)))
      (Evl.pss_cut (ps_setLc (i := 2) (own := [("number", 3)]) (g := gName 3) rfl nd rfl rfl (by rfl) (pi_list (pe_call GP hr (by rfl) dP.g dP.F.kp dP.b .nil pass0 (pa_cons (pv 0) (pa_cons (pv 1) pa_nil))))
          (blkOk_by (own := [("number", 3)]) (N := ["ladder", "other", "untold", "number"]) (sc := defScope sFirstT) (by decide +kernel)) (fun _ _ _ _ _ => pg_name (i := 3) nd rfl (Or.inl rfl))
          (fun _ _ _ _ _ => pts_one (PW.pt (pw_and (pt_val (pe_call GI hr (by rfl) dI.g dI.F.kp dI.b .nil pass0 (pa_cons (pv 1) (pa_cons (pv 3) pa_nil)))) (pw_and1 (pt_not (pt_val (pe_call GI hr (by rfl) dI.g dI.F.kp dI.b .nil pass0 (pa_cons (pv 0) (pa_cons (pv 3) pa_nil)))))))))
          (fun _ _ _ _ _ => pv 3))
      (pss_cons (ps_if (pt_not (pt_truth (pv 2) (fun _ => rfl))) (pss_one (ps_ret pe_non)) pss_nil)
      (pss_one (ps_ret (pe_tup (pa_cons (pe_op op_sub (pe_callB (cr_min rfl) (by rfl) B0.min (by decide +kernel) (pa_cons (pv 2) pa_nil)) pe_int) (pa_cons (pe_callB (cr_min rfl) (by rfl) B0.min (by decide +kernel) (pa_cons (pv 2) pa_nil)) pa_nil)))))))), ?_⟩
    refine ⟨_, rfl, a, A.us, A.d, A.s, A.c, A.l, rfl, hA, _, rfl, b, B.us, B.d, B.s, B.c, B.l, rfl, hB, ?_⟩
    have hln := len_possC B (A.stars ++ B.stars)
    have hla := len_stars A
    have hlb := len_stars B
    have hia := gA.u.hi
    have hib := gB.u.hi
    have hball := fun x (hx : x ∈ possC B (A.stars ++ B.stars)) => possC_le gA gB hx
    have hfin1 := untold_none gA gB
    have hfin2 := fun (n : Int) => untold_some (n := n) gA gB
    rw [List.length_append] at hln
    refine ⟨fun σ' H' => ∃ U, σ' = [some (.ref a), some (.ref b), some (.ref U), none] ∧ Same H H' ∧ H' U = some (.lst (((possC B (A.stars ++ B.stars)).filter fun x => isC B x && !isC A x).map V.int)), ?_, ?_⟩
    · refine ⟨_, rfl, _, rfl, a, b, A, B, rfl, hA, hB, gA, gB, fun N H1 s1 hN => ?_⟩
      generalize possC B (A.stars ++ B.stars) = T at hN hln hball ⊢
      refine ⟨N, rfl, ⟨_, SqL.of hN⟩, fun D nD => ?_⟩
      refine lc_list (K := K) (a := N) (xs := T.map V.int) (fun i H2 => Same H1 H2 ∧ H2 D = some (.lst (((T.take i).filter fun x => isC B x && !isC A x).map V.int))) ⟨same_upd nD, upd_same⟩ (fun i H2 _ h => SqL.of (h.1 _ _ hN)) ?_ ?_
      · rintro i x H2 hi ⟨sm, hD⟩
        rw [List.getElem?_map] at hi
        cases hy : T[i]? with
        | none => rw [hy] at hi; cases hi
        | some y =>
          rw [hy] at hi
          cases hi
          have hb := hball y (List.mem_of_getElem? hy)
          have et : (T.take (i + 1)).filter (fun x => isC B x && !isC A x) = (T.take i).filter (fun x => isC B x && !isC A x) ++ (if (isC B y && !isC A y) = true then [y] else []) := by
            rw [List.take_add_one, hy, List.filter_append]
            congr 1
            show List.filter _ [y] = _
            rw [List.filter_cons]
            rfl
          have no : (isC B y && !isC A y) = false → ∀ {H3 : Hp}, Same H2 H3 → Same H1 H3 ∧ H3 D = some (.lst (((T.take (i + 1)).filter fun x => isC B x && !isC A x).map V.int)) := fun e H3 s3 => by
            refine ⟨sm.trans s3, ?_⟩
            rw [et, e, if_neg Bool.false_ne_true, List.append_nil]
            exact s3 _ _ hD
          refine ⟨rfl, _, rfl, _, rfl, b, B, y, rfl, (LadAt.same s1 hB).same sm, gB, hb.1, by omega, fun H3 s3 => ?_⟩
          refine ⟨_, rfl, ?_⟩
          cases eB : isC B y with
          | false =>
            refine iteF ?_
            exact iteF (no (by rw [eB]; rfl) s3)
          | true =>
            refine iteT ?_
            refine ⟨_, rfl, _, rfl, a, A, y, rfl, ((LadAt.same s1 hA).same sm).same s3, gA, hb.1, by omega, fun H4 s4 => ?_⟩
            refine ⟨_, rfl, ?_⟩
            cases eA : isC A y with
            | true => exact iteF (no (by rw [eB, eA]; rfl) (s3.trans s4))
            | false =>
              refine iteT ?_
              have s24 := s3.trans s4
              refine ⟨.int y, rfl, _, s24 _ _ hD, ?_, fun x o ex => ?_, ?_⟩
              · rw [List.length_map]
                have k1 : ((T.take i).filter fun x => isC B x && !isC A x).length ≤ 84 := Nat.le_trans (List.length_filter_le _ _) (by rw [List.length_take]; omega)
                exact Nat.lt_of_le_of_lt k1 (by decide)
              · rw [upd_ne (ne_of_none ex nD)]
                exact s24 _ _ (sm _ _ ex)
              · rw [upd_same, et, eB, eA, if_pos (show (true && !false) = true from rfl), List.map_append]
                rfl
      · rintro H2 ⟨sm, hD⟩
        rw [List.length_map, List.take_of_length_le (Nat.le_refl _)] at hD
        exact ⟨D, rfl, s1.trans sm, hD⟩
    rintro σ' H1 ⟨U, rfl, s1, hU⟩
    obtain ⟨F, eF⟩ : ∃ F, ((possC B (A.stars ++ B.stars)).filter fun x => isC B x && !isC A x) = F := ⟨_, rfl⟩
    have hF : ∀ x, x ∈ F ↔ x ∈ possC B (A.stars ++ B.stars) ∧ isC B x = true ∧ ¬ isC A x = true := fun x => by
      rw [← eF, List.mem_filter, Bool.and_eq_true]
      constructor
      · rintro ⟨h1, h2, h3⟩
        exact ⟨h1, h2, fun k => by rw [k] at h3; cases h3⟩
      · rintro ⟨h1, h2, h3⟩
        exact ⟨h1, h2, by rw [Bool.eq_false_iff.mpr h3]; rfl⟩
    rw [eF] at hU
    refine ⟨_, rfl, _, .inl ⟨_, SqL.of hU, rfl⟩, ?_⟩
    cases F with
    | nil =>
      refine iteT ?_
      exact q0 H1 s1 (hfin1 fun x hx hh => by
        have := (hF x).mpr ⟨hx, hh⟩
        cases this)
    | cons f0 fr =>
      refine iteF ?_
      refine ⟨_, rfl, U, _, rfl, SqL.of hU, Nat.succ_pos _, fun m hm hl => ?_⟩
      refine ⟨_, 1, rfl, rfl, _, rfl, U, _, rfl, SqL.of hU, Nat.succ_pos _, fun m' hm' hl' => ⟨(by show 2 ≤ sizeLine; decide), fun r nr => ?_⟩⟩
      have em : m = m' := by
        have h1 := hl m' hm'
        have h2 := hl' m hm
        omega
      subst em
      obtain ⟨h1, h2, h3⟩ := (hF m).mp hm
      exact q1 m r _ (s1.trans (same_upd nr)) (hfin2 m h1 h2 h3 fun x hx hb ha => hl x ((hF x).mpr ⟨hx, hb, ha⟩)) (SqT.of upd_same)
theorem ok_tells {C : Addr} (d : Dd K mg "tells" sTells ["ladder", "other"]) (dU : Dd K mg "first_untold" sFirstT ["ladder", "other"])
    (GU' : FnOk P w K mg base CX0 7 dU.f dU.fd ["ladder", "other"] (spFirstT K C)) : FnOk P w K mg base CX0 8 d.f d.fd ["ladder", "other"] (spTells K C) := by
  refine d.F.ok scTells (fun vs H Q E h => ?_) (fun cdv A0 outer s H vs Q E hr h => ?_)
  · obtain ⟨_, _, _, _, rfl, _⟩ := h
    rfl
  · obtain ⟨a, b, A, B, rfl, hA, hB, gA, gB, q⟩ := h
    refine ⟨_, pss_one (ps_ret (pe_cmp (pc_isN (pe_call GU' hr (by rfl) dU.g dU.F.kp dU.b .nil pass0 (pa_cons (pv 0) (pa_cons (pv 1) pa_nil)))))), ?_⟩
    exact ⟨_, rfl, _, rfl, a, b, A, B, rfl, hA, hB, gA, gB, fun H1 s1 hu => q none H1 s1 hu, fun n p H1 s1 hu _ => q (some n) H1 s1 hu⟩
end
end My

namespace My
open PySem PySem.Spec PyProof.Rows L2
/-! ### what follows for ladders that tell -/
theorem untold_self {A : Lad} {r : Option Int} (h : Untold A A r) : r = none := by
  cases r with
  | none => rfl
  | some n => exact absurd h.2.2.1 h.2.2.2.1
theorem untold_alike {A B : Lad} (gA : A.Ok) (gB : B.Ok) {r : Option Int} (ha : ∀ x, 0 ≤ x → x < 10 ^ 38 → A.show x = B.show x) (h : Untold A B r) : r = none := by
  cases r with
  | none => rfl
  | some n =>
    exfalso
    obtain ⟨n1, n2, hB, hA, _⟩ := h
    have e1 := (shown_same' gA (show 0 ≤ n - 1 by omega) (show 0 ≤ n by omega) (by omega) (by omega)).mpr (Classical.not_not.mp hA)
    refine hB ((shown_same' gB (show 0 ≤ n - 1 by omega) (show 0 ≤ n by omega) (by omega) (by omega)).mp ?_)
    have a1 := ha (n - 1) (by omega) (by omega)
    have a2 := ha n (by omega) (by omega)
    exact a1.symm.trans (e1.trans a2)
theorem untold_trans {A B D : Lad} {r : Option Int} (h1 : Untold A B none) (h2 : Untold B D none) (h : Untold A D r) : r = none := by
  cases r with
  | none => rfl
  | some n => exact absurd (h1 n h.1 (h2 n h.1 h.2.2.1)) h.2.2.2.1
/-- the range of a figure lies in that of a ladder that hides no more -/
theorem nested {us us' : List (Str × Int)} {d d' : Nat} {s s' : Str} {c c' : Bool} {l l' x : Int} (g : Good us d s l) (g' : Good us' d' s' l') (x0 : 0 ≤ x) {p p' : Nat} {m m' : Int} (e : placedM us d s c l x = (p, m)) (e' : placedM us' d' s' c' l' x = (p', m'))
    (h : ∀ y, 1 ≤ y → y ≤ highM us d s c l p m → Chg us' d' s' c' l' y → Chg us d s c l y) : lowM us' d' s' c' l' p' m' ≤ lowM us d s c l p m ∧ highM us d s c l p m ≤ highM us' d' s' c' l' p' m' := by
  have hin := in_range g x0 e
  obtain ⟨k1', k2', _⟩ := placedM_ok (c := c) g x0
  obtain ⟨j1', j2', _⟩ := placedM_ok (c := c') g' x0
  rw [e] at k1' k2'
  rw [e'] at j1' j2'
  have k1 : p < us.length := k1'
  have k2 : 0 ≤ m := k2'
  have j1 : p' < us'.length := j1'
  have j2 : 0 ≤ m' := j2'
  have l0 := low_nn (c := c) g k1 m
  have same : ∀ y, lowM us d s c l p m ≤ y → y ≤ highM us d s c l p m → placedM us d s c l y = (p, m) := fun y h1 h2 => (range_iff g (by omega) k1 k2).mpr ⟨h1, h2⟩
  have key : ∀ k : Nat, lowM us d s c l p m + (k : Int) ≤ highM us d s c l p m → placedM us' d' s' c' l' (lowM us d s c l p m + (k : Int)) = placedM us' d' s' c' l' (lowM us d s c l p m) := by
    intro k
    induction k with
    | zero => intro _; rw [show lowM us d s c l p m + ((0 : Nat) : Int) = lowM us d s c l p m by omega]
    | succ k ih =>
      intro hk
      have i1 := ih (by omega)
      rw [← i1]
      refine Classical.byContradiction fun w => ?_
      have e1 : lowM us d s c l p m + ((k + 1 : Nat) : Int) - 1 = lowM us d s c l p m + (k : Int) := by omega
      refine h (lowM us d s c l p m + ((k + 1 : Nat) : Int)) (by omega) hk (fun v => w ?_) ?_
      · rw [e1] at v
        exact v.symm
      · rw [e1, same _ (by omega) (by omega), same _ (by omega) hk]
  have all : ∀ y, lowM us d s c l p m ≤ y → y ≤ highM us d s c l p m → placedM us' d' s' c' l' y = (p', m') := fun y h1 h2 => by
    have a := key (y - lowM us d s c l p m).toNat (by omega)
    have b := key (x - lowM us d s c l p m).toNat (by omega)
    rw [show lowM us d s c l p m + ((y - lowM us d s c l p m).toNat : Int) = y by omega] at a
    rw [show lowM us d s c l p m + ((x - lowM us d s c l p m).toNat : Int) = x by omega] at b
    rw [a, ← b, e']
  have a1 := (range_iff g' l0 j1 j2).mp (all _ (Int.le_refl _) (by omega))
  have a2 := (range_iff g' (show 0 ≤ highM us d s c l p m by omega) j1 j2).mp (all _ (by omega) (Int.le_refl _))
  exact ⟨a1.1, a2.2⟩
/-- with down, more decimals tell fewer -/
theorem fine_tells {us : List (Str × Int)} {d : Nat} {c : Bool} {l n : Int} (g : Good us (d + 1) "down" l) (g' : Good us d "down" l) (n1 : 1 ≤ n) (h : ¬ Chg us (d + 1) "down" c l n) : ¬ Chg us d "down" c l n := by
  have e := Classical.not_not.mp h
  intro hc
  refine hc ?_
  rw [placed_down g (by omega), placed_down g (by omega)] at e
  rw [placed_down g' (by omega), placed_down g' (by omega)]
  obtain ⟨e1, e2⟩ := Prod.mk.inj e
  have st1 : ∀ x, 0 ≤ x → stOf us d l x = if placeOf us l x = 0 then 1 else 10 * stOf us (d + 1) l x := fun x x0 => by
    have hp := place_lt g x0
    split
    · rename_i k
      unfold stOf
      rw [k]
      rfl
    · rename_i k
      have z1 := sz_step g (k := placeOf us l x) (by omega) hp
      have z2 := sz_step g' (k := placeOf us l x) (by omega) hp
      unfold stOf
      rw [z1, Int.pow_succ, Int.mul_comm (10 ^ d) 10, ← Int.mul_assoc, Int.mul_comm _ 10] at z2
      have pw := pow_lo d
      have := Int.eq_of_mul_eq_mul_right (show (10 ^ d : Int) ≠ 0 by omega) z2
      exact this.symm
  refine Prod.ext e1 ?_
  show (n - 1) / stOf us d l (n - 1) = n / stOf us d l n
  rw [st1 (n - 1) (by omega), st1 n (by omega), e1]
  split
  · rename_i k
    have : stOf us (d + 1) l (n - 1) = 1 := by unfold stOf; rw [e1, k]; rfl
    have k2 : stOf us (d + 1) l n = 1 := by unfold stOf; rw [k]; rfl
    rw [this, k2] at e2
    exact e2
  · have p1 := st_pos g (show 0 ≤ n - 1 by omega)
    have p2 := st_pos g (show 0 ≤ n by omega)
    rw [Int.mul_comm 10, Int.mul_comm 10, ← Int.ediv_ediv_of_nonneg (by omega), ← Int.ediv_ediv_of_nonneg (by omega), e2]
end My

namespace My
open PySem PySem.Spec PyProof.Rows L2
/-! ### numbers whose worth is shown by another figure -/
theorem rnd_exact {m st : Int} {s : Str} (h0 : 0 < st) : rnd (m * st) st s = m := by
  have e1 : m * st / st = m := Int.mul_ediv_cancel m (by omega)
  have e2 : m * st % st = 0 := Int.mul_emod_left m st
  unfold rnd goesUp
  rw [e1, e2]
  have k1 : decide ((0 : Int) < 0) = false := rfl
  have k2 : decide (st ≤ 2 * 0) = false := decide_eq_false (by omega)
  have k3 : decide (st < 2 * 0) = false := decide_eq_false (by omega)
  have k4 : decide (2 * 0 = st) = false := decide_eq_false (by omega)
  rw [k1, k2, k3, k4]
  simp
theorem firstR_low {m st : Int} {s : Str} (h : Stp st s) (m1 : 1 ≤ m) : (m - 1) * st ≤ firstR m st s := by
  have hp := h.pos
  have e : m * st = (m - 1) * st + st := by rw [Int.sub_mul, Int.one_mul]; omega
  unfold firstR
  split
  · omega
  · split
    · omega
    · split <;> omega
/-- a mark of a unit is one of those from its first one on -/
theorem fm_mark {us : List (Str × Int)} {d : Nat} {s : Str} {c : Bool} {l x : Int} (g : Good us d s l) (x0 : 0 ≤ x) {p : Nat} {m : Int} (e : placedM us d s c l x = (p, m)) : p < us.length ∧ fmM us d l p ≤ m ∧ m = rnd x ((stepsOf us d).getD p 0) s ∧ startM us d s c l p ≤ x := by
  obtain ⟨a1, _, _⟩ := placedM_ok (c := c) g x0
  have es := placed_snd us d s c l x
  have h1 := (place_ge (c := c) g x0 a1).mp (Nat.le_refl _)
  rw [e] at a1 es h1
  have a1' : p < us.length := a1
  have es' : m = rnd x ((stepsOf us d).getD p 0) s := es
  have h1' : startM us d s c l p ≤ x := h1
  obtain ⟨_, st0, _⟩ := steps_ok g a1'
  have := rnd_mono (s := s) g.srt (step_even g a1') st0 (start_nn (c := c) g a1') h1'
  rw [start_mark (c := c) g a1', ← es'] at this
  exact ⟨a1', this, es', h1'⟩
/-- a worth is shown by its own figure, unless it lies behind the end of its unit -/
theorem drift_iff {us : List (Str × Int)} {d : Nat} {s : Str} {c : Bool} {l x : Int} (g : Good us d s l) (x0 : 0 ≤ x) (x1 : x ≤ 100000000000000000000000000000) {p : Nat} {m : Int} (e : placedM us d s c l x = (p, m)) :
    shown us d s c l (m * (stepsOf us d).getD p 0) ≠ shown us d s c l x ↔ p + 1 < us.length ∧ startM us d s c l (p + 1) ≤ m * (stepsOf us d).getD p 0 := by
  obtain ⟨hp, hf, hm, hs⟩ := fm_mark g x0 e
  obtain ⟨_, st0, st1⟩ := steps_ok g hp
  obtain ⟨ef, f0⟩ := thr_fm g hp
  have hsl := start_le_thr (c := c) g hp
  have m0 : 0 ≤ m := by omega
  have w0 : 0 ≤ m * (stepsOf us d).getD p 0 := Int.mul_nonneg m0 (by omega)
  have wlo : fmM us d l p * (stepsOf us d).getD p 0 ≤ m * (stepsOf us d).getD p 0 := Int.mul_le_mul_of_nonneg_right hf (by omega)
  have hge := (place_ge (c := c) g w0 hp).mpr (by omega)
  have wb : m * (stepsOf us d).getD p 0 ≤ x + (stepsOf us d).getD p 0 := by
    have hd := Int.mul_ediv_add_emod x ((stepsOf us d).getD p 0)
    have hr := Int.emod_nonneg x (show (stepsOf us d).getD p 0 ≠ 0 by omega)
    have hm2 : m ≤ x / (stepsOf us d).getD p 0 + 1 := by
      rw [hm]
      unfold rnd
      split <;> omega
    have := Int.mul_le_mul_of_nonneg_right hm2 (show 0 ≤ (stepsOf us d).getD p 0 by omega)
    rw [Int.add_mul, Int.one_mul, Int.mul_comm (x / (stepsOf us d).getD p 0)] at this
    omega
  have same := shown_same' (c := c) g w0 x0 (by omega) (by omega)
  constructor
  · intro h
    refine Classical.byContradiction fun w => h (same.mpr ?_)
    have hlt := (placedM_ok (c := c) g w0).1
    have hle : (placedM us d s c l (m * (stepsOf us d).getD p 0)).1 ≤ p := by
      rcases Nat.lt_or_ge p (placedM us d s c l (m * (stepsOf us d).getD p 0)).1 with y | y
      · exfalso
        have hp1 : p + 1 < us.length := by omega
        exact w ⟨hp1, (place_ge (c := c) g w0 hp1).mp y⟩
      · exact y
    have ep : (placedM us d s c l (m * (stepsOf us d).getD p 0)).1 = p := by omega
    have es := placed_snd us d s c l (m * (stepsOf us d).getD p 0)
    rw [ep, rnd_exact st0] at es
    rw [e]
    exact Prod.ext ep es
  · rintro ⟨hp1, hle⟩ h
    have h2 := same.mp h
    have := (place_ge (c := c) g w0 hp1).mpr hle
    rw [h2, e] at this
    have this' : p + 1 ≤ p := this
    omega
/-- it is the last mark of its unit then -/
theorem drift_last {us : List (Str × Int)} {d : Nat} {s : Str} {c : Bool} {l x : Int} (g : Good us d s l) (x0 : 0 ≤ x) {p : Nat} {m : Int} (e : placedM us d s c l x = (p, m)) (hp : p + 1 < us.length) (h : startM us d s c l (p + 1) ≤ m * (stepsOf us d).getD p 0) : m = lmM us d s c l p := by
  obtain ⟨hp0, hf, hm, hs⟩ := fm_mark g x0 e
  obtain ⟨_, st0, _⟩ := steps_ok g hp0
  have hst := g.stp hp0
  have xlt : x < startM us d s c l (p + 1) := by
    rcases Int.lt_or_le x (startM us d s c l (p + 1)) with y | y
    · exact y
    · have := (place_ge (c := c) g x0 hp).mpr y
      rw [e] at this
      have this' : p + 1 ≤ p := this
      omega
  have hle : m ≤ lmM us d s c l p := by
    rw [hm]
    unfold lmM
    exact rnd_mono g.srt (step_even g hp0) st0 x0 (by omega)
  rcases Int.lt_or_le m (lmM us d s c l p) with y | y
  · exfalso
    have f0 := (thr_fm g hp0).2
    have k1 := (rnd_ge (n := startM us d s c l (p + 1) - 1) (m := lmM us d s c l p) hst.srt hst.even hst.pos (by omega) (by omega)).mp (Int.le_refl _)
    have k2 := firstR_low (m := lmM us d s c l p) hst (by omega)
    have k3 := Int.mul_le_mul_of_nonneg_right (show m ≤ lmM us d s c l p - 1 by omega) (show 0 ≤ (stepsOf us d).getD p 0 by omega)
    omega
  · omega
/-- what first_drift looks for -/
def DriftAt (us : List (Str × Int)) (d : Nat) (s : Str) (c : Bool) (l : Int) (p : Nat) : Prop := p + 1 < us.length ∧ startM us d s c l (p + 1) ≤ lmM us d s c l p * (stepsOf us d).getD p 0
def Drifts (us : List (Str × Int)) (d : Nat) (s : Str) (c : Bool) (l x : Int) : Prop := DriftAt us d s c l (placedM us d s c l x).1 ∧ (placedM us d s c l x).2 = lmM us d s c l (placedM us d s c l x).1
theorem drifts_iff {us : List (Str × Int)} {d : Nat} {s : Str} {c : Bool} {l x : Int} (g : Good us d s l) (x0 : 0 ≤ x) (x1 : x ≤ 100000000000000000000000000000) : shown us d s c l (worthM us d s c l x) ≠ shown us d s c l x ↔ Drifts us d s c l x := by
  have h := drift_iff (c := c) g x0 x1 (p := (placedM us d s c l x).1) (m := (placedM us d s c l x).2) rfl
  unfold worthM
  rw [h]
  constructor
  · rintro ⟨h1, h2⟩
    have e := drift_last (c := c) g x0 (p := (placedM us d s c l x).1) (m := (placedM us d s c l x).2) rfl h1 h2
    rw [e] at h2
    exact ⟨⟨h1, h2⟩, e⟩
  · rintro ⟨⟨h1, h2⟩, e⟩
    rw [← e] at h2
    exact ⟨h1, h2⟩
/-- the first number that drifts -/
def FirstDrift (us : List (Str × Int)) (d : Nat) (s : Str) (c : Bool) (l : Int) (r : Option Int) : Prop := match r with
  | none => ∀ p, ¬ DriftAt us d s c l p
  | some n => ∃ p, DriftAt us d s c l p ∧ (∀ q, q < p → ¬ DriftAt us d s c l q) ∧ n = lowM us d s c l p (lmM us d s c l p)
theorem lm_shown {us : List (Str × Int)} {d : Nat} {s : Str} {c : Bool} {l : Int} (g : Good us d s l) {p : Nat} (hp : p + 1 < us.length) : 0 ≤ lmM us d s c l p ∧ lowM us d s c l p (lmM us d s c l p) ≤ highM us d s c l p (lmM us d s c l p) := by
  have hp0 : p < us.length := by omega
  have h1 := lm_ge (c := c) g hp
  have f0 := (thr_fm g hp0).2
  exact ⟨by omega, is_shown g hp0 h1 (fun _ => Int.le_refl _)⟩
theorem first_drift {us : List (Str × Int)} {d : Nat} {s : Str} {c : Bool} {l : Int} (g : Good us d s l) {r : Option Int} (h : FirstDrift us d s c l r) : match r with
    | none => ∀ x, ¬ Drifts us d s c l x
    | some n => 0 ≤ n ∧ Drifts us d s c l n ∧ ∀ x, 0 ≤ x → x < n → ¬ Drifts us d s c l x := by
  cases r with
  | none => exact fun x hx => h _ hx.1
  | some n =>
    obtain ⟨p, hp, hq, e⟩ := h
    obtain ⟨l1, l2⟩ := lm_shown (c := c) g hp.1
    have hp0 : p < us.length := by have := hp.1; omega
    have pl := low_place (c := c) g hp0 l1 l2
    have n0 := low_nn (c := c) g hp0 (lmM us d s c l p)
    refine ⟨by omega, ?_, fun x x0 x1 hx => ?_⟩
    · unfold Drifts
      rw [e, pl]
      exact ⟨hp, rfl⟩
    · obtain ⟨hd, hm⟩ := hx
      rcases Nat.lt_trichotomy (placedM us d s c l x).1 p with y | y | y
      · exact hq _ y hd
      · have hin := in_range (c := c) g x0 (p := (placedM us d s c l x).1) (m := (placedM us d s c l x).2) rfl
        rw [hm, y] at hin
        omega
      · have k1 := (place_ge (c := c) g x0 hp.1).mp y
        have k2 := (place_ge (c := c) g n0 hp.1)
        rw [pl] at k2
        have : ¬ startM us d s c l (p + 1) ≤ lowM us d s c l p (lmM us d s c l p) := fun w => by
          have k3 : p + 1 ≤ p := k2.mpr w
          omega
        omega
end My

namespace My
open PySem PySem.Spec PyProof.Rows L2
theorem firstR_lt {m st : Int} {s : Str} (h : Stp st s) (m1 : 1 ≤ m) : (m - 1) * st < firstR m st s := by
  have hp := h.pos
  have he := h.even
  have e : m * st = (m - 1) * st + st := by rw [Int.sub_mul, Int.one_mul]; omega
  unfold firstR
  split
  · omega
  · split
    · omega
    · split <;> omega
theorem steady_of {us : List (Str × Int)} {d : Nat} {s : Str} {c : Bool} {l : Int} (g : Good us d s l) (h : c = true ∨ s = "down" ∨ us.length < 3) : ∀ p, ¬ DriftAt us d s c l p := by
  rintro p ⟨hp, hle⟩
  have hp0 : p < us.length := by omega
  obtain ⟨_, st0, _⟩ := steps_ok g hp0
  have hst := g.stp hp0
  have hs := start_strict (c := c) g hp
  have hn := start_nn (c := c) g hp0
  rcases h with h | h | h
  · subst h
    have es : startM us d s true l (p + 1) = firstR ((thrsOf us l).getD (p + 1) 0 / (stepsOf us d).getD p 0) ((stepsOf us d).getD p 0) s := by
      show (if p + 1 = 0 ∨ true = false then _ else firstR ((thrsOf us l).getD (p + 1) 0 / (stepsOf us d).getD (p + 1 - 1) 0) ((stepsOf us d).getD (p + 1 - 1) 0) s) = _
      rw [if_neg (by rintro (k | k) <;> cases k)]
      rfl
    obtain ⟨M, eM⟩ : ∃ M, (thrsOf us l).getD (p + 1) 0 / (stepsOf us d).getD p 0 = M := ⟨_, rfl⟩
    rw [eM] at es
    have t0 : 0 ≤ (thrsOf us l).getD (p + 1) 0 := by
      have := (thr_fm g hp).1
      have h2 := (thr_fm g hp).2
      obtain ⟨_, q1, _⟩ := steps_ok g hp
      rw [this]
      exact Int.mul_nonneg h2 (by omega)
    have M0 : 0 ≤ M := by rw [← eM]; exact Int.ediv_nonneg t0 (by omega)
    rcases Int.lt_or_le 0 M with y | y
    · have k1 := firstR_lt (m := M) hst (by omega)
      have k2 : ¬ M ≤ lmM us d s true l p := fun w => by
        have := (rnd_ge (n := startM us d s true l (p + 1) - 1) (m := M) hst.srt hst.even hst.pos (by omega) (by omega)).mp w
        omega
      have k3 := Int.mul_le_mul_of_nonneg_right (show lmM us d s true l p ≤ M - 1 by omega) (show 0 ≤ (stepsOf us d).getD p 0 by omega)
      omega
    · have z : M = 0 := by omega
      subst z
      have e0 : firstR 0 ((stepsOf us d).getD p 0) s = 0 * (stepsOf us d).getD p 0 := by
        unfold firstR
        rw [if_pos (.inl rfl)]
      rw [e0, Int.zero_mul] at es
      omega
  · subst h
    have e : lmM us d "down" c l p = (startM us d "down" c l (p + 1) - 1) / (stepsOf us d).getD p 0 := by
      unfold lmM rnd
      rw [goes_down, if_neg Bool.false_ne_true]
    rw [e] at hle
    have := Int.ediv_mul_le (startM us d "down" c l (p + 1) - 1) (b := (stepsOf us d).getD p 0) (by omega)
    omega
  · have z : p = 0 := by omega
    subst z
    have e1 : (stepsOf us d).getD 0 0 = 1 := rfl
    have e : lmM us d s c l 0 = startM us d s c l (0 + 1) - 1 := by
      unfold lmM
      rw [e1]
      have := rnd_exact (m := startM us d s c l (0 + 1) - 1) (st := 1) (s := s) (by decide)
      rw [Int.mul_one] at this
      exact this
    rw [e, e1] at hle
    omega
end My

namespace My
open PySem PySem.Spec PyProof.Rows L2
/-! ### first_drift, is_steady, the law's own drifts -/
abbrev sFirstD : Stmt := top 63
theorem scFirstD : FnScope ["ladder", "place", "mark", "low", "_"] ["ladder"] (defScope sFirstD) := ⟨rfl, rfl, rfl, by decide +kernel, rfl, by decide +kernel, by decide +kernel⟩
def optI : Option Int → V
  | none => .non
  | some n => .int n
def spFirstD (K : PySem.W.Frag) (C : Addr) : Sp := fun vs H Q _ => ∃ (a : Addr) (us : List (Str × Int)) (d : Nat) (s : Str) (c : Bool) (l : Int), vs = [.ref a] ∧ LadAt K C H a us d s c l ∧ Good us d s l ∧ ∀ (r : Option Int) (H' : Hp), Same H H' → FirstDrift us d s c l r → Q (optI r) H'
def spSteady (K : PySem.W.Frag) (C : Addr) : Sp := fun vs H Q _ => ∃ (a : Addr) (us : List (Str × Int)) (d : Nat) (s : Str) (c : Bool) (l : Int), vs = [.ref a] ∧ LadAt K C H a us d s c l ∧ Good us d s l ∧ ∀ (r : Option Int) (H' : Hp), Same H H' → FirstDrift us d s c l r → Q (.bl r.isNone) H'
def spLDrifts (K : PySem.W.Frag) : Sp := fun vs H Q _ => ∃ (r : Addr) (us : List (Str × Int)) (d : Nat) (s : Str) (c : Bool) (l n : Int), vs = [.ref r, .int n] ∧ ToldAt K H r us d s c l ∧ Good us d s l ∧ 0 ≤ n ∧ n ≤ 10000000000000000000000000000 ∧ ∀ (b : Bool) (H' : Hp), Same H H' → (b = true ↔ Drifts us d s c l n) → Q (.bl b) H'
theorem firstDrift_one {us : List (Str × Int)} {d : Nat} {s : Str} {c : Bool} {l : Int} {r r' : Option Int} (h : FirstDrift us d s c l r) (h' : FirstDrift us d s c l r') : r = r' := by
  cases r with
  | none =>
    cases r' with
    | none => rfl
    | some m =>
      obtain ⟨p, hp, _⟩ := h'
      exact absurd hp (h p)
  | some n =>
    obtain ⟨p, hp, hq, e⟩ := h
    cases r' with
    | none => exact absurd hp (h' p)
    | some m =>
      obtain ⟨p', hp', hq', e'⟩ := h'
      rcases Nat.lt_trichotomy p p' with y | y | y
      · exact absurd hp (hq' p y)
      · subst y
        rw [e, e']
      · exact absurd hp' (hq p' y)
theorem kb_one {K : PySem.W.Frag} {mg : Str → Option Value} {x : Str} {st : Stmt} (d : Dd K mg x st ["ladder"]) (h : ∀ (kV doc pm : Value) (an : Option Addr) (cdv ct : Value) (u : Value), bindArgs (PySem.W.fnOf x x (defArgs st) (defBody st) (defScope st) .none kV doc pm an cdv ct) ⟨[], [("ladder", u)]⟩ = pure [(("ladder" : Str), u)]) : KBn K d.fd ["ladder"] 0 ["ladder"] (fun _ ws => ws) (fun _ ws => ws) := by
  obtain ⟨oc, od, kV, doc, pm, an, cdv, ct, osl, e, _⟩ := d.F.ex
  rw [e]
  refine ⟨fun s us ws _ h1 h2 => ?_, fun _ h2 => h2⟩
  match us, ws, h1, h2 with
  | [], [u], _, _ => exact .of_eq (h ..)
section
variable {X : Cx}
/-- repr of an int or None -/
theorem call_repr_opt : CallR X (.builtin "repr") (fun xs H Q => ∃ o : Option Int, xs = [optI o] ∧ (∀ i, o = some i → i.natAbs.log2 < 1920) ∧ Q (.str (match o with | none => "None" | some i => Str.ofString (toString i))) H) := by
  intro pins s σ H xs us Q I r h
  obtain ⟨o, rfl, hz, q⟩ := h
  cases o with
  | none =>
    obtain ⟨u, rfl, hu⟩ := vals1 r
    cases hu
    exact PySem.P.repr_of_none ⟨.str _, H, I.tok _, ⟨_, rfl⟩, q⟩
  | some i =>
    obtain ⟨u, rfl, t, rfl⟩ := vals1 r
    exact PySem.P.repr_of_int (hz i rfl) ⟨.str _, H, I.tok _, ⟨_, rfl⟩, q⟩
end
section
variable {P : Program} {w : World} {K : PySem.W.Frag} {mg : Str → Option Value} {base : Heap}
theorem ok_firstd (d : Dd K mg "first_drift" sFirstD ["ladder"]) (dC : Dd K mg "check_ladder" sCLad ["ladder"]) (dL : Dd K mg "last_mark" sLastMark ["ladder", "place"]) (dS : Dd K mg "start_of" sStartOf ["ladder", "place"]) (dN : Dd K mg "numbers_shown" sNums ["ladder", "place", "mark"]) (L : LadC K mg) (B : Bt mg)
    (GC : FnOk P w K mg base CX0 2 dC.f dC.fd ["ladder"] (spCLad K L.C)) (GL : FnOk P w K mg base CX0 4 dL.f dL.fd ["ladder", "place"] (spLastMark K L.C)) (GS : FnOk P w K mg base CX0 3 dS.f dS.fd ["ladder", "place"] (spStartOf K L.C)) (GN : FnOk P w K mg base CX0 4 dN.f dN.fd ["ladder", "place", "mark"] (spNums K L.C)) :
    FnOk P w K mg base CX0 5 d.f d.fd ["ladder"] (spFirstD K L.C) := by
  refine d.F.ok scFirstD (fun vs H Q E h => ?_) (fun cdv A outer s H vs Q E hr h => ?_)
  · obtain ⟨_, _, _, _, _, _, rfl, _⟩ := h
    rfl
  · obtain ⟨a, us, dn, z, c, l, rfl, hL, g, q⟩ := h
    have hr1 : Room 2 _ := hr.mono (by decide)
    have hr2 : Room 3 _ := hr.mono (by decide)
    have nd := scFirstD.nd
    refine ⟨_, pss_cons (ps_expr (pe_call GC hr1 (by rfl) dC.g dC.F.kp dC.b .nil pass0 (pa_cons (pv 0) pa_nil)))
      (pss_cons (ps_for PassesOwn.never rfl (pi_range1 rfl B.range (pa_cons (pe_op op_sub (pe_callB call_len_seq (by rfl) B.len PySem.boot_len (pa_cons (pe_fld (pv 0) rfl) pa_nil)) pe_int) pa_nil)) (pg_name (i := 1) nd rfl (.inl rfl))
        (pss_cons (ps_set (i := 2) nd rfl (.inl rfl) (pe_call GL hr (by rfl) dL.g dL.F.kp dL.b .nil pass0 (pa_cons (pv 0) (pa_cons (pv 1) pa_nil))))
        (pss_one (ps_if (pt_cmpR op_ge (pe_op op_mul (pv 2) (pe_ix ix_tup (pe_fld (pv 0) rfl) (pv 1) (fun _ _ => rfl))) (pe_call GS hr2 (by rfl) dS.g dS.F.kp dS.b .nil pass0 (pa_cons (pv 0) (pa_cons (pe_op op_add (pv 1) pe_int) pa_nil))) (nomark _))
          (pss_cons (ps_asg (pe_call GN hr (by rfl) dN.g dN.F.kp dN.b .nil pass0 (pa_cons (pv 0) (pa_cons (pv 1) (pa_cons (pv 2) pa_nil)))) (pg_tup rfl (pgs_cons (pg_name (i := 3) nd rfl (.inl rfl)) (pgs_cons (pg_name (i := 4) nd rfl (.inl rfl)) pgs_nil))))
          (pss_one (ps_ret (pv 3)))) pss_nil))))
      (pss_one (ps_ret pe_non))), ?_⟩
    refine ⟨_, rfl, a, us, dn, z, c, l, rfl, hL, ?_⟩
    obtain ⟨dx, ua, t, st, th, hp, hUA, ht, hs, hth⟩ := id hL
    obtain ⟨ps, hua, hup⟩ := id hUA
    have el := UP.len hup
    have hlo := g.u.lo
    have hhi := g.u.hi
    refine ⟨_, rfl, a, L.C, dx, _, _, rfl, hp, L.cl, L.nUnits, fl_units .., ua, _, rfl, .inr hua, _, 1, rfl, rfl, _, rfl, by rw [List.length_map]; omega, by rw [List.length_map]; omega, ?_⟩
    rw [List.length_map, el, show ((us.length : Int) - 1).toNat = us.length - 1 by omega]
    refine for_range (lo := 0) (n := us.length - 1) (fun i σ H' => (∃ v1 v2, σ = [some (.ref a), v1, v2, none, none]) ∧ Same H H' ∧ ∀ q, q < i → ¬ DriftAt us dn z c l q) ⟨⟨_, _, rfl⟩, Same.refl _, fun q hq => absurd hq (Nat.not_lt_zero _)⟩ ?_ ?_
    · rintro i σ H1 hi ⟨⟨v1, v2, rfl⟩, s1, hq⟩
      have ei : (0 : Int) + (i : Int) = (i : Int) := by omega
      have hi1 : i + 1 < us.length := by omega
      obtain ⟨k1, k2, k3⟩ := steps_ok g (show i < us.length by omega)
      obtain ⟨l1, l2⟩ := lm_shown (c := c) g hi1
      refine ⟨_, rfl, _, rfl, a, us, dn, z, c, l, i, by rw [ei]; rfl, LadAt.same s1 hL, g, hi1, fun H2 s2 => ?_⟩
      have s02 := s1.trans s2
      refine ⟨_, rfl, _, rfl, a, L.C, dx, _, _, rfl, s02 _ _ hp, L.cl, L.nSteps, fl_steps .., _, rfl, st, _, (0 : Int) + (i : Int), .int ((stepsOf us dn).getD i 0), rfl, rfl, same_sqt s02 hs, by rw [ei]; exact atI_nat (by rw [List.getElem?_map, k1]; rfl), _, _, rfl, rfl, .inr ⟨by omega, by omega⟩, ?_⟩
      refine ⟨_, rfl, _, rfl, _, 1, rfl, rfl, a, us, dn, z, c, l, i + 1, by rw [ei]; rfl, LadAt.same s02 hL, g, hi1, _, _, rfl, rfl, _, rfl, ite2 (fun e => ?_) (fun e => ?_)⟩
      · have e' : lmM us dn z c l i * (stepsOf us dn).getD i 0 ≥ startM us dn z c l (i + 1) := of_decide_eq_true e
        refine ⟨_, rfl, _, rfl, _, rfl, a, us, dn, z, c, l, i, lmM us dn z c l i, by rw [ei]; rfl, LadAt.same s02 hL, g, by omega, fun k => absurd k (by omega), fun _ rr H3 s3 hrr => ?_⟩
        exact ⟨rr, _, rfl, hrr, rfl, _, _, rfl, _, _, rfl, rfl, _, rfl, q (some (lowM us dn z c l i (lmM us dn z c l i))) H3 (s02.trans s3) ⟨i, ⟨hi1, e'⟩, hq, rfl⟩⟩
      · have e' : ¬ lmM us dn z c l i * (stepsOf us dn).getD i 0 ≥ startM us dn z c l (i + 1) := fun k => e (decide_eq_true k)
        refine ⟨⟨_, _, rfl⟩, s02, fun q hq2 hd => ?_⟩
        rcases Nat.lt_or_ge q i with y | y
        · exact hq q y hd
        · have : q = i := by omega
          subst this
          exact e' hd.2
    · rintro σ H1 ⟨⟨v1, v2, rfl⟩, s1, hq⟩
      refine q none H1 s1 fun p hp => ?_
      exact hq p (by have := hp.1; omega) hp
end
end My

namespace My
open PySem PySem.Spec PyProof.Rows L2
/-! ### defs that are called while nothing is being displayed -/
/-- what a def keeps to, where no display of anything is under way -/
structure FnG (P : Program) (w : World) (K : PySem.W.Frag) (mg : Str → Option Value) (base : Heap) (k : Nat) (f : Addr) (fd : FuncData) (ps : List Str) (sp : Sp) : Prop where
  len : ∀ xs M Q E, sp xs M Q E → xs.length = ps.length
  run : ∀ (A : Around) (up : List Env) (t : Shared) (M : Hp) (given : Args) (us : List Value) (xs : List V) (Q : VK) (E : XK),
    A.guards = some [] → Room k A → Env0 P w K mg base A up t M → BindsTo t fd given (ps.zip us) → Vals xs us → sp xs M Q E → codeAny (model P w) A (.call (.ref f) given) (CR CX0 up P w M t Q E) t
section
variable {P : Program} {w : World} {K : PySem.W.Frag} {mg : Str → Option Value} {base : Heap}
theorem FnG.of {k : Nat} {f : Addr} {fd : FuncData} {ps : List Str} {sp : Sp} (F : FnOk P w K mg base CX0 k f fd ps sp) : FnG P w K mg base k f fd ps sp :=
  ⟨F.len, fun A up t M given us xs Q E _ => F.run A up t M given us xs Q E⟩
theorem Fun_okG {x qual : Str} {st : Stmt} {f : Addr} {fd : FuncData} {N ps : List Str} {k : Nat} {sp : Sp} (F : Fun K x qual st f fd) (S : FnScope N ps (defScope st)) (len : ∀ xs M Q E, sp xs M Q E → xs.length = ps.length)
    (body : ∀ (cdv : Value) (A : Around) (up : List Env) (s : Shared) (M : Hp) (xs : List V) (Q : VK) (E : XK), A.guards = some [] → Room k (A.deeper (envOfC qual (defScope st) s.heap.objs.size f cdv)) → sp xs M Q E →
      ∃ t, PSs (cxOf CX0 P w K mg base N qual (defScope st) f cdv A up s M E).nox (defBody st) t ∧ t { nx := fun _ M' => Q .non M', rt := Q } (start N xs) M) : FnG P w K mg base (k + 1) f fd ps sp := by
  obtain ⟨oc, od, kV, doc, pm, an, cdv, ct, osl, rfl, look, hc⟩ := F.ex
  refine ⟨len, fun A up s M given us xs Q E gd room en bd rel want => ?_⟩
  have inK : K.In s.heap := en.mod.kin.keeps fun b o e => (en.bs b o e).1
  have free := en.mod.nolimit.keeps (h' := s.heap) fun b o e => (en.bs b o e).1
  have many := len _ _ _ _ want
  have kinds : ∀ y ∈ ps.zip us, (defScope st).names.lookup y.1 = some .local ∨ ((defScope st).names.lookup y.1 = some .cell ∧ ((cellsFrom (s.heap.objs.size + 1) (defScope st).names []).lookup y.1).isSome = true) := by
    rintro ⟨n, v⟩ hy
    rcases S.par n (List.of_mem_zip hy).1 with z | z
    · exact .inl z
    · exact .inr ⟨z, PySem.W.cellsFrom_some _ _ _ (.inl z)⟩
  refine codeAny_call_function room.depth (inK _ _ look) rfl S.co S.gen rfl (PySem.W.codeRec_of inK hc) (bd _ _ _ _ ?_)
  refine wpAny_newFunctionEnv_cells S.kind kinds fun env same s1 made => ?_
  subst same
  refine ⟨free.keeps made.toInCall.keep, codeAny_func ?_⟩
  obtain ⟨t, h0, q⟩ := body cdv A up s M xs Q E gd (room.deeper _) want
  have h1 := h0.nox
  have J := inv_start (CX := CX0) (E := E) S room.hd en many rel made
  refine wpAny_mono (h1.run [] s1 (start N xs) M _ J q) (fun fl s' z => ?_) fun e s' z => z
  cases fl with
  | ret u =>
    obtain ⟨v, σ', M', I, rv, hq⟩ := z
    exact ⟨v, M', I.os, I.bare, I.base, I.hok, rv, hq⟩
  | next =>
    obtain ⟨σ', M', I, hq⟩ := z
    exact ⟨V.non, M', I.os, I.bare, I.base, I.hok, rfl, hq⟩
  | brk => exact z.elim fun _ z => z.elim fun _ z => z.2.elim
  | cont => exact z.elim fun _ z => z.elim fun _ z => z.2.elim
end
section
variable {X : Cx} {k : Nat} {f : Addr} {fd : FuncData} {ps : List Str} {sp : Sp} {E : XK}
/-- f(e, ..) of such a def -/
theorem pe_callG {x : Str} {e : Expr} {es : List Expr} {t : TA} {p pos : Pos} (F : FnG X.prog X.w X.K X.mg X.base k f fd ps sp) (gd : X.A.guards = some []) (hr : Room k X.A) (hg : Gl X x) (hm : X.mg x = some (.ref f)) (hk : PySem.W.keepIn X.K (.ref f) = true) (hb : Binds X.K fd ps [])
    (hx : Passes CX0 X E) (ha : PA X (e :: es) t) (hdb : (x == ("__debug__" : Str)) = false := by decide) (he : starEach (e :: es) X.env = (false, eval e X.env) :: starEach es X.env := by rfl) (hpl : (backTo pos (starEach es X.env)).any (·.1) = false := by rfl) :
    PE X (.Call (.Name x p) (e :: es) [] pos) (tCall sp [] E t) := by
  refine ⟨fun pins s σ M Q I h => wpAny_Call_Name_kw (ld_glob I hg hm ?_ hdb)⟩
  refine PySem.W.callWith_K (h₀ := X.base) I.ok.mod.kin hk (thn (ha.run pos pins s σ M _ I h) fun us s1 ⟨xs, M1, J, r, q⟩ => ⟨J.kIn, ?_⟩) he hpl
  have q : sp (xs ++ []) M1 Q E := q
  rw [List.append_nil] at q
  have hl : us.length = ps.length := by rw [← r.length]; exact F.len _ _ _ _ q
  have bd : BindsTo s1 fd ⟨us, []⟩ (ps.zip us) := by
    have z := hb s1 us J.kIn (by rw [List.append_nil]; exact hl)
    rw [List.append_nil] at z
    exact z
  refine wpAny_call (codeAny_mono (F.run X.A X.stack s1 M1 ⟨us, []⟩ us xs Q E gd hr J.env0 bd r q) fun res s' z => ?_)
  cases res with
  | error v => exact hx pins σ M1 s1 v s' J z
  | ok fl =>
    cases fl with
    | ret u => exact J.after z
    | next => exact z.elim
    | brk => exact z.elim
    | cont => exact z.elim
/-- repr of data -/
theorem call_reprD (gd : X.A.guards = some []) (hu : X.A.units + 66 < cLine) : CallR X (.builtin "repr") (fun xs M Q => ∃ (a : Addr) (d : PyData), xs = [.ref a] ∧ Dp X.K M (.ref a) d ∧ d.showable = true ∧ d.hasDict = false ∧ d.depth ≤ 64 ∧ d.shown.length ≤ sizeLine ∧ Q (.str d.shown) M) := by
  intro pins s σ M xs us Q I r h
  obtain ⟨a, d, rfl, hd, h1, h2, h3, h4, q⟩ := h
  obtain ⟨u, rfl, hu1⟩ := vals1 r
  cases hu1
  obtain ⟨as, rd⟩ := Dp.reads I d (.ref a) (.ref a) hd rfl
  refine repr_of_reads' rd h1 (PyData.noDict_hsm h2) gd (by omega) (fun _ _ e => e) (fun h' u tk hk => ?_) h4
  exact ⟨.str d.shown, M, I.kept hk, ⟨u, rfl⟩, q⟩
end
/-! ### the law's own promise, at the heap behind the top -/
theorem ints_vals : ∀ {vs : List Value} {ns : List Int}, IntsAre vs ns → Vals (ns.map V.int) vs
  | _, _, .nil => .nil
  | _, _, .cons _ tok more => .cons ⟨tok, rfl⟩ (ints_vals more)
/-- the law's def is called with the script -/
theorem head_G {P : Program} {w : World} {K : PySem.W.Frag} {mg mb : Str → Option Value} {k : Nat} {fa a : Addr} {fd : FuncData} {x : Str} {sp : Sp} {s1 : Shared} {vs : List Value} {ns : List Int}
    (inK : K.In s1.heap) (top : s1.heap.Ns mainGlobals mg) (blt : s1.heap.Ns builtinsNs mb) (boot : ∀ y : Str, y ≠ "__name__" → mb y = bootBuiltins y) (free : s1.heap.NoLimit) (quiet : s1.gens = #[])
    (obj : s1.heap.get? a = some { cls := .type "list", data := .seq vs.toArray }) (isI : IntsAre vs ns) (size : ns.length ≤ sizeLine) (room : Room k callerA)
    (F : ∀ base : Heap, K.In base → base.Ns mainGlobals mg → FnG P w K mg base k fa fd [x] sp) (bind : ∀ (s : Shared) (u : Value), BindsTo s fd ⟨[u], []⟩ [(x, u)])
    (want : ∀ M : Hp, Only M → SqL K M a (ns.map V.int) → sp [.ref a] M (fun v _ => v = .bl true) fun _ _ _ => False) (none_raised : ∀ M e s', CX0 [] M s1 (fun _ _ _ => False) e s' → False) :
    codeAny (model P w) callerA (.call (.ref fa) ⟨[.ref a], []⟩) (fun r s' => r = .ok (.ret (.bool true)) ∧ OldK s1.heap s'.heap ∧ s'.os = s1.os ∧ AllBare s'.gens) s1 := by
  have rel := ints_vals isI
  have go : ∀ M : Hp, Only M → SqL K M a (ns.map V.int) → HOk P w M s1.heap → (∀ b, M b ≠ none → b = a ∧ K.lookup a = none) →
      codeAny (model P w) callerA (.call (.ref fa) ⟨[.ref a], []⟩) (fun r s' => r = .ok (.ret (.bool true)) ∧ OldK s1.heap s'.heap ∧ s'.os = s1.os ∧ AllBare s'.gens) s1 := by
    intro M only seq ok just
    have is_a : ∀ {b : Addr} {o : Obj}, s1.heap.get? b = some o → (o = { cls := .type "list", data := .seq vs.toArray } → K.lookup a = none → False) → M b = none := fun {b o} e no => by
      rcases hb : M b with _ | y
      · rfl
      · obtain ⟨rfl, z⟩ := just b (by rw [hb]; exact fun z => nomatch z)
        rw [obj] at e
        exact (no (Option.some.inj e).symm z).elim
    have spaces : ∀ {b : Addr} {m : Str → Option Value}, s1.heap.Ns b m → (hidT s1.heap M).Ns b m := by
      rintro b m ⟨o, es, n, e, d, rest⟩
      refine ⟨o, es, n, hidT_get e (is_a e fun eo _ => ?_), d, rest⟩
      rw [eo] at d
      cases d
    have inB : K.In (hidT s1.heap M) := fun b o e => hidT_get (inK b o e) (by
      rcases hb : M b with _ | y
      · rfl
      · obtain ⟨rfl, z⟩ := just b (by rw [hb]; exact fun z => nomatch z)
        rw [z] at e
        cases e)
    have lim : ∃ mc, (hidT s1.heap M).Ns _ mc ∧ _ := free.elim fun mc z => ⟨mc, spaces z.1, z.2⟩
    have en : Env0 P w K mg (hidT s1.heap M) callerA [] s1 M :=
      ⟨rfl, ⟨inB, spaces top, ⟨mb, spaces blt, boot⟩, lim⟩, fun _ _ e => of_hidT e, Nat.le_of_eq (hidT_size _ _), trivial, fun b z => absurd (show b ∈ ([] : List Addr) from z) List.not_mem_nil, ok, .of_eq quiet⟩
    have ran := (F _ inB (spaces top)).run callerA [] s1 M ⟨[.ref a], []⟩ [.ref a] [.ref a] _ _ rfl room en (bind s1 (.ref a)) (.cons rfl .nil) (want M only seq)
    refine codeAny_mono ran fun r s' z => ?_
    rcases r with e | fl
    · exact (none_raised M e s' z).elim
    · rcases fl with _ | _ | _ | u
      · exact z.elim
      · exact z.elim
      · exact z.elim
      · obtain ⟨v, M', os, bare, un, ok', rv, hv⟩ := z
        have hv : v = .bl true := hv
        subst hv
        have hu : u = Value.bool true := rv
        subst hu
        refine ⟨rfl, OldK.of_keep fun b o e => ?_, os, bare⟩
        rcases hb : M b with _ | y
        · exact un.keep b o e hb (fun z => absurd (show b ∈ ([] : List Addr) from z) List.not_mem_nil) List.not_mem_nil
        · rcases only b with z | ⟨ob, xs, z⟩
          · rw [hb] at z
            cases z
          · have still := (ok' b _ (un.frzs b _ _ z)).1
            have old := (ok b _ z).1
            rw [e] at old
            cases old
            exact still
  rcases known : K.lookup a with _ | o
  · let M : Hp := fun b => if b = a then some (.frz { cls := .type "list", data := .seq vs.toArray } (.lst (ns.map V.int))) else none
    have at_a : M a = some (.frz { cls := .type "list", data := .seq vs.toArray } (.lst (ns.map V.int))) := if_pos rfl
    have off : ∀ b, b ≠ a → M b = none := fun b h => if_neg h
    refine go M (fun b => ?_) (.inl (.inr ⟨_, at_a⟩)) (fun b u z => ?_) (fun b z => ⟨?_, known⟩)
    · by_cases h : b = a
      · exact .inr ⟨_, _, by rw [h]; exact at_a⟩
      · exact .inl (off b h)
    · by_cases h : b = a
      · subst h
        have z' := at_a.symm.trans z
        cases z'
        exact ⟨obj, by rw [List.length_map]; exact size, vs, _, rel, obj⟩
      · rw [off b h] at z
        cases z
    · exact Classical.byContradiction fun h => z (off b h)
  · have e := inK a o known
    rw [obj] at e
    cases e
    exact go (fun _ => none) (fun _ => .inl rfl) (.inr ⟨_, vs.toArray, _, known, rfl, rfl, rfl, by rw [List.size_toArray, isI.length]; exact size, by simpa using rel⟩) (fun _ _ z => nomatch (show (none : Option HO) = some _ from z)) fun b z => absurd rfl z
theorem walk_G {l : PySem.W.OpenLaw} {n k : Nat} {q : Program} {loose : List Str} {XP : (Str → Option Value) → Heap → Prop} {YP : World → Heap → Prop} {d : DefRec} {K : Params → PySem.W.Frag} {sp : World → Sp} {x : Str}
    (most : l.most = some n) (most2 : n ≤ sizeLine) (plain : d.params.defaults = []) (room : Room k callerA) (part : ∀ (w : World) (h : Heap), YP w h → (K w.params).In h)
    (F : ∀ (w : World) (mg : Str → Option Value) (fa : Addr) (h : Heap), (K w.params).In h → h.Ns mainGlobals mg → mg d.name = some (.ref fa) → ∃ fd : FuncData,
      (∀ (s : Shared) (u : Value), BindsTo s fd ⟨[u], []⟩ [(x, u)]) ∧ ∀ base : Heap, (K w.params).In base → base.Ns mainGlobals mg → FnG l.prog w (K w.params) mg base k fa fd [x] (sp w))
    (want : ∀ (w : World) (M : Hp) (a : Addr) (ns : List Int), ns.length ≤ n → Only M → SqL (K w.params) M a (ns.map V.int) → sp w [.ref a] M (fun v _ => v = .bl true) fun _ _ _ => False) :
    PySem.W.WalkO q loose XP YP l.row.toRowW d [] (fun f vs => PySem.call f vs) := by
  refine Att.attach_call most plain fun w s₀ s₁ mg mb fa o pm cd doc a vs ns G Y ho hd hcd hmg hobj hints hlen hg => ?_
  have inK := part w _ Y
  obtain ⟨fd, bind, run⟩ := F w mg fa _ inK G.T.g hmg
  exact head_G inK G.T.g G.T.b G.T.builtins G.T.nolimit hg hobj hints (Nat.le_trans hlen most2) room run bind (fun M only seq => want w M a ns hlen only seq) fun _ _ _ z => z
end My

namespace My
open PySem PySem.Spec PyProof.Rows L2
section
variable {P : Program} {w : World} {K : PySem.W.Frag} {mg : Str → Option Value} {base : Heap}
theorem ok_lawG {kR : Nat} {f fS fR : Addr} {fd fdS fdR : FuncData} (F : Fun K "law" "law" sLaw f fd) (FS : Fun K "_law_spring" "_law_spring" sSpring fS fdS) (bS : Binds K fdS ["_law_script", "_law_k"] []) (gS : mg "_law_spring" = some (.ref fS))
    (kpR : PySem.W.keepIn K (.ref fR) = true) (GR : FnG P w K mg base (kR + 2) fR fdR ["_law_spring_here"] spRight) (bR : Binds K fdR ["_law_spring_here"] []) (gR : mg "_law_right" = some (.ref fR)) (B : Bt mg) :
    FnG P w K mg base (kR + 3) f fd ["_law_script"] (spLaw K) := by
  have GS : FnOk P w K mg base CX0 2 fS fdS ["_law_script", "_law_k"] (spSpring K) := ok_spring FS B
  refine Fun_okG F scLaw (fun vs H Q E h => ?_) (fun cdv A outer s H vs Q E gd hr h => ?_)
  · obtain ⟨a, xs, rfl, _⟩ := h
    rfl
  · obtain ⟨a, ns, rfl, hs, hlen, q⟩ := h
    have hr1 : Room 2 _ := hr.mono (by omega)
    refine ⟨_, pss_one (ps_ret (pe_callB (cr_all rfl) (by rfl) B.all (by decide +kernel) (pa_cons
      (pe_lc (own := [("_law_k", 1)]) (g := gName 1) (tt := tYes) rfl scLaw.nd
        (pi_range1 (by rfl) B.range (pa_cons (pe_callB (call_max2 rfl) (by rfl) B.max (by decide +kernel) (pa_cons pe_int (pa_cons (pe_callB (call_min2 rfl) (by rfl) B.min (by decide +kernel) (pa_cons (pe_callB call_len_seq (by rfl) B.len PySem.boot_len (pa_cons (pv 0) pa_nil)) (pa_cons pe_int pa_nil))) pa_nil))) pa_nil))
        (blkOk_by (own := [("_law_k", 1)]) (N := ["_law_script", "_law_k"]) (sc := defScope sLaw) (by decide +kernel)) (fun _ _ _ _ _ => pg_name (i := 1) scLaw.nd rfl (Or.inl rfl)) (fun _ _ _ _ _ => pts_nil)
        (fun _ _ _ _ _ => pe_callG GR gd hr (by rfl) gR kpR bR pass0 (pa_cons (pe_call GS hr1 (by rfl) gS FS.kp bS .nil pass0 (pa_cons (pv 0) (pa_cons (pv 1) pa_nil))) pa_nil)))
      pa_nil))), ?_⟩
    refine ⟨.ref a, rfl, a, _, rfl, .inl hs, _, 5, rfl, 2, _, rfl, _, rfl, ?_, ?_, ?_⟩
    · split <;> (try split) <;> rw [List.length_map] at * <;> omega
    · split <;> (try split) <;> rw [List.length_map] at * <;> omega
    · intro D nD
      refine lc_range (n := _) (fun i H2 => Same H H2 ∧ H2 D = some (.lst (List.replicate i (V.bl true)))) ⟨same_upd nD, upd_same⟩ ?_ ?_
      · rintro i H2 hi ⟨sm, hD⟩
        refine ⟨rfl, .ref a, rfl, .int (0 + (i : Int)), rfl, a, _, ns, rfl, sm.seq hs, by omega, hlen, fun p H3 sm3 np hp => ?_⟩
        have nDp : D ≠ p := ne_of_none hD np
        refine ⟨p, rfl, hp, fun H4 b4 => ?_⟩
        have hD4 : H4 D = some (.lst (List.replicate i (V.bl true))) := b4 _ _ (sm3 _ _ hD) nDp
        refine ⟨_, hD4, ?_, fun b o e => ?_, ?_⟩
        · rw [List.length_replicate]
          have hi2 : i < 6 := by
            revert hi
            split <;> (try split) <;> omega
          exact Nat.lt_of_lt_of_le hi2 (by decide)
        · have nbD : b ≠ D := ne_of_none e nD
          rw [upd_ne nbD]
          exact b4 _ _ (sm3 _ _ (sm _ _ e)) (ne_of_none (sm _ _ e) np)
        · rw [upd_same, List.replicate_succ']
      · rintro H2 ⟨sm, hD⟩
        obtain ⟨n, hD⟩ : ∃ n, H2 D = some (.lst (List.replicate n (V.bl true))) := ⟨_, hD⟩
        refine ⟨D, List.replicate n true, rfl, ?_, ?_⟩
        · rw [List.map_replicate]
          exact SqL.of hD
        · have e : (List.replicate n true).all id = true := by simp
          rw [e]
          exact q _
end
/-! ### how long the text of data is -/
mutual
def lenB : PyData → Nat
  | .none => 4
  | .bool _ => 5
  | .int _ => 41
  | .str x => 10 * x.length + 2
  | .list xs => lenBs xs + 3
  | .tuple xs => lenBs xs + 5
  | .dict _ => 0
def lenBs : List PyData → Nat
  | [] => 0
  | x :: r => lenB x + 2 + lenBs r
end
mutual
def plainD : PyData → Bool
  | .none => true
  | .bool _ => true
  | .int i => decide (i.natAbs < 10 ^ 40)
  | .str x => x.cps.toList.all fun c => decide (c < 0x110000)
  | .list xs => plainDs xs
  | .tuple xs => plainDs xs
  | .dict _ => false
def plainDs : List PyData → Bool
  | [] => true
  | x :: r => plainD x && plainDs r
end
mutual
theorem shown_le : ∀ d : PyData, plainD d = true → d.shown.length ≤ lenB d
  | .none, _ => by simp only [PyData.shown, lenB]; decide
  | .bool true, _ => by simp only [PyData.shown, lenB]; decide
  | .bool false, _ => by simp only [PyData.shown, lenB]; decide
  | .int i, h => by
    simp only [plainD] at h
    simp only [PyData.shown, lenB]
    have := int_text_length_le10 (a := i) (k := 40) (by decide) (of_decide_eq_true h)
    rw [PySem.ofString_length]
    exact this
  | .str x, h => by
    simp only [plainD, List.all_eq_true] at h
    simp only [PyData.shown, lenB]
    exact PySem.StrLaws.reprText_len x fun c hc => Nat.lt_of_lt_of_le (of_decide_eq_true (h c hc)) (by decide)
  | .list xs, h => by
    simp only [plainD] at h
    simp only [PyData.shown, lenB]
    have h1 := listText_len_le (PyData.shownAll xs)
    have h2 := showns_le xs h
    omega
  | .tuple xs, h => by
    simp only [plainD] at h
    simp only [PyData.shown, lenB]
    have h1 := tupleText_len_le (PyData.shownAll xs)
    have h2 := showns_le xs h
    omega
  | .dict _, h => by simp [plainD] at h
theorem showns_le : ∀ xs : List PyData, plainDs xs = true → ((PyData.shownAll xs).map (·.length)).sum + 2 * (PyData.shownAll xs).length ≤ lenBs xs
  | [], _ => by simp [PyData.shownAll, lenBs]
  | x :: r, h => by
    simp only [plainDs, Bool.and_eq_true] at h
    have h1 := shown_le x h.1
    have h2 := showns_le r h.2
    simp only [PyData.shownAll, lenBs, List.map_cons, List.sum_cons, List.length_cons]
    omega
end
mutual
theorem plain_show : ∀ d : PyData, plainD d = true → d.showable = true
  | .none, _ => by simp [PyData.showable]
  | .bool _, _ => by simp [PyData.showable]
  | .int i, h => by
    simp only [plainD] at h
    have h1 := of_decide_eq_true h
    simp only [PyData.showable]
    refine decide_eq_true ?_
    by_cases h0 : i.natAbs = 0
    · rw [h0]
      decide
    · exact (Nat.log2_lt h0).mpr (Nat.lt_trans h1 (by decide))
  | .str _, _ => by simp [PyData.showable]
  | .list xs, h => by
    simp only [plainD] at h
    simp only [PyData.showable]
    exact plain_shows xs h
  | .tuple xs, h => by
    simp only [plainD] at h
    simp only [PyData.showable]
    exact plain_shows xs h
  | .dict _, h => by simp [plainD] at h
theorem plain_shows : ∀ xs : List PyData, plainDs xs = true → PyData.showableAll xs = true
  | [], _ => by simp [PyData.showableAll]
  | x :: r, h => by
    simp only [plainDs, Bool.and_eq_true] at h
    simp only [PyData.showableAll, Bool.and_eq_true]
    exact ⟨plain_show x h.1, plain_shows r h.2⟩
end
mutual
theorem plain_flat : ∀ d : PyData, plainD d = true → d.hasDict = false
  | .none, _ => by simp [PyData.hasDict]
  | .bool _, _ => by simp [PyData.hasDict]
  | .int _, _ => by simp [PyData.hasDict]
  | .str _, _ => by simp [PyData.hasDict]
  | .list xs, h => by
    simp only [plainD] at h
    simp only [PyData.hasDict]
    exact plain_flats xs h
  | .tuple xs, h => by
    simp only [plainD] at h
    simp only [PyData.hasDict]
    exact plain_flats xs h
  | .dict _, h => by simp [plainD] at h
theorem plain_flats : ∀ xs : List PyData, plainDs xs = true → PyData.hasDictAll xs = false
  | [], _ => by simp [PyData.hasDictAll]
  | x :: r, h => by
    simp only [plainDs, Bool.and_eq_true] at h
    simp only [PyData.hasDictAll, plain_flat x h.1, plain_flats r h.2, Bool.or_self]
end
/-- repr of data, made plain -/
theorem call_reprP {X : Cx} (gd : X.A.guards = some []) (hu : X.A.units + 66 < cLine) : CallR X (.builtin "repr") (fun xs M Q => ∃ (a : Addr) (d : PyData), xs = [.ref a] ∧ Dp X.K M (.ref a) d ∧ plainD d = true ∧ d.depth ≤ 64 ∧ lenB d ≤ sizeLine ∧ Q (.str d.shown) M) := by
  intro pins s σ M xs us Q I r h
  obtain ⟨a, d, e, hd, h1, h2, h3, q⟩ := h
  exact call_reprD gd hu pins s σ M xs us Q I r ⟨a, d, e, hd, plain_show d h1, plain_flat d h1, h2, Nat.le_trans (shown_le d h1) h3, q⟩
/-- repr of a value that is plain data -/
theorem call_reprA {X : Cx} (gd : X.A.guards = some []) (hu : X.A.units + 66 < cLine) : CallR X (.builtin "repr") (fun xs M Q => ∃ (v : V) (d : PyData), xs = [v] ∧ Dp X.K M v d ∧ plainD d = true ∧ d.depth ≤ 64 ∧ lenB d ≤ sizeLine ∧ Q (.str d.shown) M) := by
  intro pins s σ M xs us Q I r h
  obtain ⟨v, d, rfl, hd, h1, h2, h3, q⟩ := h
  have hl := Nat.le_trans (shown_le d h1) h3
  have hs := plain_show d h1
  cases hd with
  | non =>
    obtain ⟨u, rfl, hu⟩ := vals1 r
    cases hu
    have e : PyData.none.shown = "None" := by simp only [PyData.shown]
    rw [e] at q
    exact PySem.P.repr_of_none ⟨.str _, M, I.tok _, ⟨_, rfl⟩, q⟩
  | bl b =>
    obtain ⟨u, rfl, hu⟩ := vals1 r
    cases hu
    have e : (PyData.bool b).shown = (if b = true then Str.ofString "True" else Str.ofString "False") := by cases b <;> simp only [PyData.shown] <;> rfl
    rw [e] at q
    exact PySem.P.repr_of_bool ⟨.str _, M, I.tok _, ⟨_, rfl⟩, q⟩
  | int i =>
    obtain ⟨u, rfl, tk, rfl⟩ := vals1 r
    have e : (PyData.int i).shown = Str.ofString (toString i) := by simp only [PyData.shown]
    rw [e] at q
    simp only [PyData.showable] at hs
    exact PySem.P.repr_of_int (of_decide_eq_true hs) ⟨.str _, M, I.tok _, ⟨_, rfl⟩, q⟩
  | str x =>
    obtain ⟨u, rfl, tk, rfl⟩ := vals1 r
    have e : (PyData.str x).shown = reprText x := by simp only [PyData.shown]
    rw [e] at q hl
    exact PySem.P.repr_of_str ⟨.str _, M, I.tok _, ⟨_, rfl⟩, q⟩ hl
  | lst a b => exact call_reprP gd hu pins s σ M _ us Q I r ⟨_, _, rfl, .lst a b, h1, h2, h3, q⟩
  | tup a b => exact call_reprP gd hu pins s σ M _ us Q I r ⟨_, _, rfl, .tup a b, h1, h2, h3, q⟩
end My

namespace My
open PySem PySem.Spec PyProof.Rows L2
theorem iteE {c : Bool} {P Q : Prop} (h : c = false) (q : Q) : if c = true then P else Q := by
  subst h
  exact iteF q
theorem ne_same {x y : Int} (h : x = y) : (!decide (V.int x = V.int y)) = false := by
  rw [h, decide_eq_true rfl]
  rfl
theorem LadAt.but {K : PySem.W.Frag} {C : Addr} {H H' : Hp} {a p : Addr} {us : List (Str × Int)} {d : Nat} {s : Str} {c : Bool} {l : Int} (hp : Spr H a) (k : But a H H') (h : LadAt K C H p us d s c l) : LadAt K C H' p us d s c l := by
  obtain ⟨dx, ua, t, st, th, h1, h2, h3, h4, h5⟩ := h
  have npa : p ≠ a := by
    obtain ⟨x, y, z, e⟩ := hp
    exact ne_of h1 e (by intro z; cases z)
  exact ⟨dx, ua, t, st, th, k _ _ h1 npa, UA.butS hp k h2, k.sqtS hp h3, k.sqtS hp h4, k.sqtS hp h5⟩
theorem ToldAt.updL {K : PySem.W.Frag} {H : Hp} {D r : Addr} {xs ys : List V} {us : List (Str × Int)} {d : Nat} {s : Str} {c : Bool} {l : Int} (hD : H D = some (.lst xs)) (h : ToldAt K H r us d s c l) : ToldAt K (upd H D (.lst ys)) r us d s c l := by
  obtain ⟨ua, h1, h2⟩ := h
  exact ⟨ua, (But.upd D _ _).sqt hD rfl h1, UA.but hD rfl (But.upd D _ _) h2⟩
theorem LadAt.updL {K : PySem.W.Frag} {C : Addr} {H : Hp} {D p : Addr} {xs ys : List V} {us : List (Str × Int)} {d : Nat} {s : Str} {c : Bool} {l : Int} (hD : H D = some (.lst xs)) (h : LadAt K C H p us d s c l) : LadAt K C (upd H D (.lst ys)) p us d s c l := by
  obtain ⟨dx, ua, t, st, th, h1, h2, h3, h4, h5⟩ := h
  have npa : p ≠ D := ne_of h1 hD (by intro z; cases z)
  exact ⟨dx, ua, t, st, th, by rw [upd_ne npa]; exact h1, UA.but hD rfl (But.upd D _ _) h2, (But.upd D _ _).sqt hD rfl h3, (But.upd D _ _).sqt hD rfl h4, (But.upd D _ _).sqt hD rfl h5⟩
theorem Spr.updL {H : Hp} {D a : Addr} {o : HO} (n : a ≠ D) (h : Spr H a) : Spr (upd H D o) a := by
  obtain ⟨x, y, z, e⟩ := h
  exact ⟨x, y, z, by rw [upd_ne n]; exact e⟩
theorem shown_same {us : List (Str × Int)} {d : Nat} {s : Str} {c : Bool} {l x y : Int} (g : Good us d s l) (x0 : 0 ≤ x) (y0 : 0 ≤ y) (x1 : x ≤ 1000000000000000000000000000000) (y1 : y ≤ 1000000000000000000000000000000) : shown us d s c l x = shown us d s c l y ↔ placedM us d s c l x = placedM us d s c l y := by
  constructor
  · intro e
    obtain ⟨k1, k2, k3⟩ := placedM_ok (c := c) g x0
    obtain ⟨j1, j2, j3⟩ := placedM_ok (c := c) g y0
    obtain ⟨e1, e2⟩ := writ_inj g.u g.d3 k1 j1 k2 j2 (by omega) (by omega) e
    exact Prod.ext e1 e2
  · intro e
    unfold shown
    rw [e]
theorem eq_otherS {x y : Str} (h : x ≠ y) : decide (V.str x = V.str y) = false := decide_eq_false fun e => h (V.str.inj e)
theorem ne_sameS {x y : Str} (h : x = y) : (!decide (V.str x = V.str y)) = false := by
  rw [h, decide_eq_true rfl]
  rfl
theorem ne_sameV {x y : V} (h : x = y) : (!decide (x = y)) = false := by
  rw [h, decide_eq_true rfl]
  rfl
theorem kb_rev {K : PySem.W.Frag} {mg : Str → Option Value} {x a b : Str} {st : Stmt} (d : Dd K mg x st [a, b]) (h : ∀ (kV doc pm : Value) (an : Option Addr) (cdv ct : Value) (u v : Value), bindArgs (PySem.W.fnOf x x (defArgs st) (defBody st) (defScope st) .none kV doc pm an cdv ct) ⟨[], [(b, u), (a, v)]⟩ = pure [(a, v), (b, u)]) : KBn K d.fd [a, b] 0 [b, a] (fun _ ws => ws.reverse) (fun _ ws => ws.reverse) := by
  obtain ⟨oc, od, kV, doc, pm, an, cdv, ct, osl, e, _⟩ := d.F.ex
  rw [e]
  refine ⟨fun s us ws _ h1 h2 => ?_, fun _ h2 => ?_⟩
  · match us, ws, h1, h2 with
    | [], [u, v], _, _ => exact .of_eq (h ..)
  · rename_i vs us zs ws h1
    clear h1 vs us
    have rev : ∀ {a : List V} {b : List Value}, Vals a b → Vals a.reverse b.reverse := fun {a b} h => by
      induction h with
      | nil => exact .nil
      | cons r t ih => rw [List.reverse_cons, List.reverse_cons]; exact ih.append (.cons r .nil)
    exact rev h2
/-- repr of an int or None -/
def dataO : Option Int → PyData
  | none => .none
  | some i => .int i
theorem call_reprO {X : Cx} : CallR X (.builtin "repr") (fun xs M Q => ∃ (v : V) (o : Option Int), xs = [v] ∧ ((o = none ∧ v = .non) ∨ ∃ i, o = some i ∧ v = .int i ∧ i.natAbs < 10 ^ 40) ∧ Q (.str (dataO o).shown) M) := by
  intro pins s σ M xs us Q I r h
  obtain ⟨v, o, rfl, h, q⟩ := h
  rcases h with ⟨rfl, rfl⟩ | ⟨i, rfl, rfl, hz⟩
  · obtain ⟨u, rfl, hu⟩ := vals1 r
    cases hu
    have e : (dataO none).shown = "None" := by simp only [dataO, PyData.shown]
    rw [e] at q
    exact PySem.P.repr_of_none ⟨.str _, M, I.tok _, ⟨_, rfl⟩, q⟩
  · obtain ⟨u, rfl, t, rfl⟩ := vals1 r
    have e : (dataO (some i)).shown = Str.ofString (toString i) := by simp only [dataO, PyData.shown]
    rw [e] at q
    have p := plain_show (.int i) (by simp only [plainD]; exact decide_eq_true hz)
    simp only [PyData.showable] at p
    exact PySem.P.repr_of_int (of_decide_eq_true p) ⟨.str _, M, I.tok _, ⟨_, rfl⟩, q⟩
theorem data_eqv_self : ∀ (d : PyData), d = d := fun _ => rfl
/-- len(xs) within a comprehension -/
def rLenQ (K : PySem.W.Frag) : List V → Hp → VK → Prop := fun vs M Q => ∃ (t : Addr) (items : List V), vs = [.ref t] ∧ (SqL K M t items ∨ SqT K M t items) ∧ Q (.int items.length) M
theorem call_lenQ {X : Cx} : CallR X (.builtin "len") (rLenQ X.K) := call_len_seq
end My

namespace My
open PySem PySem.Spec PyProof.Rows L2
/-! ### the texts of figures as data -/
theorem strOk_ofX {x : Str} (h : ∀ c ∈ x.cps.toList, c < 0x110000) : PyData.strOk x = true := by
  unfold PyData.strOk
  rw [← Array.all_toList, List.all_eq_true]
  exact fun c hc => decide_eq_true (h c hc)
theorem of_strOkX {x : Str} (h : PyData.strOk x = true) : ∀ c ∈ x.cps.toList, c < 0x110000 := by
  unfold PyData.strOk at h
  rw [← Array.all_toList, List.all_eq_true] at h
  exact fun c hc => of_decide_eq_true (h c hc)
theorem writ_okX {us : List (Str × Int)} {d : Nat} (g : GoodUs us) {p : Nat} {m : Int} (hm : 0 ≤ m) (hp : p < us.length) : PyData.strOk (writ us d p m) = true := by
  refine strOk_ofX fun c hc => ?_
  have hu : us[p]? = some us[p] := List.getElem?_eq_getElem hp
  have hn := of_strOkX (g.each p _ hu).1.2.2.1
  rw [writ_codes, name_at hp] at hc
  rcases List.mem_append.mp hc with z | z
  · have dd : ∀ c ∈ dg m, c < 0x110000 := fun c hc => by have := dg_digits hm c hc; omega
    unfold ahead at z
    split at z
    · exact dd c z
    · have zf' : ∀ c ∈ zf d m, c < 0x110000 := fun c hc => by
        unfold zf at hc
        rcases List.mem_append.mp hc with y | y
        · rw [(List.mem_replicate.mp y).2]
          decide
        · exact dd c y
      unfold body at z
      rcases List.mem_append.mp z with y | y
      · exact zf' c (List.mem_of_mem_take y)
      · rcases List.mem_cons.mp y with e | e
        · rw [e]
          decide
        · exact zf' c (List.mem_of_mem_drop e)
  · exact hn c z
theorem writ_len {us : List (Str × Int)} {d : Nat} (g : GoodUs us) (hd : d ≤ 3) {p : Nat} {m : Int} (hp : p < us.length) (hm : m.natAbs < 10 ^ 40) : (writ us d p m).length ≤ 60 := by
  rw [str_len, writ_codes, name_at hp, List.length_append]
  have hu : us[p]? = some us[p] := List.getElem?_eq_getElem hp
  have hn := (g.each p _ hu).1.1
  rw [str_len] at hn
  have h1 := dg_small hm
  have h2 : (ahead d p m).length ≤ 50 := by
    unfold ahead
    split
    · omega
    · unfold body
      rw [List.length_append, List.length_cons, List.length_take, List.length_drop, zf_len]
      omega
  omega
theorem writ_plain {us : List (Str × Int)} {d : Nat} (g : GoodUs us) {p : Nat} {m : Int} (hm : 0 ≤ m) (hp : p < us.length) : plainD (.str (writ us d p m)) = true := by
  have h := writ_okX (d := d) g hm hp
  simp only [plainD]
  rw [List.all_eq_true]
  exact fun c hc => decide_eq_true (of_strOkX h c hc)
theorem shown_key {us : List (Str × Int)} {d : Nat} {s : Str} {c : Bool} {l n : Int} (g : Good us d s l) (n0 : 0 ≤ n) (n1 : n ≤ 1000000000000000000000000000000) :
    plainD (.str (shown us d s c l n)) = true ∧ (shown us d s c l n).length ≤ 60 := by
  obtain ⟨k1, k2, k3⟩ := placedM_ok (c := c) g n0
  unfold shown
  exact ⟨writ_plain g.u k2 k1, writ_len g.u g.d3 k1 (by omega)⟩
end My

namespace MyZ
open PySem PySem.Spec PyProof.Rows L2 RZ
/-- [.. for x, y in zip(a, b)], b not longer than a -/
theorem lc_zipU {K : PySem.W.Frag} {a b : Addr} {xs ys : List V} {g : TG} {tt : TT} {te : TE} {vs : List Nat} {σ : L2.St} {H1 : Hp} {D : Addr} {Qd : Hp → Prop} (hy : ys.length ≤ xs.length) (Pv : Nat → Hp → Prop) (h0 : Pv 0 (upd H1 D (.lst [])))
    (hl : ∀ i H, Pv i H → SqL K H a xs ∧ SqL K H b ys)
    (ht : ∀ (i : Nat) (x y : V) (H : Hp) (T : Addr), xs[i]? = some x → ys[i]? = some y → Pv i H → H T = none → g (.ref T) (wipe σ vs) (upd H T (.tup [x, y])) fun σ2 H2 => wipe σ2 vs = wipe σ vs ∧ tt σ2 H2 fun b H3 =>
      if b = true then te σ2 H3 fun y H4 => ∃ acc, H4 D = some (.lst acc) ∧ acc.length < sizeLine ∧ Pv (i + 1) (upd H4 D (.lst (acc ++ [y]))) else Pv (i + 1) H3)
    (he : ∀ H, Pv ys.length H → Qd H) :
    ∃ W : Nat → Nat → Hp → Prop, (∃ m, W 0 m (upd H1 D (.lst []))) ∧ ∀ i m H, W i m H → ((Itz K a b).stop i H ∧ Qd H) ∨
      ((Itz K a b).go i H ∧ ∃ Nx : Hp → Prop, (∀ H', Nx H' → ∃ m', m' < m ∧ W (i + 1) m' H') ∧
        ∀ x H', (Itz K a b).yld i H x H' → g x (wipe σ vs) H' fun σ2 H2 => wipe σ2 vs = wipe σ vs ∧ tt σ2 H2 fun b H3 =>
          if b = true then te σ2 H3 fun y H4 => ∃ acc, H4 D = some (.lst acc) ∧ acc.length < sizeLine ∧ Nx (upd H4 D (.lst (acc ++ [y]))) else Nx H3) := by
  refine ⟨fun i m H => Pv i H ∧ i + m = ys.length, ⟨ys.length, h0, by omega⟩, fun i m H hW => ?_⟩
  obtain ⟨hp, hm⟩ := hW
  obtain ⟨q1, q2⟩ := hl i H hp
  by_cases hi : i < ys.length
  · refine .inr ⟨⟨xs, ys, xs[i], ys[i], q1, q2, List.getElem?_eq_getElem (by omega), List.getElem?_eq_getElem hi⟩, Pv (i + 1), fun H' hN => ⟨m - 1, by omega, hN, by omega⟩, ?_⟩
    rintro v H' ⟨T, x, y, rfl, hT, rfl, f1, f2⟩
    exact ht i x y H T (f1 xs q1) (f2 ys q2) hp hT
  · have e : i = ys.length := by omega
    subst e
    exact .inl ⟨⟨xs, ys, q1, q2, .inr (Nat.le_refl _)⟩, he H hp⟩
theorem lc_zipT {K : PySem.W.Frag} {a b : Addr} {xs ys : List V} {g : TG} {tt : TT} {te : TE} {vs : List Nat} {σ : L2.St} {H1 : Hp} {D : Addr} {Qd : Hp → Prop} (hy : ys.length ≤ xs.length) (Pv : Nat → Hp → Prop) (h0 : Pv 0 (upd H1 D (.lst [])))
    (hl : ∀ i H, Pv i H → SqT K H a xs ∧ SqT K H b ys)
    (ht : ∀ (i : Nat) (x y : V) (H : Hp) (T : Addr), xs[i]? = some x → ys[i]? = some y → Pv i H → H T = none → g (.ref T) (wipe σ vs) (upd H T (.tup [x, y])) fun σ2 H2 => wipe σ2 vs = wipe σ vs ∧ tt σ2 H2 fun b H3 =>
      if b = true then te σ2 H3 fun y H4 => ∃ acc, H4 D = some (.lst acc) ∧ acc.length < sizeLine ∧ Pv (i + 1) (upd H4 D (.lst (acc ++ [y]))) else Pv (i + 1) H3)
    (he : ∀ H, Pv ys.length H → Qd H) :
    ∃ W : Nat → Nat → Hp → Prop, (∃ m, W 0 m (upd H1 D (.lst []))) ∧ ∀ i m H, W i m H → ((ItzT K a b).stop i H ∧ Qd H) ∨
      ((ItzT K a b).go i H ∧ ∃ Nx : Hp → Prop, (∀ H', Nx H' → ∃ m', m' < m ∧ W (i + 1) m' H') ∧
        ∀ x H', (ItzT K a b).yld i H x H' → g x (wipe σ vs) H' fun σ2 H2 => wipe σ2 vs = wipe σ vs ∧ tt σ2 H2 fun b H3 =>
          if b = true then te σ2 H3 fun y H4 => ∃ acc, H4 D = some (.lst acc) ∧ acc.length < sizeLine ∧ Nx (upd H4 D (.lst (acc ++ [y]))) else Nx H3) := by
  refine ⟨fun i m H => Pv i H ∧ i + m = ys.length, ⟨ys.length, h0, by omega⟩, fun i m H hW => ?_⟩
  obtain ⟨hp, hm⟩ := hW
  obtain ⟨q1, q2⟩ := hl i H hp
  by_cases hi : i < ys.length
  · refine .inr ⟨⟨xs, ys, xs[i], ys[i], q1, q2, List.getElem?_eq_getElem (by omega), List.getElem?_eq_getElem hi⟩, Pv (i + 1), fun H' hN => ⟨m - 1, by omega, hN, by omega⟩, ?_⟩
    rintro v H' ⟨T, x, y, rfl, hT, rfl, f1, f2⟩
    exact ht i x y H T (f1 xs q1) (f2 ys q2) hp hT
  · have e : i = ys.length := by omega
    subst e
    exact .inl ⟨⟨xs, ys, q1, q2, .inr (Nat.le_refl _)⟩, he H hp⟩
end MyZ

namespace My
open PySem PySem.Spec PyProof.Rows L2
abbrev Lad.Told (A : Lad) (K : PySem.W.Frag) (H : Hp) (r : Addr) : Prop := ToldAt K H r A.us A.d A.s A.c A.l
theorem shown_zero {us : List (Str × Int)} {d : Nat} {s : Str} {c : Bool} {l : Int} (g : Good us d s l) : shown us d s c l 0 = Str.ofString (toString (0 : Int)) ++ (us.getD 0 ("", 0)).1 := by
  have hp : placeOf us l 0 = 0 := by
    refine small_place g (Int.le_refl 0) ?_
    rcases Nat.lt_or_ge 1 us.length with y | y
    · right
      have h1 := (last_sz_pos g.u y).1
      have h2 := g.l1
      exact Int.mul_pos (by omega) (by omega)
    · left
      have := g.u.lo
      omega
  unfold shown
  rw [placed_zero g (Int.le_refl 0) hp]
  unfold writ
  rw [if_pos (.inl rfl)]
theorem unlike_self {A : Lad} {r : Option Int} (h : Unlike A A r) : r = none := by
  cases r with
  | none => rfl
  | some n => exact absurd rfl h.2.2.1
theorem unlike_same {A B C : Lad} {r r' : Option Int} (h : Unlike A B none) (h1 : Unlike A C r) (h2 : Unlike B C r') : r = r' := by
  cases r with
  | none =>
    cases r' with
    | none => rfl
    | some m =>
      obtain ⟨m0, m1, hne, _⟩ := h2
      exact absurd ((h m m0 (by omega)).symm.trans (h1 m m0 (by omega))) hne
  | some n =>
    obtain ⟨n0, n1, hne, hmin⟩ := h1
    cases r' with
    | none => exact absurd ((h n n0 (by omega)).trans (h2 n n0 (by omega))) hne
    | some m =>
      obtain ⟨m0, m1, hne2, hmin2⟩ := h2
      rcases Int.lt_trichotomy n m with y | y | y
      · exact absurd ((h n n0 (by omega)).trans (hmin2 n n0 y)) hne
      · rw [y]
      · exact absurd ((h m m0 (by omega)).symm.trans (hmin m m0 y)) hne2
theorem unlike_symm {A B : Lad} {r : Option Int} (h : Unlike A B r) : Unlike B A r := by
  cases r with
  | none => exact fun x h0 h1 => (h x h0 h1).symm
  | some n =>
    obtain ⟨n0, n1, hne, hmin⟩ := h
    exact ⟨n0, n1, fun e => hne e.symm, fun x h0 h1 => (hmin x h0 h1).symm⟩
theorem unlike_one {A B : Lad} {r r' : Option Int} (h : Unlike A B r) (h' : Unlike A B r') : r = r' := unlike_same (A := A) (B := A) (C := B) (fun _ _ _ => rfl) h h'
end My

namespace L2
open PySem PySem.Spec PyProof.Rows
/-- a op1 b op2 c op3 e -/
def tChain3 (r1 r2 r3 : R2) (ta tb tc te : TE) : TE := fun σ H Q => ta σ H fun x H1 => tb σ H1 fun y H2 => r1 x y H2 fun z H3 => ∃ k, z = .bl k ∧
  (if k = true then tc σ H3 fun w' H4 => r2 y w' H4 fun z2 H5 => ∃ k2, z2 = .bl k2 ∧ (if k2 = true then te σ H5 fun v' H6 => r3 w' v' H6 Q else Q (.bl false) H5) else Q (.bl false) H3)
section
variable {X : Cx} {a b c e : Expr} {ta tb tc te : TE} {pos : Pos}
theorem pt_chain3 {op op' op2 : CmpOp} {r r' r2 : R2} (ho : OpR X (compareOp op) r) (ho' : OpR X (compareOp op') r') (ho2 : OpR X (compareOp op2) r2) (ha : PE X a ta) (hb : PE X b tb) (hc : PE X c tc) (he : PE X e te)
    (hm : lastMarks [op, op', op2] [b, c, e] = false := by with_unfolding_all rfl) : PT X (.Compare a [op, op', op2] [b, c, e] pos) (tTest (tChain3 r r' r2 ta tb tc te)) := by
  refine ⟨fun pins s σ H Q I h => ?_⟩
  refine isTrue_chain (thn (ha.run pins s σ H _ I h) fun v s1 ⟨x, H1, I1, r1, q1⟩ => test_link (thn (hb.run pins s1 σ H1 _ I1 q1) fun u s2 ⟨y, H2, I2, r2, q2⟩ =>
    thn (ho pins s2 σ H2 x y v u _ I2 r1 r2 q2) fun d s3 ⟨z, H3, I3, r3, k, e, q3⟩ => ?_)) hm
  subst e
  cases r3
  refine wpAny_truthy_bool ?_
  cases k with
  | false =>
    obtain ⟨k', e', q'⟩ := q3
    cases e'
    exact ite_ff ⟨H3, I3, q'⟩
  | true =>
    refine ite_tt (test_link (thn (hc.run pins s3 σ H3 _ I3 q3) fun w' s4 ⟨z', H4, I4, r4, q4⟩ => thn (ho' pins s4 σ H4 y z' u w' _ I4 r2 r4 q4) fun d' s5 ⟨z2, H5, I5, r5, k2, e2, q5⟩ => ?_))
    subst e2
    cases r5
    refine wpAny_truthy_bool ?_
    cases k2 with
    | false =>
      obtain ⟨k', e', q'⟩ := q5
      cases e'
      exact ite_ff ⟨H5, I5, q'⟩
    | true =>
      refine ite_tt (test_last (thn (he.run pins s5 σ H5 _ I5 q5) fun w2 s6 ⟨z3, H6, I6, r6, q6⟩ => thn (ho2 pins s6 σ H6 z' z3 w' w2 _ I6 r4 r6 q6) fun d2 s7 ⟨z4, H7, I7, r7, k3, e3, q7⟩ => ?_))
      subst e3
      cases r7
      exact wpAny_truthy_bool ⟨H7, I7, q7⟩
end
end L2

namespace MyRV
open PySem PySem.Spec PyProof.Rows L2
/-! ### a tuple turned round: t[::-1] -/
theorem back_places (m : Nat) : Builtin.Slice.slicePlaces ((m : Int) - 1) (-1) (-1) = m := by
  unfold Builtin.Slice.slicePlaces
  rw [if_neg (by decide)]
  split
  · rw [show -(-1 : Int) = 1 by decide, Int.ediv_one]
    omega
  · rename_i h
    have : m = 0 := by omega
    subst this
    rfl
theorem fm_congr {α : Type} {f g : Nat → Option α} : ∀ {l : List Nat}, (∀ x ∈ l, f x = g x) → l.filterMap f = l.filterMap g
  | [], _ => rfl
  | x :: l, h => by
    rw [List.filterMap_cons, List.filterMap_cons, h x (List.mem_cons_self ..), fm_congr fun y hy => h y (List.mem_cons_of_mem _ hy)]
theorem fm_take {α : Type} (k : List α) : ∀ n, n ≤ k.length → ((List.range n).filterMap fun m : Nat => k[m]?) = k.take n
  | 0, _ => by simp
  | n + 1, h => by
    rw [List.range_succ, List.filterMap_append, fm_take k n (by omega), List.take_add_one]
    congr 1
theorem back_pick (xs : Array Value) : ((List.range xs.size).filterMap fun (m : Nat) => xs[(((xs.size : Int) - 1) + (m : Int) * (-1)).toNat]?).toArray = xs.toList.reverse.toArray := by
  congr 1
  have h := fm_take xs.toList.reverse xs.toList.reverse.length (Nat.le_refl _)
  rw [List.take_length, List.length_reverse, Array.length_toList] at h
  rw [← h]
  refine fm_congr fun m hm => ?_
  have hml := List.mem_range.mp hm
  rw [List.getElem?_reverse (by rw [Array.length_toList]; exact hml), Array.length_toList, Array.getElem?_toList, show (((xs.size : Int) - 1) + (m : Int) * (-1)).toNat = xs.size - 1 - m by omega]
section
variable {prog : Program} {w : World} {A : Around} {E : Value → Shared → Prop} {s : Shared}
theorem tuple_back {tu sc : Addr} {vals : Array Value} {pst : Value} {Q : Value → Shared → Prop} (ht : IsTup s.heap tu vals) (hs : s.heap.IsSliceOf sc .none .none pst) (pp : IsPart pst (some (-1)))
    (h : Q (.ref s.heap.objs.size) { s with heap := s.heap.push { cls := .type "tuple", data := .seq vals.toList.reverse.toArray } }) (hsz : vals.size ≤ sizeLine) : wpAny (model prog w) A (getItem (.ref tu) (.ref sc)) Q E s := by
  have hok : sizeOk (.seq vals.toList.reverse.toArray) := by
    show vals.toList.reverse.toArray.size ≤ sizeLine
    rw [List.size_toArray, List.length_reverse, Array.length_toList]
    exact hsz
  obtain ⟨ob, hob, hcl, hfl⟩ := id hs
  have hty : s.TypeIs (.ref sc) "slice" := ⟨ob, hob, hcl⟩
  unfold getItem
  (try with_reducible refine wpAny_holding ?_)
  (first | (refine wpAny_bind (wpAny_pure ?_)) | skip)
  refine wpAny_bind (wpAny_sequenceKey ht.typeIs (by decide) ?_)
  refine wpAny_bind (wpAny_callSpecial?_slot (name := Str.ofString "__getitem__") ht.typeIs PyProof.Rows.slot_tuple_getitem (wpAny_call_entry PyProof.Rows.slot_tuple_getitem ht.typeIs entry_tuple_getitem ?_ (args_tuple_getitem _ _)))
  show wpAny _ _ (Builtin.Tuple.tupleItemsOf (.ref tu) >>= _) _ _ s
  refine wpAny_bind (tupleItemsOf_ ht (wpAny_bind (wpAny_typeOf hty ?_)))
  rw [if_pos (by decide)]
  refine wpAny_bind ?_
  unfold Builtin.Slice.sliceApplied Builtin.Slice.sliceFields
  refine wpAny_bind (wpAny_bind (wpAny_field hob hfl (x := Value.none) rfl (wpAny_bind (wpAny_field hob hfl (x := Value.none) rfl (wpAny_bind (wpAny_field hob hfl (x := pst) rfl (wpAny_pure ?_)))))))
  refine wpAny_bind (HT.slicePart_ pp ?_)
  show wpAny _ _ (if ((-1 : Int) == 0) = true then _ else _) _ _ s
  rw [if_neg (by decide)]
  refine wpAny_bind (slicePart_none (wpAny_bind (slicePart_none (wpAny_bind (wpAny_pure ?_)))))
  show wpAny _ _ (pure (((vals.size : Nat) : Int) - 1, (-1 : Int), Builtin.Slice.slicePlaces (((vals.size : Nat) : Int) - 1) (-1) (-1))) _ _ s
  rw [back_places]
  refine wpAny_pure ?_
  have hno : ¬ (((((vals.size : Nat) : Int) - 1) == 0 && (-1 : Int) == 1 && vals.size == vals.size) = true) := by
    intro q
    rw [Bool.and_eq_true, Bool.and_eq_true] at q
    exact absurd (eq_of_beq q.1.2) (by decide)
  show wpAny _ _ (if ((((vals.size : Nat) : Int) - 1) == 0 && (-1 : Int) == 1 && vals.size == vals.size) = true then _ else _) _ _ s
  rw [if_neg hno, back_pick]
  first
    | exact (wpAny_bind (m := Builtin.Tuple.tupleExact _) (wpAny_newObj_type (wpAny_pure ⟨_, rfl, wpAny_pure h⟩) hok))
    | exact (wpAny_bind (m := Builtin.Tuple.tupleExact _) (wpAny_newObj_type (wpAny_bind (wpAny_pure (wpAny_pure ⟨_, rfl, wpAny_pure h⟩))) hok))
    | exact (wpAny_bind (wpAny_bind (m := Builtin.Tuple.tupleExact _) (wpAny_newObj_type (wpAny_pure (wpAny_pure ⟨_, rfl, wpAny_pure h⟩)) hok)))
    | exact (wpAny_bind (wpAny_bind (m := Builtin.Tuple.tupleExact _) (wpAny_newObj_type (wpAny_pure ⟨_, rfl, wpAny_pure h⟩) hok)))
end
/-- what t[::-1] gives -/
def tRevT (K : PySem.W.Frag) (te : TE) : TE := fun σ H Q => te σ H fun x H1 => ∃ a xs, x = .ref a ∧ SqT K H1 a xs ∧ ∀ p, H1 p = none → Q (.ref p) (upd H1 p (.tup xs.reverse))
theorem pe_revT {X : Cx} {ex : Expr} {te : TE} {kd : Nat} {q1 q2 q3 pos : Pos} (he : PE X ex te) : PE X (.Subscript ex (.Slice none none (some (.UnaryOp .USub (.Constant (.int 1) kd q1) q2)) q3) pos) (tRevT X.K te) := by
  refine ⟨fun pins s σ H Q I h => Subscript_ (thn (he.run pins s σ H _ I h) fun v s1 ⟨x, H1, I1, r1, a, xs, ex', hx, q⟩ => ?_)⟩
  subst ex'
  cases r1
  have hstep : PO X (some (.UnaryOp .USub (.Constant (.int 1) kd q1) q2)) (tPart (tUn (rU fun i => .int (-i)) (tC (.int 1)))) := po_some (pe_un un_neg pe_int)
  refine wpAny_Slice (thn (po_none.run pins s1 σ H1 (fun o Ha => o = none ∧ Ha = H1) I1 ⟨rfl, rfl⟩) fun vl s2 ⟨l, H2, I2, pl, el, e2⟩ => ?_)
  subst el e2
  refine thn (po_none.run pins s2 σ H2 (fun o Ha => o = none ∧ Ha = H2) I2 ⟨rfl, rfl⟩) fun vu s3 ⟨u, H3, I3, pu, eu, e3⟩ => ?_
  subst eu e3
  refine thn (hstep.run pins s3 σ H3 (fun o Ha => o = some (-1) ∧ Ha = H3) I3 ⟨1, rfl, -1, rfl, rfl, rfl⟩) fun vs s4 ⟨o, H4, I4, ps, eo, e4⟩ => ?_
  subst eo e4
  cases pl
  cases pu
  have I5 : Inv X pins σ H4 { s4 with heap := s4.heap.push { cls := .type "slice", data := .fields #[Value.none, Value.none, vs] } } := I4.kept (t' := s4.toks) fun b ob q => Heap.get?_push_of_some _ q
  obtain ⟨its, rv, ht, hz⟩ := I5.tuple hx
  show wpAny (model X.prog X.w) X.A (subscriptTail ex (.Slice none none (some (.UnaryOp .USub (.Constant (.int 1) kd q1) q2)) q3) (.ref a) (.ref s4.heap.objs.size)) (EP X pins σ Q) X.xe { s4 with heap := s4.heap.push { cls := .type "slice", data := .fields #[Value.none, Value.none, vs] } }
  refine tail_any (ops := [.ref a, .ref s4.heap.objs.size]) ht.typeIs PyProof.Rows.slot_tuple_getitem.lookup ?_ (by with_unfolding_all rfl)
  have hlen : its.toArray.size = xs.length := by rw [List.size_toArray]; exact rv.length.symm
  refine tuple_back ht (Heap.IsSliceOf.new _ Value.none Value.none vs) ps ?_ (by rw [hlen]; exact hz)
  refine ⟨.ref _, _, I5.laid (t' := s4.toks) (o := .tup xs.reverse) (fun b ob q => Heap.get?_push_of_some _ q) (Nat.le_refl _) ?_, rfl, q _ (I5.hok.fresh (Nat.le_refl _))⟩
  exact ⟨by rw [List.length_reverse]; exact hz, _, rv.reverse, IsTup.new _ _⟩
end MyRV

namespace My
open PySem PySem.Spec PyProof.Rows L2
/-! ### rows of figures and their ranges -/
/-- a figure of a ladder, by its unit and mark -/
abbrev FKey := Nat × Int
def KeyOk (us : List (Str × Int)) (k : FKey) : Prop := k.1 < us.length ∧ 0 ≤ k.2 ∧ k.2 < 10 ^ 24
abbrev lowK (us : List (Str × Int)) (d : Nat) (s : Str) (c : Bool) (l : Int) (k : FKey) : Int := lowM us d s c l k.1 k.2
abbrev highK (us : List (Str × Int)) (d : Nat) (s : Str) (c : Bool) (l : Int) (k : FKey) : Int := highM us d s c l k.1 k.2
abbrev textK (us : List (Str × Int)) (d : Nat) (k : FKey) : Str := writ us d k.1 k.2
/-- what stands for a row: a range, or none -/
def RowV (K : PySem.W.Frag) (H : Hp) (v : V) (lo hi : Int) : Prop := (hi < lo ∧ v = .non) ∨ (lo ≤ hi ∧ ∃ p : Addr, v = .ref p ∧ SqT K H p [.int lo, .int hi])
theorem RowV.same {K : PySem.W.Frag} {H H' : Hp} {v : V} {lo hi : Int} (k : Same H H') (h : RowV K H v lo hi) : RowV K H' v lo hi := by
  rcases h with h | ⟨h, p, e, q⟩
  · exact .inl h
  · exact .inr ⟨h, p, e, same_sqt k q⟩
theorem RowV.updL {K : PySem.W.Frag} {H : Hp} {L : Addr} {xs ys : List V} {v : V} {lo hi : Int} (hL : H L = some (.lst xs)) (h : RowV K H v lo hi) : RowV K (upd H L (.lst ys)) v lo hi := by
  rcases h with h | ⟨h, p, e, q⟩
  · exact .inl h
  · exact .inr ⟨h, p, e, (But.upd L _ _).sqt hL rfl q⟩
def dataR (lo hi : Int) : PyData := if hi < lo then .none else .tuple [.int lo, .int hi]
theorem dpR {K : PySem.W.Frag} {H : Hp} {v : V} {lo hi : Int} (h : RowV K H v lo hi) : Dp K H v (dataR lo hi) := by
  rcases h with ⟨h, rfl⟩ | ⟨h, p, rfl, q⟩
  · rw [dataR, if_pos h]
    exact .non
  · rw [dataR, if_neg (Int.not_lt.mpr h)]
    exact .tup q (.cons (.int _) (.cons (.int _) .nil))
theorem dpRs {K : PySem.W.Frag} {H : Hp} {α : Type} {f g : α → Int} : ∀ {vs : List V} {ks : List α}, PySem.Paired (fun v k => RowV K H v (f k) (g k)) vs ks → DpAll K H vs (ks.map fun k => dataR (f k) (g k))
  | _, _, .nil => .nil
  | _, _, .cons r t => .cons (dpR r) (dpRs t)
theorem dataR_lay (lo hi : Int) : (dataR lo hi).canLay0 = true := by
  unfold dataR
  split <;> simp [PyData.canLay0, PyData.canLayAll0]
theorem dataR_depth (lo hi : Int) : (dataR lo hi).depth ≤ 2 := by
  unfold dataR
  split <;> simp [PyData.depth, PyData.depthAll]
theorem dataRs_lay {α : Type} (f g : α → Int) : ∀ ks : List α, PyData.canLayAll0 (ks.map fun k => dataR (f k) (g k)) = true
  | [] => by simp [PyData.canLayAll0]
  | k :: r => by
    have h := dataRs_lay f g r
    simp only [List.map_cons, PyData.canLayAll0, Bool.and_eq_true]
    exact ⟨dataR_lay _ _, h⟩
theorem dataRs_depth {α : Type} (f g : α → Int) : ∀ ks : List α, PyData.depthAll (ks.map fun k => dataR (f k) (g k)) ≤ 3
  | [] => by simp [PyData.depthAll]
  | k :: r => by
    have h := dataRs_depth f g r
    have h1 := dataR_depth (f k) (g k)
    simp only [List.map_cons, PyData.depthAll]
    omega
theorem dataRs_shaped {α : Type} (f g : α → Int) (ks : List α) : SeqAt.shaped (.list (ks.map fun k => dataR (f k) (g k))) = true := by
  have h1 := dataRs_lay f g ks
  have h2 := dataRs_depth f g ks
  show ((PyData.list _).canLay0 && decide ((PyData.list _).depth ≤ 64)) = true
  rw [Bool.and_eq_true]
  refine ⟨by simp only [PyData.canLay0]; exact h1, decide_eq_true ?_⟩
  simp only [PyData.depth]
  omega
theorem non_shaped : SeqAt.shaped .none = true := by
  simp [SeqAt.shaped, PyData.canLay0, PyData.depth]
theorem dataR_eqv (lo hi : Int) : PyData.eqv (dataR lo hi) .none = decide (hi < lo) := by
  unfold dataR
  split
  · rename_i h
    rw [decide_eq_true h]
    simp [PyData.eqv]
  · rename_i h
    rw [decide_eq_false h]
    simp [PyData.eqv]
theorem dataRs_any {α : Type} (f g : α → Int) (ks : List α) : ((ks.map fun k => dataR (f k) (g k)).any fun z => PyData.eqv z .none) = ks.any fun k => decide (g k < f k) := by
  rw [List.any_map]
  congr 1
  funext k
  exact dataR_eqv _ _
/-- the pairs of the ranges stand -/
theorem rows_refs {K : PySem.W.Frag} {H : Hp} {α : Type} {f g : α → Int} : ∀ {vs : List V} {ks : List α}, PySem.Paired (fun v k => RowV K H v (f k) (g k)) vs ks → (∀ k ∈ ks, f k ≤ g k) →
    ∃ ps : List Addr, vs = ps.map V.ref ∧ PySem.Paired (fun p k => SqT K H p [.int (f k), .int (g k)]) ps ks
  | _, _, .nil, _ => ⟨[], rfl, .nil⟩
  | _, _, .cons r t, h => by
    obtain ⟨ps, rfl, hp⟩ := rows_refs t fun k hk => h k (List.mem_cons_of_mem _ hk)
    rcases r with ⟨hlt, _⟩ | ⟨_, p, rfl, hq⟩
    · exact absurd (h _ (List.mem_cons_self ..)) (by omega)
    · exact ⟨p :: ps, rfl, .cons hq hp⟩
abbrev nRangesOf : List Str := ["ladder", "texts", "ranges", "text", "unit", "mark"]
def spRangesOf (K : PySem.W.Frag) (C : Addr) : Sp := fun vs H Q _ => ∃ (a t : Addr) (us : List (Str × Int)) (d : Nat) (s : Str) (c : Bool) (l : Int) (ks : List FKey), vs = [.ref a, .ref t] ∧ LadAt K C H a us d s c l ∧ Good us d s l ∧ SqT K H t (ks.map fun k => V.str (textK us d k)) ∧
  ks.length ≤ 1000 ∧ (∀ k ∈ ks, KeyOk us k) ∧ ((∃ k ∈ ks, highK us d s c l k < lowK us d s c l k) → ∀ H', Same H H' → Q .non H') ∧
  ((∀ k ∈ ks, lowK us d s c l k ≤ highK us d s c l k) → ∀ (r : Addr) (ps : List Addr) (H' : Hp), Same H H' → H r = none → H' r = some (.lst (ps.map V.ref)) → PySem.Paired (fun p k => SqT K H' p [.int (lowK us d s c l k), .int (highK us d s c l k)]) ps ks → Q (.ref r) H')
section
variable {P : Program} {w : World} {K : PySem.W.Frag} {mg : Str → Option Value} {base : Heap}
end
end My

namespace My
open PySem PySem.Spec PyProof.Rows L2
/-! ### difference, compared -/
abbrev nDiff : List Str := ["ladder", "text", "other_text", "ranges", "low", "high", "other_low", "other_high"]
abbrev nCompd : List Str := ["ladder", "text", "other_text", "ends", "least", "most"]
def spDiff (K : PySem.W.Frag) (C : Addr) : Sp := fun vs H Q _ => ∃ (a : Addr) (us : List (Str × Int)) (d : Nat) (s : Str) (c : Bool) (l : Int) (k k' : FKey), vs = [.ref a, .str (textK us d k), .str (textK us d k')] ∧ LadAt K C H a us d s c l ∧ Good us d s l ∧ KeyOk us k ∧ KeyOk us k' ∧
  ((highK us d s c l k < lowK us d s c l k ∨ highK us d s c l k' < lowK us d s c l k') → ∀ H', Same H H' → Q .non H') ∧
  (lowK us d s c l k ≤ highK us d s c l k → lowK us d s c l k' ≤ highK us d s c l k' → ∀ (r : Addr) (H' : Hp), Same H H' → SqT K H' r [.int (lowK us d s c l k' - highK us d s c l k), .int (highK us d s c l k' - lowK us d s c l k)] → Q (.ref r) H')
/-- the word for a difference from x to y -/
def wordOf (x y : Int) : Str := if 0 < x then "more" else if y < 0 then "less" else if x = y then "equal" else "open"
def spCompd (K : PySem.W.Frag) (C : Addr) : Sp := fun vs H Q _ => ∃ (a : Addr) (us : List (Str × Int)) (d : Nat) (s : Str) (c : Bool) (l : Int) (k k' : FKey), vs = [.ref a, .str (textK us d k), .str (textK us d k')] ∧ LadAt K C H a us d s c l ∧ Good us d s l ∧ KeyOk us k ∧ KeyOk us k' ∧
  ((highK us d s c l k < lowK us d s c l k ∨ highK us d s c l k' < lowK us d s c l k') → ∀ H', Same H H' → Q .non H') ∧
  (lowK us d s c l k ≤ highK us d s c l k → lowK us d s c l k' ≤ highK us d s c l k' → ∀ H', Same H H' → Q (.str (wordOf (lowK us d s c l k' - highK us d s c l k) (highK us d s c l k' - lowK us d s c l k))) H')
section
variable {P : Program} {w : World} {K : PySem.W.Frag} {mg : Str → Option Value} {base : Heap}
end
end My

namespace My
open PySem PySem.Spec PyProof.Rows L2
theorem high_bound {us : List (Str × Int)} {d : Nat} {s : Str} {c : Bool} {l : Int} (g : Good us d s l) {p : Nat} (hp : p < us.length) {m B : Int} (m0 : 0 ≤ m) (hm : m ≤ B) : highM us d s c l p m ≤ (B + 1) * 1000000000000000000 := by
  obtain ⟨_, s1, s2⟩ := steps_ok g hp
  have h1 := firstR_hi (m := m + 1) (s := s) s1
  have h3 : highM us d s c l p m ≤ firstR (m + 1) ((stepsOf us d).getD p 0) s - 1 := by
    unfold highM
    split
    · unfold min2
      split <;> omega
    · exact Int.le_refl _
  have h4 : (m + 1) * (stepsOf us d).getD p 0 ≤ (B + 1) * 1000000000000000000 := Int.mul_le_mul (by omega) s2 (by omega) (by omega)
  omega
abbrev Lad.lo (A : Lad) (k : FKey) : Int := lowK A.us A.d A.s A.c A.l k
abbrev Lad.hi (A : Lad) (k : FKey) : Int := highK A.us A.d A.s A.c A.l k
abbrev sFigsIn : Stmt := top 90
abbrev nFigsIn : List Str := ["ladder", "text", "other", "ends", "low", "high"]
theorem scFigsIn : FnScope nFigsIn ["ladder", "text", "other"] (defScope sFigsIn) := ⟨rfl, rfl, rfl, by decide +kernel, rfl, by decide +kernel, by decide +kernel⟩
def spFigsIn (K : PySem.W.Frag) (C : Addr) : Sp := fun vs H Q _ => ∃ (a b : Addr) (A B : Lad) (k : FKey), vs = [.ref a, .str (textK A.us A.d k), .ref b] ∧ A.At K C H a ∧ B.At K C H b ∧ A.Ok ∧ B.Ok ∧ KeyOk A.us k ∧ A.hi k ≤ 1000000000000000000000000000000 ∧
  (A.hi k < A.lo k → ∀ H', Same H H' → Q .non H') ∧ (A.lo k ≤ A.hi k → ∀ (r : Addr) (H' : Hp), Same H H' → SqT K H' r [.str (B.show (A.lo k)), .str (B.show (A.hi k))] → Q (.ref r) H')
section
variable {P : Program} {w : World} {K : PySem.W.Frag} {mg : Str → Option Value} {base : Heap}
theorem ok_figsin {C : Addr} (d : Dd K mg "figures_in" sFigsIn ["ladder", "text", "other"]) (dR : Dd K mg "range_of" sRangeOf ["ladder", "text"]) (dC : Dd K mg "check_ladder" sCLad ["ladder"]) (dF : Dd K mg "figure_of" sFigOf ["ladder", "number"])
    (GR : FnOk P w K mg base CX0 5 dR.f dR.fd ["ladder", "text"] (spRangeOf K C)) (GC : FnOk P w K mg base CX0 2 dC.f dC.fd ["ladder"] (spCLad K C)) (GF : FnOk P w K mg base CX0 5 dF.f dF.fd ["ladder", "number"] (spFig K C)) :
    FnOk P w K mg base CX0 6 d.f d.fd ["ladder", "text", "other"] (spFigsIn K C) := by
  refine d.F.ok scFigsIn (fun vs H Q E h => ?_) (fun cdv A0 outer s H vs Q E hr h => ?_)
  · obtain ⟨_, _, _, _, _, rfl, _⟩ := h
    rfl
  · obtain ⟨a, b, A, B, k, rfl, hA, hB, gA, gB, ⟨k1, k2, k3⟩, hbig, q0, q1⟩ := h
    have hr1 : Room 2 _ := hr.mono (by decide)
    have nd := scFigsIn.nd
    refine ⟨_, pss_cons (ps_set (i := 3) nd rfl (.inl rfl) (pe_call GR hr (by rfl) dR.g dR.F.kp dR.b .nil pass0 (pa_cons (pv 0) (pa_cons (pv 1) pa_nil))))
      (pss_cons (ps_expr (pe_call GC hr1 (by rfl) dC.g dC.F.kp dC.b .nil pass0 (pa_cons (pv 2) pa_nil)))
      (pss_cons (ps_if (pt_cmp (pc_isN (pv 3))) (pss_one (ps_ret pe_non)) pss_nil)
      (pss_cons (ps_asg (pv 3) (pg_tup rfl (pgs_cons (pg_name (i := 4) nd rfl (.inl rfl)) (pgs_cons (pg_name (i := 5) nd rfl (.inl rfl)) pgs_nil))))
      (pss_one (ps_ret (pe_tup (pa_cons (pe_call GF hr (by rfl) dF.g dF.F.kp dF.b .nil pass0 (pa_cons (pv 2) (pa_cons (pv 4) pa_nil))) (pa_cons (pe_call GF hr (by rfl) dF.g dF.F.kp dF.b .nil pass0 (pa_cons (pv 2) (pa_cons (pv 5) pa_nil))) pa_nil)))))))), ?_⟩
    refine ⟨_, rfl, _, rfl, a, A.us, A.d, A.s, A.c, A.l, k.1, k.2, rfl, hA, gA, k1, k2, k3, fun y H1 s1 => ?_, fun y r H1 s1 hr1' => ?_⟩
    · exact ⟨_, rfl, b, B.us, B.d, B.s, B.c, B.l, rfl, LadAt.same s1 hB, _, rfl, _, rfl, iteT (q0 y H1 s1)⟩
    · have hR : SqT K H1 r [.int (A.lo k), .int (A.hi k)] := hr1'
      have y' : A.lo k ≤ A.hi k := y
      have l0 : 0 ≤ A.lo k := low_nn gA k1 k.2
      refine ⟨_, rfl, b, B.us, B.d, B.s, B.c, B.l, rfl, LadAt.same s1 hB, _, rfl, _, rfl, iteF ?_⟩
      refine ⟨_, rfl, r, _, rfl, hR, rfl, _, _, rfl, _, _, rfl, rfl, ?_⟩
      refine ⟨_, rfl, _, rfl, b, B.us, B.d, B.s, B.c, B.l, A.lo k, rfl, LadAt.same s1 hB, gB, l0, by omega, fun H2 s2 => ?_⟩
      refine ⟨_, rfl, _, rfl, b, B.us, B.d, B.s, B.c, B.l, A.hi k, rfl, LadAt.same (s1.trans s2) hB, gB, by omega, hbig, fun H3 s3 => ?_⟩
      refine ⟨(by show 2 ≤ sizeLine; decide), fun t nt => ?_⟩
      exact q1 y t _ (((s1.trans s2).trans s3).trans (same_upd nt)) (SqT.of upd_same)
end
end My

namespace My
open PySem PySem.Spec PyProof.Rows L2
/-! ### check_texts, checked_ranges -/
abbrev nCTexts : List Str := ["ladder", "texts", "place", "text"]
def spCTexts (K : PySem.W.Frag) (C : Addr) : Sp := fun vs H Q _ => ∃ (a t : Addr) (us : List (Str × Int)) (d : Nat) (s : Str) (c : Bool) (l : Int) (ks : List FKey), vs = [.ref a, .ref t] ∧ LadAt K C H a us d s c l ∧ Good us d s l ∧ SqT K H t (ks.map fun k => V.str (textK us d k)) ∧
  ks.length ≤ 12 ∧ (∀ k ∈ ks, KeyOk us k) ∧ ∀ H', Same H H' → Q .non H'
def spCRanges (K : PySem.W.Frag) (C : Addr) : Sp := fun vs H Q _ => ∃ (a t : Addr) (us : List (Str × Int)) (d : Nat) (s : Str) (c : Bool) (l : Int) (ks : List FKey), vs = [.ref a, .ref t] ∧ LadAt K C H a us d s c l ∧ Good us d s l ∧ SqT K H t (ks.map fun k => V.str (textK us d k)) ∧
  ks.length ≤ 12 ∧ (∀ k ∈ ks, KeyOk us k) ∧ ((∃ k ∈ ks, highK us d s c l k < lowK us d s c l k) → ∀ H', Same H H' → Q .non H') ∧
  ((∀ k ∈ ks, lowK us d s c l k ≤ highK us d s c l k) → ∀ (r : Addr) (ps : List Addr) (H' : Hp), Same H H' → H r = none → H' r = some (.lst (ps.map V.ref)) → PySem.Paired (fun p k => SqT K H' p [.int (lowK us d s c l k), .int (highK us d s c l k)]) ps ks → Q (.ref r) H')
section
variable {P : Program} {w : World} {K : PySem.W.Frag} {mg : Str → Option Value} {base : Heap}
end
end My

namespace My
open PySem PySem.Spec PyProof.Rows L2
/-! ### risen -/
abbrev nRisen : List Str := ["ranges", "ends", "place", "low", "_", "high"]
/-- the names of the outer comprehension -/
def scPl : Scope := { kind := .function, names := [(".0", .local), ("place", .local), ("max", .globalImplicit), ("min", .globalImplicit), ("ranges", .cell)], isGenerator := false, isCoroutine := false }
/-- a list of pairs stands at F -/
def PrAt (K : PySem.W.Frag) (H : Hp) (F : Addr) (rs : List (Int × Int)) : Prop := ∃ ps : List Addr, H F = some (.lst (ps.map V.ref)) ∧ PySem.Paired (fun p r => SqT K H p [.int r.1, .int r.2]) ps rs
theorem PrAt.same {K : PySem.W.Frag} {H H' : Hp} {F : Addr} {rs : List (Int × Int)} (k : Same H H') (h : PrAt K H F rs) : PrAt K H' F rs := by
  obtain ⟨ps, h1, h2⟩ := h
  exact ⟨ps, k _ _ h1, paired_imp (fun _ _ => same_sqt k) h2⟩
def MaxOf (ns : List Int) (m : Int) : Prop := m ∈ ns ∧ ∀ x ∈ ns, x ≤ m
def MinOf (ns : List Int) (m : Int) : Prop := m ∈ ns ∧ ∀ x ∈ ns, m ≤ x
/-- the ends that are left if the numbers rise -/
def Risen (rs es : List (Int × Int)) : Prop := es.length = rs.length ∧ ∀ i e, es[i]? = some e → MaxOf ((rs.take (i + 1)).map (·.1)) e.1 ∧ MinOf ((rs.drop i).map (·.2)) e.2
def spRisen (K : PySem.W.Frag) : Sp := fun vs H Q _ => ∃ (F : Addr) (rs : List (Int × Int)), vs = [.ref F] ∧ PrAt K H F rs ∧ rs.length ≤ 12 ∧
  ∀ es, Risen rs es → ((∃ e ∈ es, e.2 < e.1) → ∀ H', Same H H' → Q .non H') ∧ ((∀ e ∈ es, e.1 ≤ e.2) → ∀ (r : Addr) (ps : List Addr) (H' : Hp), Same H H' → SqT K H' r (ps.map V.ref) → PySem.Paired (fun p e => SqT K H' p [.int e.1, .int e.2]) ps es → Q (.ref r) H')
theorem take_snoc {α β : Type} (f : α → β) {xs : List α} {j : Nat} {y : α} (h : xs[j]? = some y) : (xs.take (j + 1)).map f = (xs.take j).map f ++ [f y] := by
  rw [List.take_add_one, h, List.map_append]
  rfl
theorem cut_dropN {xs : List V} (i : Nat) (hi : i ≤ xs.length) : cutV xs (some (i : Int)) none = xs.drop i := by
  unfold cutV
  rw [HT.sIx_none, HT.sIx_nat, Nat.min_eq_left hi]
  exact List.take_of_length_le (by rw [List.length_drop]; exact Nat.le_refl _)
section
variable {P : Program} {w : World} {K : PySem.W.Frag} {mg : Str → Option Value} {base : Heap}
end
end My

namespace My
open PySem PySem.Spec PyProof.Rows L2
/-! ### rising, least_rising, always_rise, first_fall -/
/-- the ranges of some figures -/
def prsOf (us : List (Str × Int)) (d : Nat) (s : Str) (c : Bool) (l : Int) (ks : List FKey) : List (Int × Int) := ks.map fun k => (lowK us d s c l k, highK us d s c l k)
theorem prs_paired {K : PySem.W.Frag} {H : Hp} {us : List (Str × Int)} {d : Nat} {s : Str} {c : Bool} {l : Int} : ∀ {ps : List Addr} {ks : List FKey}, PySem.Paired (fun p k => SqT K H p [.int (lowK us d s c l k), .int (highK us d s c l k)]) ps ks → PySem.Paired (fun p (r : Int × Int) => SqT K H p [.int r.1, .int r.2]) ps (prsOf us d s c l ks)
  | _, _, .nil => .nil
  | _, _, .cons r t => .cons r (prs_paired t)
def spRising (K : PySem.W.Frag) (C : Addr) : Sp := fun vs H Q _ => ∃ (a t : Addr) (us : List (Str × Int)) (d : Nat) (s : Str) (c : Bool) (l : Int) (ks : List FKey), vs = [.ref a, .ref t] ∧ LadAt K C H a us d s c l ∧ Good us d s l ∧ SqT K H t (ks.map fun k => V.str (textK us d k)) ∧
  ks.length ≤ 12 ∧ (∀ k ∈ ks, KeyOk us k) ∧ ((∃ k ∈ ks, highK us d s c l k < lowK us d s c l k) → ∀ H', Same H H' → Q .non H') ∧
  ((∀ k ∈ ks, lowK us d s c l k ≤ highK us d s c l k) → ∀ es, Risen (prsOf us d s c l ks) es → ((∃ e ∈ es, e.2 < e.1) → ∀ H', Same H H' → Q .non H') ∧
    ((∀ e ∈ es, e.1 ≤ e.2) → ∀ (r : Addr) (ps : List Addr) (H' : Hp), Same H H' → SqT K H' r (ps.map V.ref) → PySem.Paired (fun p e => SqT K H' p [.int e.1, .int e.2]) ps es → Q (.ref r) H'))
def spLeastR (K : PySem.W.Frag) (C : Addr) : Sp := fun vs H Q _ => ∃ (a t : Addr) (us : List (Str × Int)) (d : Nat) (s : Str) (c : Bool) (l : Int) (ks : List FKey), vs = [.ref a, .ref t] ∧ LadAt K C H a us d s c l ∧ Good us d s l ∧ SqT K H t (ks.map fun k => V.str (textK us d k)) ∧
  ks.length ≤ 12 ∧ (∀ k ∈ ks, KeyOk us k) ∧ ((∃ k ∈ ks, highK us d s c l k < lowK us d s c l k) → ∀ H', Same H H' → Q .non H') ∧
  ((∀ k ∈ ks, lowK us d s c l k ≤ highK us d s c l k) → ∀ es, Risen (prsOf us d s c l ks) es → ((∃ e ∈ es, e.2 < e.1) → ∀ H', Same H H' → Q .non H') ∧
    ((∀ e ∈ es, e.1 ≤ e.2) → ∀ (r : Addr) (H' : Hp), Same H H' → SqT K H' r ((es.map (·.1)).map V.int) → Q (.ref r) H'))
section
variable {P : Program} {w : World} {K : PySem.W.Frag} {mg : Str → Option Value} {base : Heap}
end
end My

namespace My
open PySem PySem.Spec PyProof.Rows L2
/-! ### sights -/
/-- a ladder and one of its figures -/
structure Sgt where
  us : List (Str × Int)
  d : Nat
  s : Str
  c : Bool
  l : Int
  k : FKey
abbrev Sgt.lo (x : Sgt) : Int := lowK x.us x.d x.s x.c x.l x.k
abbrev Sgt.hi (x : Sgt) : Int := highK x.us x.d x.s x.c x.l x.k
abbrev Sgt.text (x : Sgt) : Str := textK x.us x.d x.k
def Sgt.Ok (x : Sgt) : Prop := Good x.us x.d x.s x.l ∧ KeyOk x.us x.k
def SgtAt (K : PySem.W.Frag) (C : Addr) (H : Hp) (p : Addr) (x : Sgt) : Prop := ∃ la, SqT K H p [.ref la, .str x.text] ∧ LadAt K C H la x.us x.d x.s x.c x.l
theorem SgtAt.same {K : PySem.W.Frag} {C p : Addr} {H H' : Hp} {x : Sgt} (k : Same H H') (h : SgtAt K C H p x) : SgtAt K C H' p x := by
  obtain ⟨la, h1, h2⟩ := h
  exact ⟨la, same_sqt k h1, h2.same k⟩
def SgsAt (K : PySem.W.Frag) (C : Addr) (H : Hp) (t : Addr) (xs : List Sgt) : Prop := ∃ ps : List Addr, SqT K H t (ps.map V.ref) ∧ PySem.Paired (fun p x => SgtAt K C H p x) ps xs
theorem SgsAt.same {K : PySem.W.Frag} {C t : Addr} {H H' : Hp} {xs : List Sgt} (k : Same H H') (h : SgsAt K C H t xs) : SgsAt K C H' t xs := by
  obtain ⟨ps, h1, h2⟩ := h
  exact ⟨ps, same_sqt k h1, paired_imp (fun _ _ => SgtAt.same k) h2⟩
/-- what is common to some ranges -/
def Met (rs : List (Int × Int)) (lo hi : Int) : Prop := MaxOf (rs.map (·.1)) lo ∧ MinOf (rs.map (·.2)) hi
def rngS (xs : List Sgt) : List (Int × Int) := xs.map fun x => (x.lo, x.hi)
theorem max_ex {ns : List Int} (h : 0 < ns.length) : ∃ m, MaxOf ns m := by
  induction ns with
  | nil => exact absurd h (by decide)
  | cons n r ih =>
    by_cases hr : 0 < r.length
    · obtain ⟨m, h1, h2⟩ := ih hr
      by_cases e : n ≤ m
      · exact ⟨m, List.mem_cons_of_mem _ h1, fun x hx => by rcases List.mem_cons.mp hx with rfl | hx; exact e; exact h2 x hx⟩
      · exact ⟨n, List.mem_cons_self .., fun x hx => by rcases List.mem_cons.mp hx with rfl | hx; exact Int.le_refl _; have := h2 x hx; omega⟩
    · have : r = [] := List.eq_nil_of_length_eq_zero (by omega)
      subst this
      exact ⟨n, List.mem_cons_self .., fun x hx => by rw [List.mem_singleton.mp hx]; exact Int.le_refl _⟩
theorem min_ex {ns : List Int} (h : 0 < ns.length) : ∃ m, MinOf ns m := by
  induction ns with
  | nil => exact absurd h (by decide)
  | cons n r ih =>
    by_cases hr : 0 < r.length
    · obtain ⟨m, h1, h2⟩ := ih hr
      by_cases e : m ≤ n
      · exact ⟨m, List.mem_cons_of_mem _ h1, fun x hx => by rcases List.mem_cons.mp hx with rfl | hx; exact e; exact h2 x hx⟩
      · exact ⟨n, List.mem_cons_self .., fun x hx => by rcases List.mem_cons.mp hx with rfl | hx; exact Int.le_refl _; have := h2 x hx; omega⟩
    · have : r = [] := List.eq_nil_of_length_eq_zero (by omega)
      subst this
      exact ⟨n, List.mem_cons_self .., fun x hx => by rw [List.mem_singleton.mp hx]; exact Int.le_refl _⟩
theorem max_one {ns : List Int} {m n : Int} (h : MaxOf ns m) (k : MaxOf ns n) : m = n := by
  have := h.2 _ k.1
  have := k.2 _ h.1
  omega
theorem min_one {ns : List Int} {m n : Int} (h : MinOf ns m) (k : MinOf ns n) : m = n := by
  have := h.2 _ k.1
  have := k.2 _ h.1
  omega
abbrev sIsSight : Stmt := top 85
abbrev sCSights : Stmt := top 84
abbrev sCommonR : Stmt := top 83
abbrev sNumsOf : Stmt := top 81
abbrev sNeeded : Stmt := top 82
theorem scIsSight : FnScope ["sight", "ladder", "text"] ["sight"] (defScope sIsSight) := ⟨rfl, rfl, rfl, by decide +kernel, rfl, by decide +kernel, by decide +kernel⟩
theorem scCSights : FnScope ["sights", "place", "sight"] ["sights"] (defScope sCSights) := ⟨rfl, rfl, rfl, by decide +kernel, rfl, by decide +kernel, by decide +kernel⟩
abbrev nCommonR : List Str := ["sights", "found", "low", "high", "ladder", "text", "ends"]
theorem scCommonR : FnScope nCommonR ["sights"] (defScope sCommonR) := ⟨rfl, rfl, rfl, by decide +kernel, rfl, by decide +kernel, by decide +kernel⟩
theorem scNumsOf : FnScope ["sights"] ["sights"] (defScope sNumsOf) := ⟨rfl, rfl, rfl, by decide +kernel, rfl, by decide +kernel, by decide +kernel⟩
theorem scNeeded : FnScope ["sights", "ends", "place"] ["sights"] (defScope sNeeded) := ⟨rfl, rfl, rfl, by decide +kernel, rfl, by decide +kernel, by decide +kernel⟩
def spIsSight (K : PySem.W.Frag) (C : Addr) : Sp := fun vs H Q _ => ∃ (p : Addr) (x : Sgt), vs = [.ref p] ∧ SgtAt K C H p x ∧ x.Ok ∧ ∀ H', Same H H' → Q (.bl true) H'
def spCSights (K : PySem.W.Frag) (C : Addr) : Sp := fun vs H Q _ => ∃ (t : Addr) (xs : List Sgt), vs = [.ref t] ∧ SgsAt K C H t xs ∧ 0 < xs.length ∧ xs.length ≤ 4 ∧ (∀ x ∈ xs, x.Ok) ∧ ∀ H', Same H H' → Q .non H'
def spCommonR (K : PySem.W.Frag) (C : Addr) : Sp := fun vs H Q _ => ∃ (t : Addr) (xs : List Sgt), vs = [.ref t] ∧ SgsAt K C H t xs ∧ 0 < xs.length ∧ xs.length ≤ 4 ∧ (∀ x ∈ xs, x.Ok) ∧
  ∀ lo hi, Met (rngS xs) lo hi → ∀ (v : V) (H' : Hp), Same H H' → RowV K H' v lo hi → Q v H'
def spOnlyN (K : PySem.W.Frag) (C : Addr) : Sp := fun vs H Q _ => ∃ (t : Addr) (xs : List Sgt), vs = [.ref t] ∧ SgsAt K C H t xs ∧ 0 < xs.length ∧ xs.length ≤ 4 ∧ (∀ x ∈ xs, x.Ok) ∧
  ∀ lo hi, Met (rngS xs) lo hi → ∀ (H' : Hp), Same H H' → Q (if lo = hi then .int lo else .non) H'
/-- whether two answers are the same -/
def rowEq (a b c d : Int) : Bool := if b < a then decide (d < c) else (!decide (d < c) && (decide (a = c) && decide (b = d)))
/-- all but one -/
def less1 {α : Type} (xs : List α) (i : Nat) : List α := xs.take i ++ xs.drop (i + 1)
/-- the place of a sight without which the range would be another one -/
def Need (xs : List Sgt) (i : Nat) : Prop := ∀ lo hi lo' hi', Met (rngS xs) lo hi → Met (rngS (less1 xs i)) lo' hi' → rowEq lo' hi' lo hi = false
def spNeeded (K : PySem.W.Frag) (C : Addr) : Sp := fun vs H Q _ => ∃ (t : Addr) (xs : List Sgt), vs = [.ref t] ∧ SgsAt K C H t xs ∧ 0 < xs.length ∧ xs.length ≤ 4 ∧ (∀ x ∈ xs, x.Ok) ∧
  ∀ (is : List Nat) (p : Addr) (H' : Hp), Same H H' → SqT K H' p (is.map fun i : Nat => V.int (i : Int)) → is.Pairwise (· < ·) → (∀ i, i ∈ is ↔ i < xs.length ∧ (xs.length = 1 ∨ Need xs i)) → Q (.ref p) H'
section
variable {P : Program} {w : World} {K : PySem.W.Frag} {mg : Str → Option Value} {base : Heap}
theorem ok_issight (d : Dd K mg "is_sight" sIsSight ["sight"]) (dP : Dd K mg "parts_of" sPartsOf ["ladder", "text"]) (L : LadC K mg) (I : LadI K L.C) (B : Bt mg)
    (GP : FnOk P w K mg base CX0 3 dP.f dP.fd ["ladder", "text"] (spPartsOf K L.C)) : FnOk P w K mg base CX0 4 d.f d.fd ["sight"] (spIsSight K L.C) := by
  refine d.F.ok scIsSight (fun vs H Q E h => ?_) (fun cdv A outer s H vs Q E hr h => ?_)
  · obtain ⟨_, _, rfl, _⟩ := h
    rfl
  · obtain ⟨p, x, rfl, ⟨la, hp, hL⟩, ⟨g, k1, k2, k3⟩, q⟩ := h
    have nd := scIsSight.nd
    refine ⟨_, pss_cons (ps_if (PW.pt (pw_or (pt_not (pt_val (pe_callB call_isi (by rfl) B.isinstance (by decide +kernel) (pa_cons (pv 0) (pa_cons (pe_bltn (v := .ty "tuple") (by rfl) B.tuple (by decide +kernel) rfl) pa_nil)))))
        (pw_or1 (pt_cmpR op_ne (pe_callB call_len_seq (by rfl) B.len PySem.boot_len (pa_cons (pv 0) pa_nil)) pe_int (nomark _))))) (pss_one ps_never) pss_nil)
      (pss_cons (ps_asg (pv 0) (pg_tup rfl (pgs_cons (pg_name (i := 1) nd rfl (.inl rfl)) (pgs_cons (pg_name (i := 2) nd rfl (.inl rfl)) pgs_nil))))
      (pss_one (ps_ret (pe_and (pe_callB call_isi (by rfl) B.isinstance (by decide +kernel) (pa_cons (pv 1) (pa_cons (pe_glob (v := .ref L.C) (by rfl) L.g rfl) pa_nil)))
        (pe_one (pe_cmp (pc_notN (pe_call GP hr (by rfl) dP.g dP.F.kp dP.b .nil pass0 (pa_cons (pv 1) (pa_cons (pv 2) pa_nil)))) rfl)))))), ?_⟩
    obtain ⟨dx, ua, t, st, th, hpl, hrest⟩ := id hL
    refine ⟨_, rfl, _, _, _, _, true, rfl, .ty "tuple", tyx_tup hp, kit_ty (by decide +kernel), _, rfl, iteF ?_⟩
    refine ⟨_, rfl, p, _, rfl, .inr hp, rfl, _, rfl, iteNS rfl ?_⟩
    refine ⟨_, rfl, p, _, rfl, hp, rfl, _, _, rfl, _, _, rfl, rfl, ?_⟩
    refine ⟨_, rfl, _, _, _, _, true, rfl, .own L.C, .base (.ins hpl L.cl I.i1 I.i2 I.i3 I.i4), I.i5, _, rfl, iteT ?_⟩
    refine ⟨_, rfl, _, rfl, la, x.us, x.d, x.s, x.c, x.l, x.k.1, x.k.2, rfl, hL, g, k1, k2, k3, fun r H1 s1 _ => ?_⟩
    exact q H1 s1
theorem ok_csights {C : Addr} (d : Dd K mg "check_sights" sCSights ["sights"]) (dI : Dd K mg "is_sight" sIsSight ["sight"]) (B : Bt mg) (gR : ∃ t, mg "MOST_SIGHTS" = some (.int 4 t))
    (GI : FnOk P w K mg base CX0 4 dI.f dI.fd ["sight"] (spIsSight K C)) : FnOk P w K mg base CX0 5 d.f d.fd ["sights"] (spCSights K C) := by
  obtain ⟨t1, g1⟩ := gR
  refine d.F.ok scCSights (fun vs H Q E h => ?_) (fun cdv A outer s H vs Q E hr h => ?_)
  · obtain ⟨_, _, rfl, _⟩ := h
    rfl
  · obtain ⟨t, xs, rfl, ⟨ps, hT, hps⟩, h0, h4, hok, q⟩ := h
    have nd := scCSights.nd
    refine ⟨_, pss_cons (ps_if (PW.pt (pw_or (pt_not (pt_val (pe_callB call_isi (by rfl) B.isinstance (by decide +kernel) (pa_cons (pv 0) (pa_cons (pe_bltn (v := .ty "tuple") (by rfl) B.tuple (by decide +kernel) rfl) pa_nil)))))
        (pw_or1 (pt_not (pt_chain op_le op_le pe_int (pe_callB call_len_seq (by rfl) B.len PySem.boot_len (pa_cons (pv 0) pa_nil)) (pe_glob (v := .int 4) (by rfl) g1 ⟨_, rfl⟩)))))) (pss_one ps_never) pss_nil)
      (pss_one (ps_for PassesOwn.never rfl (pi_enT (by rfl) B.enumerate (pa_cons (pv 0) pa_nil)) (pg_tup rfl (pgs_cons (pg_name (i := 1) nd rfl (.inl rfl)) (pgs_cons (pg_name (i := 2) nd rfl (.inl rfl)) pgs_nil)))
        (pss_one (ps_if (pt_not (pt_val (pe_call GI hr (by rfl) dI.g dI.F.kp dI.b .nil pass0 (pa_cons (pv 2) pa_nil)))) (pss_one ps_never) pss_nil)))), ?_⟩
    have hpl : ps.length = xs.length := hps.length
    refine ⟨_, rfl, _, _, _, _, true, rfl, .ty "tuple", tyx_tup hT, kit_ty (by decide +kernel), _, rfl, iteF ?_⟩
    refine ⟨_, rfl, t, _, rfl, .inr hT, 1, _, rfl, rfl, _, rfl, ?_⟩
    rw [decide_eq_true (show (1 : Int) ≤ (((ps.map V.ref).length : Nat) : Int) by rw [List.length_map]; omega)]
    refine iteT ?_
    refine ⟨_, _, rfl, rfl, _, rfl, ?_⟩
    rw [decide_eq_true (show (((ps.map V.ref).length : Nat) : Int) ≤ 4 by rw [List.length_map]; omega)]
    refine iteF ?_
    refine ⟨_, rfl, t, _, rfl, hT, for_enT (K := K) (a := t) (xs := ps.map V.ref) (fun i σ H2 => Same H H2 ∧ ∃ v1 v2, σ = [some (.ref t), v1, v2]) ⟨Same.refl _, none, none, rfl⟩ (fun i σ H2 _ h => same_sqt h.1 hT) ?_ (fun σ H2 h => q H2 h.1)⟩
    rintro i y σ H2 T hi ⟨sm, v1, v2, rfl⟩ nT
    obtain ⟨pj, hpj, rfl⟩ := of_get_ref hi
    obtain ⟨x, hx, hx2⟩ := paired_fst hps hpj
    have smT : Same H (upd H2 T (.tup [.int (i : Nat), .ref pj])) := sm.trans (same_upd nT)
    refine ⟨T, _, rfl, .inl (.inl upd_same), rfl, .int (i : Nat), _, rfl, _, _, rfl, rfl, ?_⟩
    refine ⟨_, rfl, pj, x, rfl, hx2.same smT, hok x (List.mem_of_getElem? hx), fun H3 s3 => ?_⟩
    exact ⟨_, rfl, iteF ⟨smT.trans s3, _, _, rfl⟩⟩
theorem ok_commonr {C : Addr} (d : Dd K mg "common_range" sCommonR ["sights"]) (dR : Dd K mg "range_of" sRangeOf ["ladder", "text"]) (B : Bt mg)
    (GR : FnOk P w K mg base CX0 5 dR.f dR.fd ["ladder", "text"] (spRangeOf K C)) : FnOk P w K mg base CX0 6 d.f d.fd ["sights"] (spCommonR K C) := by
  refine d.F.ok scCommonR (fun vs H Q E h => ?_) (fun cdv A outer s H vs Q E hr h => ?_)
  · obtain ⟨_, _, rfl, _⟩ := h
    rfl
  · obtain ⟨t, xs, rfl, ⟨ps, hT, hps⟩, h0, h4, hok, q⟩ := h
    have nd := scCommonR.nd
    have hu65 : (A.deeper (envOfC "common_range" (defScope sCommonR) s.heap.objs.size d.f cdv)).units + 65 < cLine := by have := hr.un; omega
    have hpl : ps.length = xs.length := hps.length
    refine ⟨_, pss_cons (ps_setLc (i := 1) (own := [("ladder", 4), ("text", 5)]) (g := gTup K 2 (gCons (gName 4) (gCons (gName 5) gNil))) (tt := tYes) rfl nd rfl rfl (by rfl) (pi_tup (pv 0))
        (blkOk_by (own := [("ladder", 4), ("text", 5)]) (N := nCommonR) (sc := defScope sCommonR) (by decide +kernel)) (fun _ _ _ _ _ => pg_tup rfl (pgs_cons (pg_name (i := 4) nd rfl (Or.inl rfl)) (pgs_cons (pg_name (i := 5) nd rfl (Or.inl rfl)) pgs_nil))) (fun _ _ _ _ _ => pts_nil)
        (fun _ _ _ _ _ => pe_call GR hr (by rfl) dR.g dR.F.kp dR.b .nil pass0 (pa_cons (pv 4) (pa_cons (pv 5) pa_nil))))
      (pss_cons (ps_if (pt_cmpR (op_inD hu65) pe_non (pv 1) (by rfl)) (pss_one (ps_ret pe_non)) pss_nil)
      (pss_cons (ps_set (i := 2) nd rfl (.inl rfl) (pe_callB (r := rMax K) (cr_max rfl) (by rfl) B.max (by decide +kernel) (pa_cons (pe_lc (own := [("ends", 6)]) (g := gName 6) (tt := tYes) rfl nd (pi_list (pv 1))
          (blkOk_by (own := [("ends", 6)]) (N := nCommonR) (sc := defScope sCommonR) (by decide +kernel)) (fun _ _ _ _ _ => pg_name (i := 6) nd rfl (Or.inl rfl)) (fun _ _ _ _ _ => pts_nil)
          (fun _ _ _ _ _ => pe_ix (r := rIxT K) ix_tup (pv 6) pe_int (fun _ _ => rfl))) pa_nil)))
      (pss_cons (ps_set (i := 3) nd rfl (.inl rfl) (pe_callB (r := rMin K) (cr_min rfl) (by rfl) B.min (by decide +kernel) (pa_cons (pe_lc (own := [("ends", 6)]) (g := gName 6) (tt := tYes) rfl nd (pi_list (pv 1))
          (blkOk_by (own := [("ends", 6)]) (N := nCommonR) (sc := defScope sCommonR) (by decide +kernel)) (fun _ _ _ _ _ => pg_name (i := 6) nd rfl (Or.inl rfl)) (fun _ _ _ _ _ => pts_nil)
          (fun _ _ _ _ _ => pe_ix (r := rIxT K) ix_tup (pv 6) pe_int (fun _ _ => rfl))) pa_nil)))
      (pss_cons (ps_if (pt_cmpR op_gt (pv 2) (pv 3) (nomark _)) (pss_one (ps_ret pe_non)) pss_nil)
      (pss_one (ps_ret (pe_tup (pa_cons (pv 2) (pa_cons (pv 3) pa_nil))))))))), ?_⟩
    -- the ranges
    refine ⟨_, rfl, t, rfl, ⟨_, hT⟩, fun D nD => ?_⟩
    refine lc_tup (K := K) (a := t) (xs := ps.map V.ref) (fun j H' => Same H H' ∧ ∃ vs, H' D = some (.lst vs) ∧ PySem.Paired (fun v (x : Sgt) => RowV K H' v x.lo x.hi) vs (xs.take j)) ⟨same_upd nD, [], upd_same, .nil⟩ (fun j H' _ h => same_sqt h.1 hT) ?_ ?_
    · rintro j y H6 hj ⟨sm, vs, hD, hvs⟩
      obtain ⟨pj, hpj, rfl⟩ := of_get_ref hj
      obtain ⟨x, hx, hx2⟩ := paired_fst hps hpj
      obtain ⟨la, hp6, hL6⟩ := hx2.same sm
      obtain ⟨g, k1, k2, k3⟩ := hok x (List.mem_of_getElem? hx)
      have hjl := (List.getElem?_eq_some_iff.mp hx).1
      have hvl : vs.length = j := by
        rw [hvs.length, List.length_take]
        omega
      have fin : ∀ (v : V) (H7 : Hp), Same H6 H7 → RowV K H7 v x.lo x.hi → ∃ acc, H7 D = some (.lst acc) ∧ acc.length < sizeLine ∧ Same H (upd H7 D (.lst (acc ++ [v]))) ∧ ∃ vs, (upd H7 D (.lst (acc ++ [v]))) D = some (.lst vs) ∧ PySem.Paired (fun u (x : Sgt) => RowV K (upd H7 D (.lst (acc ++ [v]))) u x.lo x.hi) vs (xs.take (j + 1)) := by
        intro v H7 s7 hv
        have hD7 := s7 _ _ hD
        refine ⟨vs, hD7, ?_, fun b o e => ?_, _, upd_same, ?_⟩
        · rw [hvl]
          exact Nat.lt_of_lt_of_le (show j < 5 by omega) (by decide)
        · rw [upd_ne (ne_of_none e nD)]
          exact s7 _ _ (sm _ _ e)
        · rw [List.take_add_one, hx]
          exact PySem.Paired.snoc (paired_imp (fun _ _ h => (h.same s7).updL hD7) hvs) (hv.updL hD7)
      refine ⟨pj, _, rfl, hp6, rfl, _, _, rfl, _, _, rfl, rfl, ?_⟩
      refine ⟨rfl, _, rfl, _, rfl, la, x.us, x.d, x.s, x.c, x.l, x.k.1, x.k.2, rfl, hL6, g, k1, k2, k3, fun y H7 s7 => ?_, fun y rr H7 s7 hrr => ?_⟩
      · exact fin .non H7 s7 (.inl ⟨y, rfl⟩)
      · exact fin (.ref rr) H7 s7 (.inr ⟨y, rr, rfl, hrr⟩)
    rintro H6 ⟨s6, vs, hD, hvs⟩
    rw [List.length_map, hpl, List.take_length] at hvs
    refine ⟨_, rfl, .none, _, .non, .lst (SqL.of hD) (dpRs hvs), non_shaped, dataRs_shaped _ _ xs, _, rfl, ?_⟩
    rw [dataRs_any]
    obtain ⟨lo, hlo⟩ : ∃ lo, MaxOf ((rngS xs).map (·.1)) lo := max_ex (by unfold rngS; rw [List.length_map, List.length_map]; exact h0)
    obtain ⟨hi, hhi⟩ : ∃ hi, MinOf ((rngS xs).map (·.2)) hi := min_ex (by unfold rngS; rw [List.length_map, List.length_map]; exact h0)
    have q' := q lo hi ⟨hlo, hhi⟩
    refine ite2 (fun e => ?_) (fun e => ?_)
    · rw [List.any_eq_true] at e
      obtain ⟨x, hx, hlt⟩ := e
      have hlt := of_decide_eq_true hlt
      have e1 := hlo.2 x.lo (List.mem_map.mpr ⟨(x.lo, x.hi), List.mem_map.mpr ⟨x, hx, rfl⟩, rfl⟩)
      have e2 := hhi.2 x.hi (List.mem_map.mpr ⟨(x.lo, x.hi), List.mem_map.mpr ⟨x, hx, rfl⟩, rfl⟩)
      exact q' .non H6 s6 (.inl ⟨by omega, rfl⟩)
    have hsh : ∀ x ∈ xs, x.lo ≤ x.hi := fun x hx => by
      refine Int.not_lt.mp fun y => e ?_
      rw [List.any_eq_true]
      exact ⟨x, hx, decide_eq_true y⟩
    obtain ⟨rs, rfl, hrs⟩ := rows_refs hvs hsh
    have hrl : rs.length = xs.length := hrs.length
    -- both ends
    refine ⟨_, rfl, D, rfl, ⟨_, SqL.of hD⟩, fun D1 nD1 => ?_⟩
    refine lc_list (K := K) (a := D) (xs := rs.map V.ref) (fun j H' => Same H6 H' ∧ H' D1 = some (.lst ((((rngS xs).map (·.1)).take j).map V.int))) ⟨same_upd nD1, upd_same⟩ (fun j H' _ h => SqL.of (h.1 _ _ hD)) ?_ ?_
    · rintro j y H7 hj ⟨sm, hD1⟩
      obtain ⟨pj, hpj, rfl⟩ := of_get_ref hj
      obtain ⟨x, hx, hr3⟩ := paired_fst hrs hpj
      have hjl := (List.getElem?_eq_some_iff.mp hx).1
      refine ⟨rfl, _, rfl, pj, _, 0, .int x.lo, rfl, rfl, same_sqt sm hr3, rfl, _, hD1, ?_, fun b o e => ?_, ?_⟩
      · rw [List.length_map, List.length_take]
        exact Nat.lt_of_le_of_lt (Nat.min_le_left _ _) (Nat.lt_of_lt_of_le (show j < 5 by omega) (by decide))
      · rw [upd_ne (ne_of_none e nD1)]
        exact sm _ _ e
      · rw [upd_same, take_snoc V.int (y := x.lo) (by unfold rngS; rw [List.getElem?_map, List.getElem?_map, hx]; rfl)]
    rintro H7 ⟨s7, hD1⟩
    have len1 : (rngS xs).length = xs.length := by unfold rngS; rw [List.length_map]
    have et : ((rngS xs).map (·.1)).take (rs.map V.ref).length = (rngS xs).map (·.1) := List.take_of_length_le (by rw [List.length_map, List.length_map, hrl, len1]; exact Nat.le_refl _)
    rw [et] at hD1
    refine ⟨D1, (rngS xs).map (·.1), rfl, SqL.of hD1, ?_, fun m1 hm1 hm2 => ?_⟩
    · rw [List.length_map, len1]; exact h0
    cases max_one hlo ⟨hm1, hm2⟩
    have hD7 := s7 _ _ hD
    refine ⟨_, rfl, D, rfl, ⟨_, SqL.of hD7⟩, fun D2 nD2 => ?_⟩
    refine lc_list (K := K) (a := D) (xs := rs.map V.ref) (fun j H' => Same H7 H' ∧ H' D2 = some (.lst ((((rngS xs).map (·.2)).take j).map V.int))) ⟨same_upd nD2, upd_same⟩ (fun j H' _ h => SqL.of (h.1 _ _ hD7)) ?_ ?_
    · rintro j y H8 hj ⟨sm, hD2⟩
      obtain ⟨pj, hpj, rfl⟩ := of_get_ref hj
      obtain ⟨x, hx, hr3⟩ := paired_fst hrs hpj
      have hjl := (List.getElem?_eq_some_iff.mp hx).1
      refine ⟨rfl, _, rfl, pj, _, 1, .int x.hi, rfl, rfl, same_sqt (s7.trans sm) hr3, rfl, _, hD2, ?_, fun b o e => ?_, ?_⟩
      · rw [List.length_map, List.length_take]
        exact Nat.lt_of_le_of_lt (Nat.min_le_left _ _) (Nat.lt_of_lt_of_le (show j < 5 by omega) (by decide))
      · rw [upd_ne (ne_of_none e nD2)]
        exact sm _ _ e
      · rw [upd_same, take_snoc V.int (y := x.hi) (by unfold rngS; rw [List.getElem?_map, List.getElem?_map, hx]; rfl)]
    rintro H8 ⟨s8, hD2⟩
    have et2 : ((rngS xs).map (·.2)).take (rs.map V.ref).length = (rngS xs).map (·.2) := List.take_of_length_le (by rw [List.length_map, List.length_map, hrl, len1]; exact Nat.le_refl _)
    rw [et2] at hD2
    refine ⟨D2, (rngS xs).map (·.2), rfl, SqL.of hD2, ?_, fun m2 hm3 hm4 => ?_⟩
    · rw [List.length_map, len1]; exact h0
    cases min_one hhi ⟨hm3, hm4⟩
    have s68 := (s6.trans s7).trans s8
    refine ⟨_, rfl, _, rfl, _, _, rfl, rfl, _, rfl, ite2 (fun e => ?_) (fun e => ?_)⟩
    · exact q' .non H8 s68 (.inl ⟨of_decide_eq_true e, rfl⟩)
    · have hle : lo ≤ hi := Int.not_lt.mp fun y => e (decide_eq_true y)
      refine ⟨_, rfl, _, rfl, (by show 2 ≤ sizeLine; decide), fun t2 n2 => ?_⟩
      exact q' (.ref t2) _ (s68.trans (same_upd n2)) (.inr ⟨hle, t2, rfl, SqT.of upd_same⟩)
theorem ok_numsof {C : Addr} (d : Dd K mg "numbers_of" sNumsOf ["sights"]) (dC : Dd K mg "check_sights" sCSights ["sights"]) (dR : Dd K mg "common_range" sCommonR ["sights"])
    (GC : FnOk P w K mg base CX0 5 dC.f dC.fd ["sights"] (spCSights K C)) (GR : FnOk P w K mg base CX0 6 dR.f dR.fd ["sights"] (spCommonR K C)) : FnOk P w K mg base CX0 7 d.f d.fd ["sights"] (spCommonR K C) := by
  refine d.F.ok scNumsOf (fun vs H Q E h => ?_) (fun cdv A outer s H vs Q E hr h => ?_)
  · obtain ⟨_, _, rfl, _⟩ := h
    rfl
  · obtain ⟨t, xs, rfl, hT, h0, h4, hok, q⟩ := h
    have nd := scNumsOf.nd
    have hr1 : Room 5 _ := hr.mono (by decide)
    refine ⟨_, pss_cons (ps_expr (pe_call GC hr1 (by rfl) dC.g dC.F.kp dC.b .nil pass0 (pa_cons (pv 0) pa_nil)))
      (pss_one (ps_ret (pe_call GR hr (by rfl) dR.g dR.F.kp dR.b .nil pass0 (pa_cons (pv 0) pa_nil)))), ?_⟩
    refine ⟨_, rfl, t, xs, rfl, hT, h0, h4, hok, fun H1 s1 => ?_⟩
    exact ⟨_, rfl, t, xs, rfl, hT.same s1, h0, h4, hok, fun lo hi hm v H2 s2 hv => q lo hi hm v H2 (s1.trans s2) hv⟩
/-- what is left without one -/
theorem rng_less (xs : List Sgt) (i : Nat) : rngS (less1 xs i) = less1 (rngS xs) i := by
  unfold rngS less1
  rw [List.map_append, List.map_take, List.map_drop]
theorem eqv_row (a b c d : Int) : PyData.eqv (dataR a b) (dataR c d) = rowEq a b c d := by
  unfold dataR rowEq
  by_cases h1 : b < a
  · rw [if_pos h1, if_pos h1]
    by_cases h2 : d < c
    · rw [if_pos h2, decide_eq_true h2]
      simp [PyData.eqv]
    · rw [if_neg h2, decide_eq_false h2]
      simp [PyData.eqv]
  · rw [if_neg h1, if_neg h1]
    by_cases h2 : d < c
    · rw [if_pos h2, decide_eq_true h2]
      simp [PyData.eqv]
    · rw [if_neg h2, decide_eq_false h2]
      simp [PyData.eqv, PyData.eqvAll]
      rfl
theorem dataR_shaped (a b : Int) : SeqAt.shaped (dataR a b) = true := by
  have h1 := dataR_lay a b
  have h2 := dataR_depth a b
  unfold SeqAt.shaped
  rw [h1, decide_eq_true (show (dataR a b).depth ≤ 64 by omega)]
  rfl
theorem paired_app {α β : Type} {R : α → β → Prop} : ∀ {xs : List α} {ys : List β} {xs' : List α} {ys' : List β}, PySem.Paired R xs ys → PySem.Paired R xs' ys' → PySem.Paired R (xs ++ xs') (ys ++ ys')
  | _, _, _, _, .nil, h => h
  | _, _, _, _, .cons r t, h => .cons r (paired_app t h)
theorem less1_len {α : Type} {xs : List α} {i : Nat} (h : i < xs.length) : (less1 xs i).length = xs.length - 1 := by
  unfold less1
  rw [List.length_append, List.length_take, List.length_drop]
  omega
theorem less1_mem {α : Type} {xs : List α} {i : Nat} {x : α} (h : x ∈ less1 xs i) : x ∈ xs := by
  unfold less1 at h
  rcases List.mem_append.mp h with h | h
  · exact List.mem_of_mem_take h
  · exact List.mem_of_mem_drop h
theorem sl_any {K : PySem.W.Frag} {a : Addr} {xs : List V} {H : Hp} {lo hi : Option Int} {Q : VK} (h : SqT K H a xs) (q : ∀ p H', Same H H' → SqT K H' p (cutV xs lo hi) → Q (.ref p) H') : rSlA K (.ref a) lo hi H Q := by
  refine ⟨a, xs, rfl, h, fun w => q a H (Same.refl _) ?_, fun _ p np => q p _ (same_upd np) (SqT.of upd_same)⟩
  have e : cutV xs lo hi = xs := by
    unfold cutV
    rw [w.1, w.2]
    simp
  rw [e]
  exact h
theorem cat_any {K : PySem.W.Frag} {a b : Addr} {xs ys : List V} {H : Hp} {Q : VK} (ha : SqT K H a xs) (hb : SqT K H b ys) (hz : xs.length + ys.length ≤ sizeLine) (q : ∀ p H', Same H H' → SqT K H' p (xs ++ ys) → Q (.ref p) H') : rCatA K (.ref a) (.ref b) H Q := by
  refine ⟨a, b, xs, ys, rfl, rfl, ha, hb, hz, fun e => q b H (Same.refl _) ?_, fun _ e => q a H (Same.refl _) ?_, fun _ _ p np => q p _ (same_upd np) (SqT.of upd_same)⟩
  · rw [e]; exact hb
  · rw [e, List.append_nil]; exact ha
theorem met_ex {rs : List (Int × Int)} (h : 0 < rs.length) : ∃ lo hi, Met rs lo hi := by
  obtain ⟨lo, h1⟩ := max_ex (ns := rs.map (·.1)) (by rw [List.length_map]; exact h)
  obtain ⟨hi, h2⟩ := min_ex (ns := rs.map (·.2)) (by rw [List.length_map]; exact h)
  exact ⟨lo, hi, h1, h2⟩
theorem met_one {rs : List (Int × Int)} {lo hi lo' hi' : Int} (h : Met rs lo hi) (k : Met rs lo' hi') : lo = lo' ∧ hi = hi' := ⟨max_one h.1 k.1, min_one h.2 k.2⟩
theorem ok_needed {C : Addr} (d : Dd K mg "needed" sNeeded ["sights"]) (dC : Dd K mg "check_sights" sCSights ["sights"]) (dR : Dd K mg "common_range" sCommonR ["sights"]) (B : Bt mg)
    (GC : FnOk P w K mg base CX0 5 dC.f dC.fd ["sights"] (spCSights K C)) (GR : FnOk P w K mg base CX0 6 dR.f dR.fd ["sights"] (spCommonR K C)) : FnOk P w K mg base CX0 7 d.f d.fd ["sights"] (spNeeded K C) := by
  refine d.F.ok scNeeded (fun vs H Q E h => ?_) (fun cdv A outer s H vs Q E hr h => ?_)
  · obtain ⟨_, _, rfl, _⟩ := h
    rfl
  · obtain ⟨t, xs, rfl, hT, h1, h4, hok, q⟩ := h
    have nd := scNeeded.nd
    have hr1 : Room 5 _ := hr.mono (by decide)
    have hu := hr.units
    refine ⟨_, pss_cons (ps_expr (pe_call GC hr1 (by rfl) dC.g dC.F.kp dC.b .nil pass0 (pa_cons (pv 0) pa_nil)))
      (pss_cons (ps_if (pt_cmpR op_eq (pe_callB call_len_seq (by rfl) B.len PySem.boot_len (pa_cons (pv 0) pa_nil)) pe_int (nomark _)) (pss_one (ps_ret (pe_tup (pa_cons pe_int pa_nil)))) pss_nil)
      (pss_cons (ps_set (i := 1) nd rfl (.inr rfl) (pe_call GR hr (by rfl) dR.g dR.F.kp dR.b .nil pass0 (pa_cons (pv 0) pa_nil)))
      (pss_one (ps_ret (pe_tupleOf (by rfl) B.tuple (pe_lc (own := [("place", 2)]) (g := gName 2) rfl nd (pi_range1 rfl B.range (pa_cons (pe_callB call_len_seq (by rfl) B.len PySem.boot_len (pa_cons (pv 0) pa_nil)) pa_nil))
        (blkOk_by (own := [("place", 2)]) (N := ["sights", "ends", "place"]) (sc := defScope sNeeded) (by decide +kernel)) (fun _ _ _ _ _ => pg_name (i := 2) nd rfl (Or.inl rfl)) (fun _ _ _ _ _ => pts_one (pt_cmpR (r := rNeD K) (op_neD hu) (pe_call GR hr (by rfl) dR.g dR.F.kp dR.b .nil pass0 (pa_cons (pe_op (r := rCatA K) op_catA (pe_slice (r := rSlA K) sl_tupA (pv 0) po_none (po_some (pv 2))) (pe_slice (r := rSlA K) sl_tupA (pv 0) (po_some (pe_op op_add (pv 2) pe_int)) po_none)) pa_nil)) (pv 1) (by rfl)))
        (fun _ _ _ _ _ => pv 2))))))), ?_⟩
    refine ⟨_, rfl, t, xs, rfl, hT, h1, h4, hok, fun H1 s1 => ?_⟩
    obtain ⟨ps, hTt, hps⟩ := hT
    have hpl : ps.length = xs.length := hps.length
    have hT1 := same_sqt s1 hTt
    have hps1 := paired_imp (fun _ _ => SgtAt.same s1) hps
    refine ⟨_, rfl, t, _, rfl, .inr hT1, rfl, _, rfl, ite2 (fun e => ?_) (fun e => ?_)⟩
    · have hn : xs.length = 1 := by
        have := V.int.inj (of_decide_eq_true e)
        rw [List.length_map] at this
        omega
      refine ⟨by decide, fun p np => ?_⟩
      refine q [0] p _ (s1.trans (same_upd np)) (SqT.of upd_same) (List.pairwise_singleton ..) (fun i => ?_)
      rw [List.mem_singleton]
      exact ⟨fun w => ⟨by omega, .inl hn⟩, fun w => by omega⟩
    · have hn : xs.length ≠ 1 := fun w => e (by
        refine decide_eq_true ?_
        rw [List.length_map, hpl, w]
        rfl)
      obtain ⟨lo, hi, hm⟩ := met_ex (rs := rngS xs) (by unfold rngS; rw [List.length_map]; exact h1)
      refine ⟨_, rfl, t, xs, rfl, ⟨ps, hT1, hps1⟩, h1, h4, hok, fun lo' hi' hm' v H2 s2 hv => ?_⟩
      obtain ⟨rfl, rfl⟩ := met_one hm hm'
      have hT2 := same_sqt s2 hT1
      have hps2 := paired_imp (fun _ _ => SgtAt.same s2) hps1
      refine ⟨_, rfl, t, _, rfl, .inr hT2, _, rfl, ?_, ?_, fun D nD => ?_⟩
      · rw [List.length_map]; omega
      · rw [List.length_map]; omega
      rw [List.length_map, hpl, show ((xs.length : Nat) : Int).toNat = xs.length by omega]
      refine lc_range (n := xs.length) (fun j H' => Same H2 H' ∧ ∃ is : List Nat, H' D = some (.lst (is.map fun i : Nat => V.int (i : Int))) ∧ is.length ≤ j ∧ is.Pairwise (· < ·) ∧ ∀ i, i ∈ is ↔ i < j ∧ Need xs i) ⟨same_upd nD, [], upd_same, Nat.le_refl _, .nil, fun i => ⟨fun h => by simp at h, fun h => absurd h.1 (Nat.not_lt_zero _)⟩⟩ ?_ ?_
      · rintro j H3 hj ⟨s3, is, hD, hlen, hpw, hmem⟩
        have hT3 := same_sqt s3 hT2
        have hps3 := paired_imp (fun _ _ => SgtAt.same s3) hps2
        refine ⟨rfl, _, rfl, _, rfl, _, rfl, ?_⟩
        rw [show (0 : Int) + (j : Int) = ((j : Nat) : Int) by omega]
        refine sl_any hT3 fun p1 H4 s4 h41 => ?_
        refine ⟨_, rfl, _, rfl, _, _, rfl, rfl, _, rfl, ?_⟩
        show rSlA K (V.ref t) (some (((j : Nat) : Int) + 1)) none H4 (fun y H9 => rCatA K (V.ref p1) y H9 _)
        refine sl_any (same_sqt s4 hT3) fun p2 H5 s5 h52 => ?_
        refine cat_any (same_sqt s5 h41) h52 ?_ fun p3 H6 s6 h63 => ?_
        · refine Nat.le_trans (Nat.add_le_add (cutV_length ..) (cutV_length ..)) ?_
          rw [List.length_map]
          exact Nat.le_trans (show ps.length + ps.length ≤ 8 by omega) (by decide)
        rw [cut_take j (by rw [List.length_map]; omega), show (j : Int) + 1 = ((j + 1 : Nat) : Int) by omega, cut_dropN (j + 1) (by rw [List.length_map]; omega), ← List.map_take, ← List.map_drop, ← List.map_append] at h63
        have s36 := (s4.trans s5).trans s6
        have hps6 := paired_imp (fun _ _ => SgtAt.same s36) hps3
        have hl1 := less1_len hj
        obtain ⟨lo2, hi2, hm2⟩ := met_ex (rs := rngS (less1 xs j)) (by unfold rngS; rw [List.length_map]; omega)
        refine ⟨p3, less1 xs j, rfl, ⟨_, h63, paired_app (paired_take j hps6) (paired_drop (j + 1) hps6)⟩, by omega, by omega, fun x hx => hok x (less1_mem hx), fun lo' hi' hm' v' H7 s7 hv' => ?_⟩
        obtain ⟨rfl, rfl⟩ := met_one hm2 hm'
        have s37 := s36.trans s7
        have hv7 := hv.same (s3.trans s37)
        refine ⟨_, rfl, _, _, dpR hv', dpR hv7, dataR_shaped _ _, dataR_shaped _ _, _, rfl, ?_⟩
        rw [eqv_row]
        have hneed : Need xs j ↔ rowEq lo2 hi2 lo hi = false := by
          constructor
          · exact fun h => h lo hi lo2 hi2 hm hm2
          · intro h a b c d k1 k2
            obtain ⟨rfl, rfl⟩ := met_one hm k1
            obtain ⟨rfl, rfl⟩ := met_one hm2 k2
            exact h
        have hD7 := s37 _ _ hD
        refine ite2 (fun e => ?_) (fun e => ?_)
        · refine ⟨_, rfl, is.map _, hD7, ?_, fun b o e => ?_, is ++ [j], ?_, ?_, ?_, fun i => ?_⟩
          · rw [List.length_map]
            exact Nat.lt_of_lt_of_le (show is.length < 5 by omega) (by decide)
          · rw [upd_ne (ne_of_none e nD)]
            exact s37 _ _ (s3 _ _ e)
          · rw [upd_same, List.map_append]
            rfl
          · rw [List.length_append]
            exact Nat.succ_le_succ hlen
          · rw [List.pairwise_append]
            refine ⟨hpw, List.pairwise_singleton .., fun a ha b hb => ?_⟩
            rw [List.mem_singleton.mp hb]
            exact ((hmem a).mp ha).1
          · rw [List.mem_append, List.mem_singleton, hmem]
            constructor
            · rintro (h | rfl)
              · exact ⟨by omega, h.2⟩
              · exact ⟨Nat.lt_succ_self _, hneed.mpr (by simpa using e)⟩
            · rintro ⟨h1, h2⟩
              rcases Nat.lt_or_ge i j with w | w
              · exact .inl ⟨w, h2⟩
              · exact .inr (by omega)
        · refine ⟨s3.trans s37, is, hD7, by omega, hpw, fun i => ?_⟩
          rw [hmem]
          constructor
          · rintro ⟨h1, h2⟩
            exact ⟨by omega, h2⟩
          · rintro ⟨h1, h2⟩
            rcases Nat.lt_or_ge i j with w | w
            · exact ⟨w, h2⟩
            · have : i = j := by omega
              subst this
              exact absurd (hneed.mp h2) (by simpa using e)
      · rintro H3 ⟨s3, is, hD, hlen, hpw, hmem⟩
        refine .inl ⟨D, _, rfl, SqL.of hD, fun u nu => ?_⟩
        exact q is u _ (((s1.trans s2).trans s3).trans (same_upd nu)) (SqT.of upd_same) hpw (fun i => by rw [hmem]; exact ⟨fun h => ⟨h.1, .inr h.2⟩, fun h => ⟨h.1, h.2.resolve_left hn⟩⟩)
end
end My

namespace My
open PySem PySem.Spec PyProof.Rows L2
/-! ### sums of rows -/
abbrev nAddedUp : List Str := ["ranges", "low", "_", "high"]
def sumL (rs : List (Int × Int)) : Int := (rs.map (·.1)).sum
def sumH (rs : List (Int × Int)) : Int := (rs.map (·.2)).sum
def spAddedUp (K : PySem.W.Frag) : Sp := fun vs H Q _ => ∃ (F : Addr) (rs : List (Int × Int)), vs = [.ref F] ∧ PrAt K H F rs ∧ rs.length ≤ 12 ∧ ∀ (p : Addr) (H' : Hp), Same H H' → SqT K H' p [.int (sumL rs), .int (sumH rs)] → Q (.ref p) H'
def spSumRange (K : PySem.W.Frag) (C : Addr) : Sp := fun vs H Q _ => ∃ (a t : Addr) (us : List (Str × Int)) (d : Nat) (s : Str) (c : Bool) (l : Int) (ks : List FKey), vs = [.ref a, .ref t] ∧ LadAt K C H a us d s c l ∧ Good us d s l ∧ SqT K H t (ks.map fun k => V.str (textK us d k)) ∧
  ks.length ≤ 12 ∧ (∀ k ∈ ks, KeyOk us k) ∧ ((∃ k ∈ ks, highK us d s c l k < lowK us d s c l k) → ∀ H', Same H H' → Q .non H') ∧
  ((∀ k ∈ ks, lowK us d s c l k ≤ highK us d s c l k) → ∀ (p : Addr) (H' : Hp), Same H H' → SqT K H' p [.int (sumL (prsOf us d s c l ks)), .int (sumH (prsOf us d s c l ks))] → Q (.ref p) H')
section
variable {P : Program} {w : World} {K : PySem.W.Frag} {mg : Str → Option Value} {base : Heap}
end
end My

namespace My
open PySem PySem.Spec PyProof.Rows L2
/-! ### the figures of the sums -/
abbrev nTotals : List Str := ["ladder", "texts", "sums", "low", "high", "many"]
abbrev sumLK (us : List (Str × Int)) (d : Nat) (s : Str) (c : Bool) (l : Int) (ks : List FKey) : Int := sumL (prsOf us d s c l ks)
abbrev sumHK (us : List (Str × Int)) (d : Nat) (s : Str) (c : Bool) (l : Int) (ks : List FKey) : Int := sumH (prsOf us d s c l ks)
/-- how many figures are shown from x to y -/
def manyM (us : List (Str × Int)) (d : Nat) (s : Str) (c : Bool) (l x y : Int) : Int := fbM us d s c l y - fbM us d s c l x + 1
/-- rows that may be asked about, whose sums are not too great -/
def RowsIn (us : List (Str × Int)) (d : Nat) (s : Str) (c : Bool) (l : Int) (ks : List FKey) : Prop := ks.length ≤ 12 ∧ (∀ k ∈ ks, KeyOk us k) ∧ ((∀ k ∈ ks, lowK us d s c l k ≤ highK us d s c l k) → sumHK us d s c l ks ≤ 1000000000000000000000000000000)
theorem sums_nn {us : List (Str × Int)} {d : Nat} {s : Str} {c : Bool} {l : Int} (g : Good us d s l) : ∀ {ks : List FKey}, (∀ k ∈ ks, KeyOk us k) → (∀ k ∈ ks, lowK us d s c l k ≤ highK us d s c l k) → 0 ≤ sumLK us d s c l ks ∧ sumLK us d s c l ks ≤ sumHK us d s c l ks
  | [], _, _ => by
    show (0 : Int) ≤ 0 ∧ (0 : Int) ≤ 0
    omega
  | k :: r, h1, h2 => by
    obtain ⟨a1, a2⟩ := sums_nn g (ks := r) (fun x hx => h1 x (List.mem_cons_of_mem _ hx)) fun x hx => h2 x (List.mem_cons_of_mem _ hx)
    have a3 := low_nn (c := c) g (h1 k (List.mem_cons_self ..)).1 k.2
    have a4 := h2 k (List.mem_cons_self ..)
    have e1 : sumLK us d s c l (k :: r) = lowK us d s c l k + sumLK us d s c l r := rfl
    have e2 : sumHK us d s c l (k :: r) = highK us d s c l k + sumHK us d s c l r := rfl
    rw [e1, e2]
    have a5 : 0 ≤ lowK us d s c l k := a3
    omega
def spTotals (K : PySem.W.Frag) (C : Addr) : Sp := fun vs H Q _ => ∃ (a t : Addr) (us : List (Str × Int)) (d : Nat) (s : Str) (c : Bool) (l : Int) (ks : List FKey), vs = [.ref a, .ref t] ∧ LadAt K C H a us d s c l ∧ Good us d s l ∧ SqT K H t (ks.map fun k => V.str (textK us d k)) ∧
  RowsIn us d s c l ks ∧ ((∃ k ∈ ks, highK us d s c l k < lowK us d s c l k) → ∀ H', Same H H' → Q .non H') ∧
  ((∀ k ∈ ks, lowK us d s c l k ≤ highK us d s c l k) → ∀ (p : Addr) (H' : Hp), Same H H' → SqT K H' p [.str (shown us d s c l (sumLK us d s c l ks)), .str (shown us d s c l (sumHK us d s c l ks)), .int (manyM us d s c l (sumLK us d s c l ks) (sumHK us d s c l ks))] → Q (.ref p) H')
def spSureT (K : PySem.W.Frag) (C : Addr) : Sp := fun vs H Q _ => ∃ (a t : Addr) (us : List (Str × Int)) (d : Nat) (s : Str) (c : Bool) (l : Int) (ks : List FKey), vs = [.ref a, .ref t] ∧ LadAt K C H a us d s c l ∧ Good us d s l ∧ SqT K H t (ks.map fun k => V.str (textK us d k)) ∧
  RowsIn us d s c l ks ∧ ((∃ k ∈ ks, highK us d s c l k < lowK us d s c l k) → ∀ H', Same H H' → Q .non H') ∧
  ((∀ k ∈ ks, lowK us d s c l k ≤ highK us d s c l k) → ∀ H', Same H H' → Q (if 1 < manyM us d s c l (sumLK us d s c l ks) (sumHK us d s c l ks) then .non else .str (shown us d s c l (sumLK us d s c l ks))) H')
section
variable {P : Program} {w : World} {K : PySem.W.Frag} {mg : Str → Option Value} {base : Heap}
end
end My

namespace My
open PySem PySem.Spec PyProof.Rows L2
/-- Ladder.__init__ with its keyword-only defaults -/
abbrev LadD (K : PySem.W.Frag) (f : Addr) (fd : FuncData) : Prop := FunD K "__init__" "Ladder.__init__" (defArgs sLInit) (defBody sLInit) (defScope sLInit) [] [("carry", .bl true), ("least", .int 1)] f fd
theorem kb_least {K : PySem.W.Frag} {f : Addr} {fd : FuncData} (F : LadD K f fd) : ∃ mv : List Value, KBn K fd ["self", "units", "decimals", "rounding", "carry", "least"] 4 ["least"] (fun us ws => us ++ mv ++ ws) (fun vs zs => vs ++ [V.bl true] ++ zs) :=
  F.kbinds0 4 ["least"] [("carry", .bl true)] (fun us mv ws => us ++ mv ++ ws) (by simp) (by simp) (fun r1 r2 r3 => (r1.append r2).append r3) (fun D doc pm an cdv ct us mv ws h1 h2 h3 => by
    match us, mv, ws, h1, h2, h3 with
    | [_, _, _, _], [_], [_], _, _, _ => exact ⟨_, _, _, _, _, _, rfl, rfl, rfl⟩)
end My

namespace My
open PySem PySem.Spec PyProof.Rows L2
/-! ### data stands as what was tracked stands -/
theorem same_sql {K : PySem.W.Frag} {a : Addr} {xs : List V} {H H' : Hp} (b : Same H H') (h : SqL K H a xs) : SqL K H' a xs := by
  rcases h with (h | ⟨o, h⟩) | h
  · exact .inl (.inl (b _ _ h))
  · exact .inl (.inr ⟨o, b _ _ h⟩)
  · exact .inr h
mutual
theorem dp_same {K : PySem.W.Frag} {H H' : Hp} (b : Same H H') : ∀ (d : PyData) (v : V), Dp K H v d → Dp K H' v d
  | .none, _, h => by
    cases h
    exact .non
  | .bool _, _, h => by
    cases h
    exact .bl _
  | .int _, _, h => by
    cases h
    exact .int _
  | .str _, _, h => by
    cases h
    exact .str _
  | .list ds, _, h => by
    cases h with
    | lst hs ha => exact .lst (same_sql b hs) (dpAll_same b ds _ ha)
  | .tuple ds, _, h => by
    cases h with
    | tup hs ha => exact .tup (same_sqt b hs) (dpAll_same b ds _ ha)
  | .dict _, _, h => by cases h
theorem dpAll_same {K : PySem.W.Frag} {H H' : Hp} (b : Same H H') : ∀ (ds : List PyData) (vs : List V), DpAll K H vs ds → DpAll K H' vs ds
  | [], _, h => by
    cases h
    exact .nil
  | d :: ds, _, h => by
    cases h with
    | cons h1 h2 => exact .cons (dp_same b d _ h1) (dpAll_same b ds _ h2)
end
theorem dpAll_app {K : PySem.W.Frag} {H : Hp} : ∀ {ds es : List PyData} {vs ws : List V}, DpAll K H vs ds → DpAll K H ws es → DpAll K H (vs ++ ws) (ds ++ es)
  | [], _, _, _, h, k => by
    cases h
    exact k
  | _ :: _, _, _, _, h, k => by
    cases h with
    | cons h1 h2 => exact .cons h1 (dpAll_app h2 k)
end My

namespace My
open PySem PySem.Spec PyProof.Rows L2
/-! ### ladders of one kind -/
/-- the place is settled by where the units start -/
theorem place_by {us us' : List (Str × Int)} {d d' : Nat} {s s' : Str} {c c' : Bool} {l l' x : Int} (g : Good us d s l) (g' : Good us' d' s' l') (x0 : 0 ≤ x)
    (h1 : (placedM us d s c l x).1 < us'.length) (h2 : (placedM us' d' s' c' l' x).1 < us.length)
    (h : ∀ p, p < us.length → p < us'.length → startM us d s c l p = startM us' d' s' c' l' p) : (placedM us d s c l x).1 = (placedM us' d' s' c' l' x).1 := by
  have a1 := (placedM_ok (c := c) g x0).1
  have b1 := (placedM_ok (c := c') g' x0).1
  have p1 := (place_ge (c := c) g x0 a1).mp (Nat.le_refl _)
  have p2 := (place_ge (c := c') g' x0 b1).mp (Nat.le_refl _)
  have q1 := (place_ge (c := c') g' x0 h1).mpr (by rw [← h _ a1 h1]; exact p1)
  have q2 := (place_ge (c := c) g x0 h2).mpr (by rw [h _ h2 b1]; exact p2)
  omega
theorem unlike_is {A X : Lad} {n0 : Int} {r : Option Int} (h : Unlike A X r) (n1 : 0 ≤ n0) (n2 : n0 < 10 ^ 38) (h1 : ∀ x, 0 ≤ x → x < n0 → A.show x = X.show x) (h2 : A.show n0 ≠ X.show n0) : r = some n0 := by
  cases r with
  | none => exact absurd (h n0 n1 n2) h2
  | some n =>
    obtain ⟨m0, m1, hne, hmin⟩ := h
    rcases Int.lt_trichotomy n n0 with y | y | y
    · exact absurd (h1 n m0 y) hne
    · rw [y]
    · exact absurd (hmin n0 n1 y) h2
theorem unlike_not {A X : Lad} {n0 : Int} {r : Option Int} (h : Unlike A X r) (n1 : 0 ≤ n0) (n2 : n0 < 10 ^ 38) (h2 : A.show n0 ≠ X.show n0) : r ≠ none := by
  intro e
  subst e
  exact h2 (h n0 n1 n2)
/-- rounded down, no mark is carried -/
theorem down_same {us : List (Str × Int)} {d : Nat} {l x : Int} {c c' : Bool} (g : Good us d "down" l) (x0 : 0 ≤ x) : shown us d "down" c l x = shown us d "down" c' l x := by
  unfold shown
  rw [placed_down (c := c) g x0, placed_down (c := c') g x0]
/-- with up to two units none is carried either -/
theorem short_same {us : List (Str × Int)} {d : Nat} {s : Str} {l x : Int} {c c' : Bool} (g : Good us d s l) (hl : us.length ≤ 2) (x0 : 0 ≤ x) : shown us d s c l x = shown us d s c' l x := by
  have a1 := (placedM_ok (c := c) g x0).1
  have b1 := (placedM_ok (c := c') g x0).1
  have e := place_by (c := c) (c' := c') g g x0 a1 b1 (fun p hp _ => by
    rcases Nat.lt_or_ge p 1 with y | y
    · have : p = 0 := by omega
      subst this
      unfold startM
      rw [if_pos (.inl rfl), if_pos (.inl rfl)]
    · have : p = 1 := by omega
      subst this
      rw [start_one, start_one])
  unfold shown
  rw [placed_snd us d s c, placed_snd us d s c', e]
theorem ones_good : Good [("one", 1)] 0 "down" 1 := by
  refine ⟨⟨by decide, by decide, fun i u hu => ?_⟩, by decide, fun u hu => by simp at hu, by unfold sorts; simp, by decide, by decide⟩
  cases i with
  | zero =>
    have e : (("one" : Str), (1 : Int)) = u := Option.some.inj hu
    subst e
    exact ⟨good_one, by decide, by decide, .inl ⟨rfl, rfl⟩⟩
  | succ k => simp at hu
theorem ones_chg {c : Bool} {n : Int} (n1 : 1 ≤ n) : Chg [("one", 1)] 0 "down" c 1 n := by
  intro e
  rw [placed_down ones_good (by omega), placed_down ones_good (by omega)] at e
  have hst : ∀ x, 0 ≤ x → stOf [("one", 1)] 0 1 x = 1 := fun x x0 => by
    have hp := place_lt ones_good x0
    have : placeOf [("one", 1)] 1 x = 0 := by
      have : placeOf [("one", 1)] 1 x < 1 := hp
      omega
    unfold stOf
    rw [this]
    rfl
  have e2 := (Prod.mk.inj e).2
  rw [hst _ (by omega), hst _ (by omega), Int.ediv_one, Int.ediv_one] at e2
  omega
/-! near and even -/
theorem near_even {us : List (Str × Int)} {d : Nat} {l x : Int} (g : Good us d "near" l) (g' : Good us d "even" l) (x0 : 0 ≤ x) (x1 : x < 10 ^ 39) {p : Nat} (hp : (placedM us d "near" false l x).1 = p) :
    shown us d "near" false l x ≠ shown us d "even" false l x ↔ 2 * (x % (stepsOf us d).getD p 0) = (stepsOf us d).getD p 0 ∧ x / (stepsOf us d).getD p 0 % 2 = 0 := by
  obtain ⟨a1, a2, a3⟩ := placedM_ok (c := false) g x0
  obtain ⟨b1, b2, b3⟩ := placedM_ok (c := false) g' x0
  have ep : (placedM us d "near" false l x).1 = (placedM us d "even" false l x).1 := place_by (c := false) (c' := false) g g' x0 a1 b1 (fun p _ _ => by
    unfold startM
    rw [if_pos (.inr rfl), if_pos (.inr rfl)])
  have e1 := placed_snd us d "near" false l x
  have e2 := placed_snd us d "even" false l x
  rw [← ep, hp] at e2
  rw [hp] at e1 a1
  rw [← ep, hp] at b1
  obtain ⟨_, st0, _⟩ := steps_ok g a1
  have key : rnd x ((stepsOf us d).getD p 0) "near" ≠ rnd x ((stepsOf us d).getD p 0) "even" ↔ 2 * (x % (stepsOf us d).getD p 0) = (stepsOf us d).getD p 0 ∧ x / (stepsOf us d).getD p 0 % 2 = 0 := by
    generalize (stepsOf us d).getD p 0 = st at st0
    have u1 : goesUp (x / st) (x % st) st "near" = decide (st ≤ 2 * (x % st)) := by
      unfold goesUp
      rw [if_neg (show ¬ ("near" : Str) = "up" by decide), if_pos rfl]
    have u2 : goesUp (x / st) (x % st) st "even" = (decide (st < 2 * (x % st)) || (decide (2 * (x % st) = st) && decide (x / st % 2 = 1))) := by
      unfold goesUp
      rw [if_neg (show ¬ ("even" : Str) = "up" by decide), if_neg (show ¬ ("even" : Str) = "near" by decide), if_pos rfl]
    unfold rnd
    rw [u1, u2]
    by_cases h1 : st < 2 * (x % st)
    · rw [decide_eq_true (show st ≤ 2 * (x % st) by omega), decide_eq_true h1, Bool.true_or]
      simp only [if_true]
      constructor
      · intro k
        exact absurd rfl k
      · intro k
        omega
    · rw [decide_eq_false h1, Bool.false_or]
      by_cases h2 : 2 * (x % st) = st
      · rw [decide_eq_true (show st ≤ 2 * (x % st) by omega), decide_eq_true h2, Bool.true_and, if_pos rfl]
        by_cases h3 : x / st % 2 = 1
        · rw [decide_eq_true h3, if_pos rfl]
          constructor
          · intro k
            exact absurd rfl k
          · intro k
            omega
        · rw [decide_eq_false h3, if_neg Bool.false_ne_true]
          constructor
          · intro k
            exact ⟨h2, by omega⟩
          · intro k
            omega
      · rw [decide_eq_false (show ¬ st ≤ 2 * (x % st) by omega), decide_eq_false h2, Bool.false_and, if_neg Bool.false_ne_true]
        constructor
        · intro k
          exact absurd rfl k
        · intro k
          exact absurd k.1 h2
  rw [← key]
  unfold shown
  rw [← ep, hp, e1, e2]
  constructor
  · intro k e
    rw [e] at k
    exact k rfl
  · intro k e
    have := writ_inj g.u g.d3 a1 a1 (by rw [← e1]; exact a2) (by rw [← e2]; exact b2) (by rw [← e1]; omega) (by rw [← e2]; omega) e
    exact k this.2
/-- the first half behind a start whose mark is even -/
def halfM (us : List (Str × Int)) (d : Nat) (l : Int) (p : Nat) : Int := (thrsOf us l).getD p 0 + (stepsOf us d).getD p 0 / 2 * (if (thrsOf us l).getD p 0 / (stepsOf us d).getD p 0 % 2 = 0 then 1 else 3)
theorem even_step {us : List (Str × Int)} {d : Nat} {s : Str} {l : Int} (g : Good us d s l) {p : Nat} (h1 : 1 ≤ p) (hp : p < us.length) : (stepsOf us d).getD p 0 % 2 = 0 := by
  obtain ⟨k, rfl⟩ : ∃ k, p = k + 1 := ⟨p - 1, by omega⟩
  have hu : us[k + 1]? = some us[k + 1] := List.getElem?_eq_getElem hp
  have hd : us[k + 1] ∈ us.drop 1 := List.mem_of_getElem? (i := k) (by rw [List.getElem?_drop, Nat.add_comm 1 k]; exact hu)
  have e1 := g.div _ hd
  rw [step_at h1 hp, szOf_at hu]
  have pw := pow_lo d
  obtain ⟨q, hq⟩ := Int.dvd_of_emod_eq_zero e1
  rw [hq, Int.mul_comm 2 (10 ^ d), Int.mul_assoc, Int.mul_ediv_cancel_left _ (by omega)]
  omega
theorem half_ok {us : List (Str × Int)} {d : Nat} {s : Str} {l : Int} (g : Good us d s l) {p : Nat} (h1 : 1 ≤ p) (hp : p < us.length) : (thrsOf us l).getD p 0 ≤ halfM us d l p ∧ halfM us d l p ≤ (thrsOf us l).getD p 0 + 2000000000000000000 ∧
    2 * (halfM us d l p % (stepsOf us d).getD p 0) = (stepsOf us d).getD p 0 ∧ halfM us d l p / (stepsOf us d).getD p 0 % 2 = 0 ∧
    ∀ x, (thrsOf us l).getD p 0 ≤ x → 2 * (x % (stepsOf us d).getD p 0) = (stepsOf us d).getD p 0 → x / (stepsOf us d).getD p 0 % 2 = 0 → halfM us d l p ≤ x := by
  have ev := even_step g h1 hp
  obtain ⟨_, st0, st1⟩ := steps_ok g hp
  obtain ⟨ef, f0⟩ := thr_fm g hp
  have eb : (thrsOf us l).getD p 0 / (stepsOf us d).getD p 0 = fmM us d l p := rfl
  unfold halfM
  rw [eb]
  rw [ef]
  generalize fmM us d l p = f at f0
  generalize (stepsOf us d).getD p 0 = st at ev st0 st1
  obtain ⟨h, rfl⟩ : ∃ h, st = 2 * h := ⟨st / 2, by omega⟩
  have eh : 2 * h / 2 = h := by omega
  rw [eh]
  have hh : 0 < h := by omega
  have md : ∀ k : Int, (k * (2 * h) + h) % (2 * h) = h ∧ (k * (2 * h) + h) / (2 * h) = k := fun k => by
    have e1 : (k * (2 * h) + h) % (2 * h) = h := by
      rw [Int.add_comm, Int.add_mul_emod_self_right]
      exact Int.emod_eq_of_lt (by omega) (by omega)
    refine ⟨e1, ?_⟩
    have := Int.mul_ediv_add_emod (k * (2 * h) + h) (2 * h)
    rw [e1] at this
    have h3 : (2 * h) * ((k * (2 * h) + h) / (2 * h)) = (2 * h) * k := by rw [Int.mul_comm (2 * h) k]; omega
    exact Int.eq_of_mul_eq_mul_left (by omega) h3
  have low : ∀ x, f * (2 * h) ≤ x → 2 * (x % (2 * h)) = 2 * h → x / (2 * h) % 2 = 0 → ∃ k, f ≤ k ∧ k % 2 = 0 ∧ x = k * (2 * h) + h := fun x hx h2 h3 => by
    have := Int.mul_ediv_add_emod x (2 * h)
    refine ⟨x / (2 * h), (Int.le_ediv_iff_mul_le (by omega)).mpr hx, h3, ?_⟩
    rw [Int.mul_comm (x / (2 * h))]
    omega
  have big : ∀ k k' : Int, k ≤ k' → k * (2 * h) ≤ k' * (2 * h) := fun k k' e => Int.mul_le_mul_of_nonneg_right e (by omega)
  split
  · rename_i z
    rw [Int.mul_one]
    obtain ⟨m1, m2⟩ := md f
    rw [m1, m2]
    refine ⟨by omega, by omega, rfl, z, fun x hx h2 h3 => ?_⟩
    obtain ⟨k, k1, _, rfl⟩ := low x hx h2 h3
    have := big f k k1
    omega
  · rename_i z
    have e3 : f * (2 * h) + h * 3 = (f + 1) * (2 * h) + h := by
      rw [Int.add_mul]
      omega
    rw [e3]
    obtain ⟨m1, m2⟩ := md (f + 1)
    rw [m1, m2]
    have e4 : (f + 1) * (2 * h) = f * (2 * h) + 2 * h := by rw [Int.add_mul, Int.one_mul]
    refine ⟨by omega, by omega, rfl, by omega, fun x hx h2 h3 => ?_⟩
    obtain ⟨k, k1, k2, rfl⟩ := low x hx h2 h3
    have := big (f + 1) k (by omega)
    omega
end My

/-! the widest ranges: which marks have to be asked -/
namespace My
open PySem PySem.Spec PyProof.Rows L2
/-- of a unit: its first three marks and its last one -/
def tms (f t : Int) : List Int := [f, f + 1, f + 2, t].filter fun m => decide (m ≤ t)
section
variable (us : List (Str × Int)) (d : Nat) (s : Str) (c : Bool) (l : Int)
def foundK : Nat → List FKey
  | 0 => []
  | p + 1 => foundK p ++ (tms (fmM us d l p) (lmM us d s c l p)).map fun m => (p, m)
def wkeys (n : Int) : List FKey := foundK us d s c l (placedM us d s c l n).1 ++ (tms (fmM us d l (placedM us d s c l n).1) (placedM us d s c l n).2).map fun m => ((placedM us d s c l n).1, m)
def wK (k : FKey) : Int := highK us d s c l k - lowK us d s c l k + 1
/-- the range is the first one of those with the most numbers, among the figures of 0 to n -/
def Widest (n lo hi : Int) : Prop := (∃ k : FKey, k.1 < us.length ∧ 0 ≤ k.2 ∧ lowK us d s c l k = lo ∧ highK us d s c l k = hi ∧ lo ≤ hi ∧ lo ≤ n) ∧ ∀ y, 0 ≤ y → y ≤ n → wK us d s c l (placedM us d s c l y) ≤ hi - lo + 1 ∧ (wK us d s c l (placedM us d s c l y) = hi - lo + 1 → lo ≤ lowK us d s c l (placedM us d s c l y))
end
section
variable {us : List (Str × Int)} {d : Nat} {s : Str} {c : Bool} {l : Int}
theorem tms_in {f t m : Int} (h : m ∈ tms f t) : m ≤ t ∧ (m = f ∨ m = f + 1 ∨ m = f + 2 ∨ m = t) := by
  unfold tms at h
  rw [List.mem_filter, decide_eq_true_eq] at h
  refine ⟨h.2, ?_⟩
  simpa using h.1
theorem in_tms {f t m : Int} (h : m ≤ t) (e : m = f ∨ m = f + 1 ∨ m = f + 2 ∨ m = t) : m ∈ tms f t := by
  unfold tms
  rw [List.mem_filter, decide_eq_true_eq]
  exact ⟨by simpa using e, h⟩
theorem tms_sorted {f t : Int} : (tms f t).Pairwise (· ≤ ·) := by
  unfold tms
  by_cases h0 : f ≤ t <;> by_cases h1 : f + 1 ≤ t <;> by_cases h2 : f + 2 ≤ t <;> simp [h0, h1, h2] <;> omega
theorem stp_at (g : Good us d s l) {p : Nat} (hp : p < us.length) : 0 < (stepsOf us d).getD p 0 := (steps_ok g hp).2.1
/-- a number's unit and mark -/
theorem at_unit (g : Good us d s l) {n : Int} (n0 : 0 ≤ n) : (placedM us d s c l n).1 < us.length ∧ fmM us d l (placedM us d s c l n).1 ≤ (placedM us d s c l n).2 ∧ ((placedM us d s c l n).1 + 1 < us.length → (placedM us d s c l n).2 ≤ lmM us d s c l (placedM us d s c l n).1) := by
  obtain ⟨k1, k2, k3⟩ := placedM_ok (c := c) g n0
  have hp : (placedM us d s c l n).1 < us.length := by first | exact k2 | exact k1
  refine ⟨hp, ?_, fun h => ?_⟩
  · rw [← start_mark (c := c) g hp]
    conv => rhs; rw [placed_snd]
    exact rnd_mono g.srt (step_even g hp) (stp_at g hp) (start_nn g hp) ((place_ge g n0 hp).mp (Nat.le_refl _))
  · have h1 : ¬ (placedM us d s c l n).1 + 1 ≤ (placedM us d s c l n).1 := by omega
    rw [place_ge g n0 h] at h1
    unfold lmM
    conv => lhs; rw [placed_snd]
    exact rnd_mono g.srt (step_even g hp) (stp_at g hp) n0 (by omega)
theorem mark_mono7 (g : Good us d s l) {n n' : Int} (n0 : 0 ≤ n) (h : n ≤ n') (e : (placedM us d s c l n).1 = (placedM us d s c l n').1) : (placedM us d s c l n).2 ≤ (placedM us d s c l n').2 := by
  have hp := (at_unit (c := c) g n0).1
  rw [placed_snd, placed_snd us d s c l n', ← e]
  exact rnd_mono g.srt (step_even g hp) (stp_at g hp) n0 h
/-- inside a unit -/
theorem inner (g : Good us d s l) {p : Nat} (hp : p < us.length) {m t : Int} (h1 : fmM us d l p + 1 ≤ m) (h2 : m + 1 ≤ t) (h3 : p + 1 < us.length → t ≤ lmM us d s c l p) : lowM us d s c l p m = firstR m ((stepsOf us d).getD p 0) s ∧ highM us d s c l p m = firstR (m + 1) ((stepsOf us d).getD p 0) s - 1 := by
  have f0 := (thr_fm g hp).2
  have st0 := stp_at g hp
  constructor
  · have e : ¬ firstR m ((stepsOf us d).getD p 0) s ≤ startM us d s c l p := fun w => by
      have := (rnd_ge g.srt (step_even g hp) st0 (start_nn (c := c) g hp) (by omega)).mpr w
      rw [start_mark g hp] at this
      omega
    unfold lowM max2
    rw [if_neg (by omega)]
  · unfold highM
    by_cases hl : p + 1 < us.length
    · rw [if_pos hl]
      have h4 := h3 hl
      have h5 := start_strict (c := c) g hl
      have h6 := start_nn (c := c) g hp
      have h7 : firstR (m + 1) ((stepsOf us d).getD p 0) s ≤ startM us d s c l (p + 1) - 1 := (rnd_ge g.srt (step_even g hp) st0 (by omega) (by omega)).mp (by
        have : lmM us d s c l p = rnd (startM us d s c l (p + 1) - 1) ((stepsOf us d).getD p 0) s := rfl
        omega)
      unfold min2
      rw [if_neg (by omega)]
    · rw [if_neg hl]
theorem width_two (g : Good us d s l) {p : Nat} (hp : p < us.length) {m t : Int} (h1 : fmM us d l p + 1 ≤ m) (h3 : p + 1 < us.length → t ≤ lmM us d s c l p) : ∀ k : Nat, m + 2 * (k : Int) + 1 ≤ t → wK us d s c l (p, m + 2 * (k : Int)) = wK us d s c l (p, m)
  | 0, h2 => by
    rw [show m + 2 * ((0 : Nat) : Int) = m by omega]
  | k + 1, h2 => by
    have ih := width_two g hp h1 h3 k (by omega)
    rw [← ih]
    have f0 := (thr_fm g hp).2
    obtain ⟨a1, a2⟩ := inner (c := c) g hp (m := m + 2 * (k : Int)) (t := t) (by omega) (by omega) h3
    obtain ⟨b1, b2⟩ := inner (c := c) g hp (m := m + 2 * ((k + 1 : Nat) : Int)) (t := t) (by omega) (by omega) h3
    have S := g.stp hp
    have e1 := firstR_two (m := m + 2 * (k : Int)) S (by omega)
    have e2 := firstR_two (m := m + 2 * (k : Int) + 1) S (by omega)
    unfold wK lowK highK
    show highM us d s c l p _ - lowM us d s c l p _ + 1 = highM us d s c l p _ - lowM us d s c l p _ + 1
    rw [a1, a2, b1, b2]
    rw [show m + 2 * ((k + 1 : Nat) : Int) = m + 2 * (k : Int) + 2 by omega, show m + 2 * (k : Int) + 2 + 1 = m + 2 * (k : Int) + 1 + 2 by omega, e1, e2]
    omega
/-- what is told of a unit is shown -/
theorem told_shown (g : Good us d s l) {p : Nat} (hp : p < us.length) {m t : Int} (h1 : fmM us d l p ≤ m) (h2 : m ≤ t) (h3 : p + 1 < us.length → t ≤ lmM us d s c l p) : lowM us d s c l p m ≤ highM us d s c l p m := is_shown g hp h1 fun h => Int.le_trans h2 (h3 h)
theorem low_lex (g : Good us d s l) {p p' : Nat} (hp : p < us.length) (hp' : p' < us.length) {m m' : Int} (m0 : 0 ≤ m) (m0' : 0 ≤ m') (s1 : lowM us d s c l p m ≤ highM us d s c l p m) (s2 : lowM us d s c l p' m' ≤ highM us d s c l p' m') (h : p < p' ∨ (p = p' ∧ m ≤ m')) : lowM us d s c l p m ≤ lowM us d s c l p' m' := by
  rcases h with h | ⟨rfl, h⟩
  · rcases Int.lt_or_le (lowM us d s c l p' m') (lowM us d s c l p m) with w | w
    · have := place_mono (c := c) g (low_nn g hp' m') (Int.le_of_lt w)
      rw [low_place g hp m0 s1, low_place g hp' m0' s2] at this
      have : p' ≤ p := this
      omega
    · exact w
  · rcases Int.lt_or_le (lowM us d s c l p m') (lowM us d s c l p m) with w | w
    · have := mark_mono7 (c := c) g (low_nn g hp' m') (Int.le_of_lt w) (by rw [low_place g hp m0 s1, low_place g hp' m0' s2])
      rw [low_place g hp m0 s1, low_place g hp' m0' s2] at this
      have h4 : m' ≤ m := this
      have : m = m' := by omega
      rw [this]
      exact Int.le_refl _
    · exact w
theorem found_in : ∀ {P : Nat} {k : FKey}, k ∈ foundK us d s c l P → k.1 < P ∧ k.2 ∈ tms (fmM us d l k.1) (lmM us d s c l k.1)
  | 0, k, h => by cases h
  | P + 1, k, h => by
    have h : k ∈ foundK us d s c l P ++ (tms (fmM us d l P) (lmM us d s c l P)).map fun m => (P, m) := h
    rcases List.mem_append.mp h with h | h
    · have := found_in h
      exact ⟨by omega, this.2⟩
    · obtain ⟨m, hm, rfl⟩ := List.mem_map.mp h
      exact ⟨Nat.lt_succ_self _, hm⟩
theorem in_found : ∀ {P p : Nat} {m : Int}, p < P → m ∈ tms (fmM us d l p) (lmM us d s c l p) → (p, m) ∈ foundK us d s c l P
  | 0, p, m, h, _ => absurd h (Nat.not_lt_zero _)
  | P + 1, p, m, h, hm => by
    show (p, m) ∈ foundK us d s c l P ++ (tms (fmM us d l P) (lmM us d s c l P)).map fun m => (P, m)
    by_cases e : p = P
    · subst e
      exact List.mem_append_right _ (List.mem_map_of_mem hm)
    · exact List.mem_append_left _ (in_found (by omega) hm)
/-- a key that is asked: where it stands, and that it is shown -/
theorem asked (g : Good us d s l) {n : Int} (n0 : 0 ≤ n) {k : FKey} (h : k ∈ wkeys us d s c l n) : k.1 ≤ (placedM us d s c l n).1 ∧ k.1 < us.length ∧ 0 ≤ k.2 ∧ lowK us d s c l k ≤ highK us d s c l k ∧ (k.1 = (placedM us d s c l n).1 → k.2 ≤ (placedM us d s c l n).2) := by
  obtain ⟨u1, u2, u3⟩ := at_unit (c := c) g n0
  unfold wkeys at h
  rcases List.mem_append.mp h with h | h
  · obtain ⟨a1, a2⟩ := found_in h
    obtain ⟨b1, b2⟩ := tms_in a2
    have hp : k.1 < us.length := by omega
    have f0 := (thr_fm g hp).2
    have lf := lm_ge (c := c) g (p := k.1) (by omega)
    exact ⟨by omega, hp, by omega, told_shown g hp (by omega) b1 fun _ => Int.le_refl _, fun e => by omega⟩
  · obtain ⟨m, hm, rfl⟩ := List.mem_map.mp h
    obtain ⟨b1, b2⟩ := tms_in hm
    have f0 := (thr_fm g u1).2
    have h3 : fmM us d l (placedM us d s c l n).1 ≤ m := by omega
    exact ⟨Nat.le_refl _, u1, by show 0 ≤ m; omega, told_shown g u1 h3 b1 u3, fun _ => b1⟩
theorem pair_map {p : Nat} {f : Int → FKey} {R : FKey → FKey → Prop} {ms : List Int} (h : ms.Pairwise (· ≤ ·)) (hr : ∀ a ∈ ms, ∀ b ∈ ms, a ≤ b → R (f a) (f b)) : (ms.map f).Pairwise R := by
  rw [List.pairwise_map]
  exact List.Pairwise.imp_of_mem (fun {a b} ha hb hab => hr a ha b hb hab) h
theorem found_sorted (g : Good us d s l) : ∀ {P : Nat}, P < us.length → (foundK us d s c l P).Pairwise fun a b => lowK us d s c l a ≤ lowK us d s c l b
  | 0, _ => .nil
  | P + 1, hP => by
    show (foundK us d s c l P ++ (tms (fmM us d l P) (lmM us d s c l P)).map fun m => (P, m)).Pairwise _
    have f0 := (thr_fm g (p := P) (by omega)).2
    have lf := lm_ge (c := c) g (p := P) hP
    have sh : ∀ m, m ∈ tms (fmM us d l P) (lmM us d s c l P) → 0 ≤ m ∧ lowM us d s c l P m ≤ highM us d s c l P m := fun m hm => by
      obtain ⟨b1, b2⟩ := tms_in hm
      exact ⟨by omega, told_shown g (by omega) (by omega) b1 fun _ => Int.le_refl _⟩
    rw [List.pairwise_append]
    refine ⟨found_sorted g (by omega), pair_map (p := P) tms_sorted fun a ha b hb hab => ?_, fun a ha b hb => ?_⟩
    · exact low_lex g (by omega) (by omega) (sh a ha).1 (sh b hb).1 (sh a ha).2 (sh b hb).2 (.inr ⟨rfl, hab⟩)
    · obtain ⟨a1, a2⟩ := found_in ha
      obtain ⟨m, hm, rfl⟩ := List.mem_map.mp hb
      obtain ⟨b1, b2⟩ := tms_in a2
      have f1 := (thr_fm g (p := a.1) (by omega)).2
      have l1 := lm_ge (c := c) g (p := a.1) (by omega)
      exact low_lex g (by omega) (by omega) (by omega) (sh m hm).1 (told_shown g (by omega) (by omega) b1 fun _ => Int.le_refl _) (sh m hm).2 (.inl a1)
theorem wkeys_sorted (g : Good us d s l) {n : Int} (n0 : 0 ≤ n) : (wkeys us d s c l n).Pairwise fun a b => lowK us d s c l a ≤ lowK us d s c l b := by
  obtain ⟨u1, u2, u3⟩ := at_unit (c := c) g n0
  have as : ∀ k, k ∈ wkeys us d s c l n → _ := fun k hk => asked (c := c) g n0 hk
  unfold wkeys at as ⊢
  rw [List.pairwise_append]
  refine ⟨found_sorted g u1, pair_map (p := 0) tms_sorted fun a ha b hb hab => ?_, fun a ha b hb => ?_⟩
  · obtain ⟨x1, x2, x3, x4, x5⟩ := as _ (List.mem_append_right _ (List.mem_map_of_mem ha))
    obtain ⟨y1, y2, y3, y4, y5⟩ := as _ (List.mem_append_right _ (List.mem_map_of_mem hb))
    exact low_lex g x2 y2 x3 y3 x4 y4 (.inr ⟨rfl, hab⟩)
  · obtain ⟨x1, x2, x3, x4, x5⟩ := as _ (List.mem_append_left _ ha)
    obtain ⟨y1, y2, y3, y4, y5⟩ := as _ (List.mem_append_right _ hb)
    obtain ⟨a1, _⟩ := found_in ha
    obtain ⟨m, hm, rfl⟩ := List.mem_map.mp hb
    exact low_lex g x2 y2 x3 y3 x4 y4 (.inl a1)
/-- the keys that are asked stand for all others -/
theorem stands_for (g : Good us d s l) {n y : Int} (y0 : 0 ≤ y) (hy : y ≤ n) : ∃ k ∈ wkeys us d s c l n, wK us d s c l k = wK us d s c l (placedM us d s c l y) ∧ lowK us d s c l k ≤ lowK us d s c l (placedM us d s c l y) := by
  have n0 : 0 ≤ n := by omega
  obtain ⟨u1, u2, u3⟩ := at_unit (c := c) g n0
  obtain ⟨v1, v2, v3⟩ := at_unit (c := c) g y0
  have hpm := place_mono (c := c) g y0 hy
  -- the last mark of its unit
  obtain ⟨t, ht1, ht2, ht3⟩ : ∃ t : Int, (placedM us d s c l y).2 ≤ t ∧ ((placedM us d s c l y).1 + 1 < us.length → t ≤ lmM us d s c l (placedM us d s c l y).1) ∧ ∀ m, m ∈ tms (fmM us d l (placedM us d s c l y).1) t → ((placedM us d s c l y).1, m) ∈ wkeys us d s c l n := by
    by_cases e : (placedM us d s c l y).1 = (placedM us d s c l n).1
    · refine ⟨(placedM us d s c l n).2, mark_mono7 g y0 hy e, fun h => by rw [e] at h ⊢; exact u3 h, fun m hm => ?_⟩
      unfold wkeys
      rw [e] at hm ⊢
      exact List.mem_append_right _ (List.mem_map_of_mem hm)
    · have hlt : (placedM us d s c l y).1 < (placedM us d s c l n).1 := by omega
      refine ⟨lmM us d s c l (placedM us d s c l y).1, v3 (by omega), fun _ => Int.le_refl _, fun m hm => ?_⟩
      unfold wkeys
      exact List.mem_append_left _ (in_found hlt hm)
  generalize epm : placedM us d s c l y = pm at *
  obtain ⟨p, m⟩ := pm
  have f0 : 0 ≤ fmM us d l p := (thr_fm g v1).2
  have v2 : fmM us d l p ≤ m := v2
  have ht1 : m ≤ t := ht1
  by_cases e : m = fmM us d l p ∨ m = fmM us d l p + 1 ∨ m = fmM us d l p + 2 ∨ m = t
  · exact ⟨(p, m), ht3 m (in_tms ht1 e), rfl, Int.le_refl _⟩
  · have e1 : fmM us d l p + 3 ≤ m := by omega
    have e2 : m + 1 ≤ t := by omega
    obtain ⟨m', k, hm', hk⟩ : ∃ (m' : Int) (k : Nat), (m' = fmM us d l p + 1 ∨ m' = fmM us d l p + 2) ∧ m = m' + 2 * (k : Int) := by
      by_cases par : (m - (fmM us d l p + 1)) % 2 = 0
      · exact ⟨fmM us d l p + 1, ((m - (fmM us d l p + 1)) / 2).toNat, .inl rfl, by omega⟩
      · exact ⟨fmM us d l p + 2, ((m - (fmM us d l p + 2)) / 2).toNat, .inr rfl, by omega⟩
    have v1 : p < us.length := v1
    have ht2 : p + 1 < us.length → t ≤ lmM us d s c l p := ht2
    have hw := width_two (c := c) g v1 (m := m') (t := t) (by omega) ht2 k (by omega)
    refine ⟨(p, m'), ht3 m' (by show m' ∈ tms (fmM us d l p) t; exact in_tms (by omega) (by omega)), ?_, ?_⟩
    · rw [hk]
      exact hw.symm
    · exact low_lex g v1 v1 (by omega) (by omega) (told_shown g v1 (by omega) (show m' ≤ t by omega) ht2) (told_shown g v1 (by omega) ht1 ht2) (.inr ⟨rfl, by omega⟩)
theorem widest_of (g : Good us d s l) {n : Int} (n0 : 0 ≤ n) {i : Nat} {k : FKey} (hi : (wkeys us d s c l n)[i]? = some k) (h1 : ∀ (j : Nat) (k' : FKey), (wkeys us d s c l n)[j]? = some k' → wK us d s c l k' ≤ wK us d s c l k) (h2 : ∀ (j : Nat) (k' : FKey), j < i → (wkeys us d s c l n)[j]? = some k' → wK us d s c l k' < wK us d s c l k) :
    Widest us d s c l n (lowK us d s c l k) (highK us d s c l k) := by
  have hm := List.mem_of_getElem? hi
  obtain ⟨a1, a2, a3, a4, a5⟩ := asked (c := c) g n0 hm
  have hin : lowK us d s c l k ≤ n := by
    rcases Int.lt_or_le n (lowK us d s c l k) with w | w
    · have e := low_place (c := c) g a2 a3 a4
      have q1 := place_mono (c := c) g n0 (Int.le_of_lt w)
      rw [e] at q1
      have q1 : (placedM us d s c l n).1 ≤ k.1 := q1
      have q2 : k.1 = (placedM us d s c l n).1 := by omega
      have q3 := mark_mono7 (c := c) g n0 (Int.le_of_lt w) (by rw [e]; exact q2.symm)
      rw [e] at q3
      have q3 : (placedM us d s c l n).2 ≤ k.2 := q3
      have q4 := a5 q2
      have q5 : placedM us d s c l n = k := Prod.ext q2.symm (by omega)
      have q6 := (in_range (c := c) g n0 (p := k.1) (m := k.2) q5).1
      have q6 : lowK us d s c l k ≤ n := q6
      omega
    · exact w
  refine ⟨⟨k, a2, a3, rfl, rfl, a4, hin⟩, fun y y0 hy => ?_⟩
  obtain ⟨k', hk', e1, e2⟩ := stands_for (c := c) g y0 hy
  obtain ⟨j, hj⟩ := List.getElem?_of_mem hk'
  have w1 := h1 j k' hj
  have ew : wK us d s c l k = highK us d s c l k - lowK us d s c l k + 1 := rfl
  refine ⟨by omega, fun he => ?_⟩
  have hij : i ≤ j := by
    rcases Nat.lt_or_ge j i with w | w
    · have := h2 j k' w hj
      omega
    · exact w
  have ho : lowK us d s c l k ≤ lowK us d s c l k' := by
    rcases Nat.lt_or_eq_of_le hij with w | w
    · obtain ⟨hi1, hi2⟩ := List.getElem?_eq_some_iff.mp hi
      obtain ⟨hj1, hj2⟩ := List.getElem?_eq_some_iff.mp hj
      have := (List.pairwise_iff_getElem.mp (wkeys_sorted (c := c) g n0)) i j hi1 hj1 w
      rw [hi2, hj2] at this
      exact this
    · rw [w, hj] at hi
      cases hi
      exact Int.le_refl _
  omega
end
end My

/-! max(xs, key=f), xs a list, f a def that answers an int and leaves what is tracked as it was -/
namespace MyK
open PySem PySem.W PyProof.Rows L2
section
variable {X : Cx} {pins : List (Addr × Obj)} {σ : L2.St} {H : Hp} {s : Shared} {h' : Heap}
/-- untracked records of ours have turned -/
theorem turnedL {t' : Nat} {its : List Addr} (I : Inv X pins σ H s) (k : ∀ b o, b ∉ its → s.heap.get? b = some o → h'.get? b = some o) (hf : ∀ b ∈ its, FpOk X pins H b) : Inv X pins σ H { s with heap := h', toks := t' } := by
  have nit : ∀ b u, H b = some u → b ∉ its := fun b u e z => by
    have := (hf b z).1
    rw [e] at this
    cases this
  refine I.step (g' := s.gens) (d' := s.drawn) (ch := its) (fun b hb => ⟨(hf b hb).2.2.2.1, (hf b hb).2.1, (hf b hb).2.2.2.2.1, (hf b hb).2.2.2.2.2⟩) (fun b o _ _ hc e _ => k b o hc e) (fun b o _ _ hc e _ => ⟨o.slots, k b o hc e⟩) (fun _ _ _ _ n => n)
    (fun b o hc e => ⟨o, k b o hc e⟩) (fun _ _ e => e) (fun _ _ _ e => e) (fun b ps e => ⟨#[], by rw [e]; simp⟩) (fun m hm => ?_) (fun b u e => ?_) I.bare
  · obtain ⟨o, es, ep, ho, r⟩ := hm
    exact ⟨o, es, ep, k _ o (fun z => (hf _ z).2.1 rfl) ho, r⟩
  · refine (I.hok b u e).stay (fun c v hc q => k c v ?_ q) (fun _ q => q) fun _ _ q => q
    rcases hc with z | z
    · rw [z]
      exact nit b u e
    · exact nit c _ z
/-- the first one of the greatest -/
theorem first_best (kf : Nat → Int) : ∀ k, argBest (fun i j => decide (kf i > kf j)) k ≤ k ∧ (∀ j, j ≤ k → kf j ≤ kf (argBest (fun i j => decide (kf i > kf j)) k)) ∧ ∀ j, j < argBest (fun i j => decide (kf i > kf j)) k → kf j < kf (argBest (fun i j => decide (kf i > kf j)) k)
  | 0 => ⟨Nat.le_refl _, fun j hj => by rw [show j = 0 by omega]; exact Int.le_refl _, fun j hj => absurd hj (Nat.not_lt_zero j)⟩
  | k + 1 => by
    obtain ⟨h1, h2, h3⟩ := first_best kf k
    have e : argBest (fun i j => decide (kf i > kf j)) (k + 1) = if decide (kf (k + 1) > kf (argBest (fun i j => decide (kf i > kf j)) k)) = true then k + 1 else argBest (fun i j => decide (kf i > kf j)) k := rfl
    rw [e]
    by_cases hb : kf (k + 1) > kf (argBest (fun i j => decide (kf i > kf j)) k)
    · rw [if_pos (decide_eq_true hb)]
      refine ⟨Nat.le_refl _, fun j hj => ?_, fun j hj => ?_⟩
      · by_cases ej : j = k + 1
        · rw [ej]
          exact Int.le_refl _
        · have := h2 j (by omega)
          omega
      · have := h2 j (by omega)
        omega
    · rw [if_neg (by rw [decide_eq_true_eq]; exact hb)]
      refine ⟨by omega, fun j hj => ?_, h3⟩
      by_cases ej : j = k + 1
      · rw [ej]
        omega
      · exact h2 j (by omega)
theorem refs_are : ∀ {ps : List Addr} {us : List Value}, Vals (ps.map V.ref) us → us = ps.map Value.ref
  | [], us, r => by cases r; rfl
  | p :: ps, us, r => by
    cases r with
    | cons h t =>
      have e : _ = Value.ref p := h
      rw [e, refs_are t]
      rfl
/-- max(xs, key=f) -/
def rMaxK (K : PySem.W.Frag) (f : Addr) (sp : Sp) : List V → List V → Hp → VK → Prop := fun vs zs H Q => ∃ (a : Addr) (ps : List Addr) (kf : Nat → Int), vs = [.ref a] ∧ zs = [.ref f] ∧ SqL K H a (ps.map V.ref) ∧ 0 < ps.length ∧
  (∀ i x, ps[i]? = some x → sp [.ref x] H (fun v H' => v = .int (kf i) ∧ H' = H) E0) ∧ ∀ i x, ps[i]? = some x → (∀ j, j < ps.length → kf j ≤ kf i) → (∀ j, j < i → kf j < kf i) → Q (.ref x) H
theorem cr_maxK {k : Nat} {f : Addr} {fd : FuncData} {p : Str} {sp : Sp} (F : FnOk X.prog X.w X.K X.mg X.base CX0 k f fd [p] sp) (hr : Room (k + 1) X.A) (hb : Binds X.K fd [p] []) (hc : X.calm = true) : CallRK X (.builtin "max") [Str.ofString "key"] (rMaxK X.K f sp) := by
  intro pins s σ H xs zs us ws Q I r rz h
  obtain ⟨a, ps, kf, rfl, rfl, hs, hne, hkey, q⟩ := h
  obtain ⟨its, rv, hl, hsz⟩ := I.list hs
  obtain ⟨ys, eys⟩ : ∃ ys, ys = ps.map V.ref := ⟨_, rfl⟩
  rw [← eys] at hs rv
  have eyl : ys.length = ps.length := by rw [eys, List.length_map]
  have hne : 0 < ys.length := by omega
  have hkey : ∀ i x, ys[i]? = some x → sp [x] H (fun v H' => v = .int (kf i) ∧ H' = H) E0 := fun i x e => by
    rw [eys, List.getElem?_map] at e
    obtain ⟨p1, e1, rfl⟩ := Option.map_eq_some_iff.mp e
    exact hkey i p1 e1
  have q : ∀ i x, ys[i]? = some x → (∀ j, j < ys.length → kf j ≤ kf i) → (∀ j, j < i → kf j < kf i) → Q x H := fun i x e h1 h2 => by
    rw [eys, List.getElem?_map] at e
    obtain ⟨p1, e1, rfl⟩ := Option.map_eq_some_iff.mp e
    exact q i p1 e1 (fun j hj => h1 j (by omega)) h2
  rw [Vals.ref1 r, Vals.ref1 rz]
  have hlen : its.length = ys.length := rv.length.symm
  have hh : X.A.in1.handled = none := I.ok.hd hc
  show wpAny _ _ (call (.builtin "max") [.ref a] [(Str.ofString "key", .ref f)]) _ _ _
  refine call_max_walkK (iter_listW (A := X.A.in1) hh hl.isList fun s2 e2 W st hfp hw hk => ?_)
  have nI : H s.heap.objs.size = none := I.hok.fresh (Nat.le_refl _)
  have fI : FpOk X pins H s.heap.objs.size := I.fpOk (Nat.le_refl _) nI
  have s2sz : s.heap.objs.size < s2.heap.objs.size := by
    rw [e2]
    show s.heap.objs.size < (s.heap.push _).objs.size
    rw [Heap.size_push]
    exact Nat.lt_succ_self _
  have nS : H s2.heap.objs.size = none := I.hok.fresh (Nat.le_of_lt s2sz)
  have fS : FpOk X pins H s2.heap.objs.size := I.fpOk (Nat.le_of_lt s2sz) nS
  have fAll : ∀ b ∈ s2.heap.objs.size :: [s.heap.objs.size], FpOk X pins H b := fun b hb => by
    rcases List.mem_cons.mp hb with e | e
    · rw [e]
      exact fS
    · rw [List.mem_singleton.mp e]
      exact fI
  have J2 : Inv X pins σ H s2 := by
    rw [e2]
    exact I.kept (t' := s.toks) (h' := s.heap.push _) fun b o e => Heap.get?_push_of_some _ e
  refine ⟨s.heap.objs.size, _, _, _, its.toArray.size, _, _, fun s' => Inv X pins σ H s', fun i v _ => ∃ t, v = .int (kf i) t, fun i j => decide (kf i > kf j), rfl, W, st, hfp, by rw [List.size_toArray, hlen]; exact hne, ?_, J2, ?_⟩
  · refine ⟨fun s1 s1' J m => ?_, fun i k s1 s1' v _ => v, fun i v s1 o Q1 E1 hi hP J hst hS hq => ?_, fun i j ki kj s1 Q1 E1 _ vi vj hQ => ?_⟩
    · rw [m.eq_with]
      exact turnedL J (fun b o hb e => m.heap b o hb e) fAll
    · have hP' : its[i]? = some v := by simpa using hP
      have hi' : i < ys.length := by
        rw [List.size_toArray, hlen] at hi
        exact hi
      obtain ⟨u, hu, ru⟩ := rv.get (List.getElem?_eq_getElem hi')
      rw [hP'] at hu
      cases hu
      have hsp := hkey i _ (List.getElem?_eq_getElem hi')
      have e0 : Env0 X.prog X.w X.K X.mg X.base X.A.in1 X.stack s1 H := by
        have e := J.env0
        exact ⟨e.frames, e.mod, e.bs, e.bsz, e.funs, e.frf, e.hok, e.bare⟩
      have r2 : Vals [ys[i]] [v] := .cons ru .nil
      refine wpAny_call (codeAny_mono (F.run X.A.in1 X.stack s1 H ⟨[v], []⟩ [v] [ys[i]] _ E0 hr.in1 e0 (by
        have := hb s1 [v] J.kIn (by simp)
        simpa using this) r2 hsp) fun r1 s1' hq1 => ?_)
      cases r1 with
      | error e => exact False.elim hq1
      | ok fl =>
        cases fl with
        | next => exact False.elim hq1
        | brk => exact False.elim hq1
        | cont => exact False.elim hq1
        | ret u =>
          have hce : CE X.stack X.prog X.w H s1 (fun v H' => v = .int (kf i) ∧ H' = H) u s1' := hq1
          obtain ⟨w1, H1, J1, rw1, ew, eH⟩ := J.after hce
          subst eH
          subst ew
          obtain ⟨_, _, _, _, un, _⟩ := hce
          have kp : ∀ b, b ∈ s2.heap.objs.size :: [s.heap.objs.size] → ∀ o, s1.heap.get? b = some o → s1'.heap.get? b = some o := fun b hb o e => by
            have fb := fAll b hb
            refine un.keep b o e fb.1 (fun z => ?_) (by simp)
            rcases List.mem_cons.mp (J.stkSub b z) with y | y
            · exact fb.2.1 y
            · exact fb.2.2.1 y
          obtain ⟨t, rfl⟩ : ∃ t, u = .int (kf i) t := rw1
          refine hq _ s1' J1 ?_ (kp _ List.mem_cons_self o hS) ⟨t, rfl⟩ fun _ _ h => h
          have hl' : s1'.heap.IsList a its.toArray := by
            obtain ⟨its', rv', hl2, _⟩ := J1.list hs
            rw [eys] at rv'
            rw [eys] at rv
            rw [refs_are rv, ← refs_are rv']
            exact hl2.isList
          refine ⟨?_, hl'⟩
          obtain ⟨oI, g1, g2⟩ := hst.1
          exact ⟨oI, kp _ (List.mem_cons_of_mem _ List.mem_cons_self) oI g1, g2⟩
    · exact CmpOf.ints_gt (P := fun i v => ∃ t, v = .int (kf i) t) kf (fun _ _ h => h) i j ki kj s1 Q1 E1 vi vj hQ
  · intro v s1 hP J
    have hn : its.toArray.size - 1 = ys.length - 1 := by rw [List.size_toArray, hlen]
    rw [hn] at hP
    obtain ⟨b1, b2, b3⟩ := first_best kf (ys.length - 1)
    have hi' : argBest (fun i j => decide (kf i > kf j)) (ys.length - 1) < ys.length := by omega
    have hP' : its[argBest (fun i j => decide (kf i > kf j)) (ys.length - 1)]? = some v := by simpa using hP
    obtain ⟨u, hu, ru⟩ := rv.get (List.getElem?_eq_getElem hi')
    rw [hP'] at hu
    cases hu
    exact ⟨_, H, J, ru, q _ _ (List.getElem?_eq_getElem hi') (fun j hj => b2 j (by omega)) b3⟩
end
end MyK

namespace My
open PySem PySem.Spec PyProof.Rows L2
abbrev sMany : Stmt := top 76
abbrev sTell : Stmt := top 75
abbrev sWidest : Stmt := top 74
theorem scMany : FnScope ["ends", "low", "high"] ["ends"] (defScope sMany) := ⟨rfl, rfl, rfl, by decide +kernel, rfl, by decide +kernel, by decide +kernel⟩
theorem scTell : FnScope ["ladder", "unit", "last", "first", "mark"] ["ladder", "unit", "last"] (defScope sTell) := ⟨rfl, rfl, rfl, by decide +kernel, rfl, by decide +kernel, by decide +kernel⟩
theorem scWidest : FnScope ["ladder", "number", "last_unit", "last", "found", "unit"] ["ladder", "number"] (defScope sWidest) := ⟨rfl, rfl, rfl, by decide +kernel, rfl, by decide +kernel, by decide +kernel⟩
def spMany (K : PySem.W.Frag) : Sp := fun vs H Q _ => ∃ (p : Addr) (a b : Int), vs = [.ref p] ∧ SqT K H p [.int a, .int b] ∧ Q (.int (b - a + 1)) H
def RngAt (K : PySem.W.Frag) (us : List (Str × Int)) (d : Nat) (s : Str) (c : Bool) (l : Int) (H : Hp) (p : Addr) (k : FKey) : Prop := SqT K H p [.int (lowK us d s c l k), .int (highK us d s c l k)]
def spTell (K : PySem.W.Frag) (C : Addr) : Sp := fun vs H Q _ => ∃ (a : Addr) (us : List (Str × Int)) (d : Nat) (s : Str) (c : Bool) (l : Int) (p : Nat) (t : Int), vs = [.ref a, .int (p : Int), .int t] ∧ LadAt K C H a us d s c l ∧ Good us d s l ∧ p < us.length ∧ (p + 1 < us.length → t ≤ lmM us d s c l p) ∧ fmM us d l p ≤ t ∧
  ∀ (D : Addr) (ps : List Addr) (H' : Hp), Same H H' → H' D = some (.lst (ps.map V.ref)) → PySem.Paired (RngAt K us d s c l H') ps ((tms (fmM us d l p) t).map fun m => (p, m)) → Q (.ref D) H'
def spWide (K : PySem.W.Frag) (C : Addr) : Sp := fun vs H Q _ => ∃ (a : Addr) (us : List (Str × Int)) (d : Nat) (s : Str) (c : Bool) (l n : Int), vs = [.ref a, .int n] ∧ LadAt K C H a us d s c l ∧ Good us d s l ∧ 0 ≤ n ∧ n ≤ 1000000000000000000 ∧
  ∀ (lo hi : Int) (r : Addr) (H' : Hp), Same H H' → Widest us d s c l n lo hi → SqT K H' r [.int lo, .int hi] → Q (.ref r) H'
theorem paired_app8 {α β : Type} {R : α → β → Prop} {xs' : List α} {ys' : List β} (h' : PySem.Paired R xs' ys') : ∀ {xs : List α} {ys : List β}, PySem.Paired R xs ys → PySem.Paired R (xs ++ xs') (ys ++ ys')
  | _, _, .nil => h'
  | _, _, .cons h t => .cons h (paired_app8 h' t)
theorem paired_get8 {α β : Type} {R : α → β → Prop} : ∀ {xs : List α} {ys : List β} {i : Nat} {x : α}, PySem.Paired R xs ys → xs[i]? = some x → ∃ y, ys[i]? = some y ∧ R x y
  | _, _, _, _, .nil, e => by cases e
  | _, _, 0, _, .cons h _, e => by
    cases e
    exact ⟨_, rfl, h⟩
  | _, _, i + 1, _, .cons _ t, e => paired_get8 (i := i) t e
theorem tms_len (f t : Int) : (tms f t).length ≤ 4 := by
  unfold tms
  exact Nat.le_trans (List.length_filter_le _ _) (by show 4 ≤ 4; exact Nat.le_refl _)
theorem found_len {us : List (Str × Int)} {d : Nat} {s : Str} {c : Bool} {l : Int} : ∀ P : Nat, (foundK us d s c l P).length ≤ 4 * P
  | 0 => Nat.le_refl _
  | P + 1 => by
    have h1 := found_len (us := us) (d := d) (s := s) (c := c) (l := l) P
    have h2 := tms_len (fmM us d l P) (lmM us d s c l P)
    show (foundK us d s c l P ++ (tms (fmM us d l P) (lmM us d s c l P)).map fun m => (P, m)).length ≤ _
    rw [List.length_append, List.length_map]
    omega
theorem paired_snoc7 {α β : Type} {R : α → β → Prop} {x : α} {y : β} (h : R x y) : ∀ {xs : List α} {ys : List β}, PySem.Paired R xs ys → PySem.Paired R (xs ++ [x]) (ys ++ [y])
  | _, _, .nil => .cons h .nil
  | _, _, .cons h' t => .cons h' (paired_snoc7 h t)
theorem SqT.updL {K : PySem.W.Frag} {H : Hp} {D t : Addr} {xs ys zs : List V} (hD : H D = some (.lst xs)) (h : SqT K H t zs) : SqT K (upd H D (.lst ys)) t zs := (But.upd D _ _).sqt hD rfl h
section
variable {P : Program} {w : World} {K : PySem.W.Frag} {mg : Str → Option Value} {base : Heap}
theorem ok_many (d : Dd K mg "many_numbers" sMany ["ends"]) : FnOk P w K mg base CX0 1 d.f d.fd ["ends"] (spMany K) := by
  refine d.F.ok scMany (fun vs H Q E h => ?_) (fun cdv A outer s H vs Q E hr h => ?_)
  · obtain ⟨_, _, _, rfl, _⟩ := h
    rfl
  · obtain ⟨p, a, b, rfl, hp, q⟩ := h
    have nd := scMany.nd
    refine ⟨_, (Evl.pss_cut (ps_asg (pv 0) (pg_tup rfl (pgs_cons (pg_name (i := 1) nd rfl (Or.inl rfl)) (pgs_cons (pg_name (i := 2) nd rfl (Or.inl rfl)) pgs_nil))))
  (pss_one (ps_ret (pe_op op_add (pe_op op_sub (pv 2) (pv 1)) pe_int)))), ?_⟩
    refine ⟨fun σ' H' => H' = H ∧ σ' = [some (.ref p), some (.int a), some (.int b)], ⟨_, rfl, p, _, rfl, hp, rfl, _, _, rfl, _, _, rfl, rfl, rfl, rfl⟩, ?_⟩
    rintro σ' H' ⟨rfl, rfl⟩
    exact ⟨_, rfl, _, rfl, _, _, rfl, rfl, _, _, rfl, rfl, q⟩
theorem ok_tell {C : Addr} (d : Dd K mg "telling_ranges" sTell ["ladder", "unit", "last"]) (dF : Dd K mg "first_mark" sFirstMark ["ladder", "place"]) (dNu : Dd K mg "numbers_shown" sNums ["ladder", "place", "mark"]) (B : Bt mg)
    (GF : FnOk P w K mg base CX0 2 dF.f dF.fd ["ladder", "place"] (spFirstMark K C)) (GNu : FnOk P w K mg base CX0 4 dNu.f dNu.fd ["ladder", "place", "mark"] (spNums K C)) : FnOk P w K mg base CX0 5 d.f d.fd ["ladder", "unit", "last"] (spTell K C) := by
  refine d.F.ok scTell (fun vs H Q E h => ?_) (fun cdv A0 outer s H vs Q E hr h => ?_)
  · obtain ⟨_, _, _, _, _, _, _, _, rfl, _⟩ := h
    rfl
  · obtain ⟨a, us, dn, z, c, l, p, t, rfl, hL, g, hp, ht, hft, q⟩ := h
    have hr1 : Room 2 _ := hr.mono (by decide)
    have hr4 : Room 4 _ := hr.mono (by decide)
    have nd := scTell.nd
    refine ⟨_, (Evl.pss_cut (ps_set (i := 3) nd rfl (.inl rfl) (pe_call GF hr1 (by rfl) dF.g dF.F.kp dF.b .nil pass0 (pa_cons (pv 0) (pa_cons (pv 1) pa_nil))))
  (pss_one (ps_ret (pe_lc (own := [("mark", 4)]) (g := gName 4) rfl nd (pi_tup (pe_tup (pa_cons (pv 3) (pa_cons (pe_op op_add (pv 3) pe_int) (pa_cons (pe_op op_add (pv 3) pe_int) (pa_cons (pv 2) pa_nil)))))) (blkOk_by (own := [("mark", 4)]) (N := ["ladder", "unit", "last", "first", "mark"]) (sc := defScope sTell) (by decide +kernel)) (fun _ _ _ _ _ => pg_name (i := 4) nd rfl (Or.inl rfl)) (fun _ _ _ _ _ => pts_one (pt_cmpR op_le (pv 4) (pv 2) (nomark _))) (fun _ _ _ _ _ => (pe_call GNu hr4 (by rfl) dNu.g dNu.F.kp dNu.b .nil pass0 (pa_cons (pv 0) (pa_cons (pv 1) (pa_cons (pv 4) pa_nil))))))))), ?_⟩
    refine ⟨fun σ' H' => H' = H ∧ σ' = [some (.ref a), some (.int (p : Int)), some (.int t), some (.int (fmM us dn l p)), none], ⟨_, rfl, _, rfl, a, us, dn, z, c, l, p, rfl, hL, g, hp, rfl, rfl⟩, ?_⟩
    rintro σ' H' ⟨rfl, rfl⟩
    refine ⟨_, rfl, _, rfl, _, _, rfl, rfl, _, rfl, _, _, rfl, rfl, _, rfl, (by show 4 ≤ sizeLine; decide), fun T nT => ⟨T, rfl, ⟨_, SqT.of upd_same⟩, fun D nD => ?_⟩⟩
    have sT := same_upd nT (o := .tup ([V.int (fmM us dn l p), V.int (fmM us dn l p + 1), V.int (fmM us dn l p + 2), V.int t] : List V))
    have hT : SqT K (upd H' T (.tup ([V.int (fmM us dn l p), V.int (fmM us dn l p + 1), V.int (fmM us dn l p + 2), V.int t] : List V))) T (([fmM us dn l p, fmM us dn l p + 1, fmM us dn l p + 2, t] : List Int).map V.int) := SqT.of upd_same
    generalize upd H' T (.tup ([V.int (fmM us dn l p), V.int (fmM us dn l p + 1), V.int (fmM us dn l p + 2), V.int t] : List V)) = H2 at sT hT nD ⊢
    have nb : ∀ x o, H' x = some o → x ≠ D := fun x o e => ne_of_none (sT _ _ e) nD
    have hf0 := (thr_fm g hp).2
    refine lc_tup (K := K) (a := T) (xs := ([fmM us dn l p, fmM us dn l p + 1, fmM us dn l p + 2, t] : List Int).map V.int) (fun j H1 => Same H2 H1 ∧ ∃ ps : List Addr, H1 D = some (.lst (ps.map V.ref)) ∧ ps.length ≤ j ∧ PySem.Paired (RngAt K us dn z c l H1) ps (((([fmM us dn l p, fmM us dn l p + 1, fmM us dn l p + 2, t] : List Int).take j).filter fun m => decide (m ≤ t)).map fun m => (p, m)))
      ⟨same_upd nD, [], upd_same, Nat.le_refl _, .nil⟩ (fun j H1 _ h => same_sqt h.1 hT) ?_ ?_
    · rintro j v H5 hj ⟨sm, ps, hD, hpl, hps⟩
      rw [List.getElem?_map] at hj
      obtain ⟨m, hm, rfl⟩ := Option.map_eq_some_iff.mp hj
      have hj4 : j < 4 := (List.getElem?_eq_some_iff.mp hm).1
      have hmf : fmM us dn l p ≤ m ∨ m = t := by
        have := List.mem_of_getElem? hm
        simp only [List.mem_cons, List.not_mem_nil, or_false] at this
        omega
      have etk : (([fmM us dn l p, fmM us dn l p + 1, fmM us dn l p + 2, t] : List Int).take (j + 1)).filter (fun m => decide (m ≤ t)) = (([fmM us dn l p, fmM us dn l p + 1, fmM us dn l p + 2, t] : List Int).take j).filter (fun m => decide (m ≤ t)) ++ (if m ≤ t then [m] else []) := by
        rw [List.take_add_one, hm, List.filter_append]
        by_cases h : m ≤ t <;> simp [h]
      refine ⟨rfl, _, rfl, _, rfl, _, _, rfl, rfl, _, rfl, ite2 (fun e => ?_) (fun e => ?_)⟩
      · have hmt : m ≤ t := of_decide_eq_true e
        rw [if_pos hmt] at etk
        refine ⟨_, rfl, _, rfl, _, rfl, a, us, dn, z, c, l, p, m, rfl, hL.same (sT.trans sm), g, hp, ?_, ?_⟩
        · intro bad
          have := told_shown (c := c) g hp (m := m) (by omega) hmt ht
          omega
        · intro ok r H6 s6 hr
          have hD6 := s6 _ _ hD
          refine ⟨_, hD6, ?_, fun b o eb => ?_, ps ++ [r], ?_, ?_, ?_⟩
          · rw [List.length_map]
            exact Nat.lt_of_le_of_lt hpl (Nat.lt_of_lt_of_le hj4 (by decide))
          · rw [upd_ne (ne_of_none eb nD)]
            exact s6 _ _ (sm _ _ eb)
          · rw [upd_same, List.map_append]
            rfl
          · rw [List.length_append]
            exact Nat.succ_le_succ hpl
          · rw [etk, List.map_append]
            refine paired_snoc7 ?_ (paired_imp (fun x k hk => ?_) hps)
            · exact SqT.updL hD6 hr
            · exact SqT.updL hD6 (same_sqt s6 hk)
      · have hmt : ¬ m ≤ t := fun w => e (decide_eq_true w)
        rw [if_neg hmt, List.append_nil] at etk
        exact ⟨sm, ps, hD, by omega, by rw [etk]; exact hps⟩
    · rintro H5 ⟨sm, ps, hD, hpl, hps⟩
      exact q D ps H5 (sT.trans sm) hD hps
theorem ok_wide {C : Addr} (d : Dd K mg "widest" sWidest ["ladder", "number"]) (dC : Dd K mg "check_ladder" sCLad ["ladder"]) (dN : Dd K mg "check_number" sCNum ["number"]) (dPl : Dd K mg "placed" sPlaced ["ladder", "number"]) (dL : Dd K mg "last_mark" sLastMark ["ladder", "place"]) (dT : Dd K mg "telling_ranges" sTell ["ladder", "unit", "last"]) (dM : Dd K mg "many_numbers" sMany ["ends"]) (B : Bt mg)
    (GC : FnOk P w K mg base CX0 2 dC.f dC.fd ["ladder"] (spCLad K C)) (GN : FnOk P w K mg base CX0 3 dN.f dN.fd ["number"] spCNum) (GPl : FnOk P w K mg base CX0 4 dPl.f dPl.fd ["ladder", "number"] (spPlaced K C)) (GL : FnOk P w K mg base CX0 4 dL.f dL.fd ["ladder", "place"] (spLastMark K C)) (GT : FnOk P w K mg base CX0 5 dT.f dT.fd ["ladder", "unit", "last"] (spTell K C)) :
    FnOk P w K mg base CX0 6 d.f d.fd ["ladder", "number"] (spWide K C) := by
  have GM : FnOk P w K mg base CX0 1 dM.f dM.fd ["ends"] (spMany K) := ok_many dM
  refine d.F.ok scWidest (fun vs H Q E h => ?_) (fun cdv A0 outer s H vs Q E hr h => ?_)
  · obtain ⟨_, _, _, _, _, _, _, rfl, _⟩ := h
    rfl
  · obtain ⟨a, us, dn, z, c, l, n, rfl, hL, g, n0, n1, q⟩ := h
    have hr1 : Room 2 _ := hr.mono (by decide)
    have hr3 : Room 3 _ := hr.mono (by decide)
    have hr4 : Room 4 _ := hr.mono (by decide)
    have hr5 : Room 5 _ := hr.mono (by decide)
    have hrk : Room 2 _ := hr.mono (by decide)
    have nd := scWidest.nd
    obtain ⟨u1, u2, u3⟩ := at_unit (c := c) g n0
    refine ⟨_, (Evl.pss_cut (ps_expr (pe_call GC hr1 (by rfl) dC.g dC.F.kp dC.b .nil pass0 (pa_cons (pv 0) pa_nil)))
  (Evl.pss_cut (ps_expr (pe_call GN hr3 (by rfl) dN.g dN.F.kp dN.b .nil pass0 (pa_cons (pv 1) pa_nil)))
  (Evl.pss_cut (ps_asg (pe_call GPl hr4 (by rfl) dPl.g dPl.F.kp dPl.b .nil pass0 (pa_cons (pv 0) (pa_cons (pv 1) pa_nil))) (pg_tup rfl (pgs_cons (pg_name (i := 2) nd rfl (Or.inl rfl)) (pgs_cons (pg_name (i := 3) nd rfl (Or.inl rfl)) pgs_nil))))
  (Evl.pss_cut (ps_set (i := 4) nd rfl (.inl rfl) (pe_lst pa_nil))
  (Evl.pss_cut (ps_for PassesOwn.never rfl (pi_range1 (by rfl) B.range (pa_cons (pv 2) pa_nil)) (pg_name (i := 5) nd rfl (Or.inl rfl))
  (pss_one (ps_expr (pe_bm PySem.F.plainAttrs_list PySem.F.slot_list_extend PySem.F.type_list_extend mt_extend (pv 4) (pa_cons (pe_call GT hr5 (by rfl) dT.g dT.F.kp dT.b .nil pass0 (pa_cons (pv 0) (pa_cons (pv 5) (pa_cons (pe_call GL hr4 (by rfl) dL.g dL.F.kp dL.b .nil pass0 (pa_cons (pv 0) (pa_cons (pv 5) pa_nil))) pa_nil)))) pa_nil)))))
  (Evl.pss_cut (ps_expr (pe_bm PySem.F.plainAttrs_list PySem.F.slot_list_extend PySem.F.type_list_extend mt_extend (pv 4) (pa_cons (pe_call GT hr5 (by rfl) dT.g dT.F.kp dT.b .nil pass0 (pa_cons (pv 0) (pa_cons (pv 2) (pa_cons (pv 3) pa_nil)))) pa_nil)))
  (pss_one (ps_ret (pe_callBK (MyK.cr_maxK GM hrk dM.b rfl) (by rfl) B.max (by decide +kernel) (pa_cons (pv 4) pa_nil) (pk_cons (pe_glob (v := .ref dM.f) (by rfl) dM.g rfl) pk_nil)))))))))), ?_⟩
    refine ⟨fun σ' H' => H' = H ∧ σ' = [some (.ref a), some (.int n), none, none, none, none], ⟨_, rfl, a, us, dn, z, c, l, rfl, hL, rfl, rfl⟩, ?_⟩
    rintro σ' H0 ⟨rfl, rfl⟩
    refine ⟨fun σ' H' => H' = H0 ∧ σ' = [some (.ref a), some (.int n), none, none, none, none], ⟨_, rfl, n, rfl, n0, n1, rfl, rfl⟩, ?_⟩
    rintro σ' H ⟨rfl, rfl⟩
    refine ⟨fun σ' H' => Same H H' ∧ σ' = [some (.ref a), some (.int n), some (.int ((placedM us dn z c l n).1 : Int)), some (.int (placedM us dn z c l n).2), none, none], ?_, ?_⟩
    · refine ⟨_, rfl, _, rfl, a, us, dn, z, c, l, n, rfl, hL, g, n0, fun r H1 s1 hr' => ?_⟩
      exact ⟨r, _, rfl, hr', rfl, _, _, rfl, _, _, rfl, rfl, s1, rfl⟩
    rintro σ' H1 ⟨s1, rfl⟩
    refine ⟨fun σ' H' => ∃ F : Addr, Same H H' ∧ H F = none ∧ H' F = some (.lst []) ∧ σ' = [some (.ref a), some (.int n), some (.int ((placedM us dn z c l n).1 : Int)), some (.int (placedM us dn z c l n).2), some (.ref F), none], ?_, ?_⟩
    · refine ⟨(by show 0 ≤ sizeLine; decide), fun F nF => ?_⟩
      have hF : H F = none := by
        cases e : H F with
        | none => rfl
        | some o =>
          rw [s1 _ _ e] at nF
          cases nF
      exact ⟨F, s1.trans (same_upd nF), hF, upd_same, rfl⟩
    rintro σ' H2 ⟨F, s2, nF, hF, rfl⟩
    have hb : ∀ {H' : Hp} {o : HO}, Same H H' → Same H (upd H' F o) := fun sm x o e => by
      rw [upd_ne (ne_of_none e nF)]
      exact sm _ _ e
    refine ⟨fun σ' H' => ∃ (v : Option V) (ps : List Addr), Same H H' ∧ H' F = some (.lst (ps.map V.ref)) ∧ PySem.Paired (RngAt K us dn z c l H') ps (foundK us dn z c l (placedM us dn z c l n).1) ∧ σ' = [some (.ref a), some (.int n), some (.int ((placedM us dn z c l n).1 : Int)), some (.int (placedM us dn z c l n).2), some (.ref F), v], ?_, ?_⟩
    · refine ⟨_, rfl, _, rfl, by omega, by have := g.u.hi; omega, ?_⟩
      rw [show (((placedM us dn z c l n).1 : Nat) : Int).toNat = (placedM us dn z c l n).1 by omega]
      refine for_range (n := (placedM us dn z c l n).1) (fun i σ H3 => ∃ (v : Option V) (ps : List Addr), Same H H3 ∧ H3 F = some (.lst (ps.map V.ref)) ∧ PySem.Paired (RngAt K us dn z c l H3) ps (foundK us dn z c l i) ∧ σ = [some (.ref a), some (.int n), some (.int ((placedM us dn z c l n).1 : Int)), some (.int (placedM us dn z c l n).2), some (.ref F), v])
        ⟨_, [], s2, hF, .nil, rfl⟩ ?_ ?_
      · rintro i σ H3 hi ⟨v, ps, s3, hF3, hps, rfl⟩
        rw [show (0 : Int) + (i : Int) = ((i : Nat) : Int) by omega]
        have hi1 : i + 1 < us.length := by omega
        have hpl := hps.length
        have hfl := found_len (us := us) (d := dn) (s := z) (c := c) (l := l) i
        refine ⟨_, rfl, .inl ⟨rfl, _, SqL.of hF3⟩, ?_⟩
        refine ⟨_, rfl, _, rfl, _, rfl, _, rfl, a, us, dn, z, c, l, i, rfl, hL.same s3, g, hi1, fun H4 s4 => ?_⟩
        refine ⟨a, us, dn, z, c, l, i, _, rfl, hL.same (s3.trans s4), g, by omega, fun _ => Int.le_refl _, lm_ge g hi1, fun D ps' H5 s5 hD hps' => ?_⟩
        have hF5 := s5 _ _ (s4 _ _ hF3)
        have hpl' := hps'.length
        have htl := tms_len (fmM us dn l i) (lmM us dn z c l i)
        refine ⟨F, D, _, _, rfl, rfl, hF5, hD, ?_, ?_⟩
        · rw [List.length_map] at *
          rw [List.length_map]
          have := g.u.hi
          exact Nat.le_trans (show _ ≤ 1000 by omega) (by decide)
        · refine ⟨_, ps ++ ps', hb ((s3.trans s4).trans s5), by rw [upd_same, List.map_append], ?_, rfl⟩
          exact paired_app8 (paired_imp (fun x k hk => SqT.updL hF5 hk) hps') (paired_imp (fun x k hk => SqT.updL hF5 (same_sqt (s4.trans s5) hk)) hps)
      · exact fun σ H3 h => h
    rintro σ' H3 ⟨v, ps, s3, hF3, hps, rfl⟩
    have hpl := hps.length
    have hfl := found_len (us := us) (d := dn) (s := z) (c := c) (l := l) (placedM us dn z c l n).1
    refine ⟨fun σ' H' => ∃ (ps : List Addr), Same H H' ∧ H' F = some (.lst (ps.map V.ref)) ∧ PySem.Paired (RngAt K us dn z c l H') ps (wkeys us dn z c l n) ∧ σ' = [some (.ref a), some (.int n), some (.int ((placedM us dn z c l n).1 : Int)), some (.int (placedM us dn z c l n).2), some (.ref F), v], ?_, ?_⟩
    · refine ⟨_, rfl, .inl ⟨rfl, _, SqL.of hF3⟩, ?_⟩
      refine ⟨_, rfl, _, rfl, _, rfl, ?_⟩
      refine ⟨a, us, dn, z, c, l, (placedM us dn z c l n).1, _, rfl, hL.same s3, g, u1, u3, u2, fun D ps' H5 s5 hD hps' => ?_⟩
      have hF5 := s5 _ _ hF3
      have hpl' := hps'.length
      have htl := tms_len (fmM us dn l (placedM us dn z c l n).1) (placedM us dn z c l n).2
      refine ⟨F, D, _, _, rfl, rfl, hF5, hD, ?_, ?_⟩
      · rw [List.length_map] at *
        rw [List.length_map]
        have := g.u.hi
        exact Nat.le_trans (show _ ≤ 1000 by omega) (by decide)
      · refine ⟨ps ++ ps', hb (s3.trans s5), by rw [upd_same, List.map_append], ?_, rfl⟩
        exact paired_app8 (paired_imp (fun x k hk => SqT.updL hF5 hk) hps') (paired_imp (fun x k hk => SqT.updL hF5 (same_sqt s5 hk)) hps)
    rintro σ' H4 ⟨qs, s4, hF4, hqs, rfl⟩
    have hql := hqs.length
    have hne : 0 < qs.length := by
      rw [hql]
      have := in_tms (f := fmM us dn l (placedM us dn z c l n).1) (t := (placedM us dn z c l n).2) (m := (placedM us dn z c l n).2) (Int.le_refl _) (.inr (.inr (.inr rfl)))
      have hm : ((placedM us dn z c l n).1, (placedM us dn z c l n).2) ∈ wkeys us dn z c l n := by
        unfold wkeys
        exact List.mem_append_right _ (List.mem_map_of_mem this)
      exact List.length_pos_of_mem hm
    obtain ⟨kf, hkf⟩ : ∃ kf : Nat → Int, ∀ i k, (wkeys us dn z c l n)[i]? = some k → kf i = wK us dn z c l k := ⟨fun i => wK us dn z c l ((wkeys us dn z c l n).getD i (0, 0)), fun i k e => by
      show wK us dn z c l ((wkeys us dn z c l n).getD i (0, 0)) = _
      rw [List.getD_eq_getElem?_getD, e]
      rfl⟩
    refine ⟨_, rfl, F, qs, kf, rfl, rfl, SqL.of hF4, hne, fun i x hx => ?_, fun i x hx h1 h2 => ?_⟩
    · obtain ⟨k, hk, hr'⟩ := paired_get8 hqs hx
      exact ⟨x, _, _, rfl, hr', congrArg V.int (hkf i k hk).symm, rfl⟩
    · obtain ⟨k, hk, hr'⟩ := paired_get8 hqs hx
      have e1 := hkf i k hk
      refine q _ _ x H4 s4 (widest_of g n0 hk (fun j k' hj => ?_) fun j k' hji hj => ?_) hr'
      · have hjl := (List.getElem?_eq_some_iff.mp hj).1
        have := h1 j (by omega)
        rw [hkf j k' hj, e1] at this
        exact this
      · have := h2 j hji
        rw [hkf j k' hj, e1] at this
        exact this
end
end My

namespace My
open PySem PySem.Spec PyProof.Rows L2
abbrev sReached : Stmt := top 36
abbrev sIsShown : Stmt := top 46
theorem scReached : FnScope ["ladder", "place", "mark", "number"] ["ladder", "place", "mark"] (defScope sReached) := ⟨rfl, rfl, rfl, by decide +kernel, rfl, by decide +kernel, by decide +kernel⟩
theorem scIsShown : FnScope ["ladder", "text", "place", "mark"] ["ladder", "text"] (defScope sIsShown) := ⟨rfl, rfl, rfl, by decide +kernel, rfl, by decide +kernel, by decide +kernel⟩
/-- the number at which a figure must be shown, if at any -/
def topM (us : List (Str × Int)) (d : Nat) (l : Int) (p : Nat) (m : Int) : Int := if p + 1 < us.length then min2 (m * (stepsOf us d).getD p 0) ((thrsOf us l).getD (p + 1) 0 - 1) else m * (stepsOf us d).getD p 0
theorem eqv_pair (a b c d : Int) : PyData.eqv (.tuple [.int a, .int b]) (.tuple [.int c, .int d]) = (decide (a = c) && decide (b = d)) := by
  by_cases h1 : a = c <;> by_cases h2 : b = d <;> simp [PyData.eqv, PyData.eqvAll, h1, h2]
def reachB (us : List (Str × Int)) (d : Nat) (s : Str) (c : Bool) (l : Int) (p : Nat) (m : Int) : Bool := decide (placedM us d s c l (topM us d l p m) = (p, m))
def spReached (K : PySem.W.Frag) (C : Addr) : Sp := fun vs H Q _ => ∃ (a : Addr) (us : List (Str × Int)) (d : Nat) (s : Str) (c : Bool) (l : Int) (p : Nat) (m : Int), vs = [.ref a, .int (p : Int), .int m] ∧ LadAt K C H a us d s c l ∧ Good us d s l ∧ p < us.length ∧ 0 ≤ m ∧ ∀ H', Same H H' → Q (.bl (reachB us d s c l p m)) H'
def spIsShown (K : PySem.W.Frag) (C : Addr) : Sp := fun vs H Q _ => ∃ (a : Addr) (us : List (Str × Int)) (d : Nat) (s : Str) (c : Bool) (l : Int) (p : Nat) (m : Int), vs = [.ref a, .str (writ us d p m)] ∧ LadAt K C H a us d s c l ∧ Good us d s l ∧ p < us.length ∧ 0 ≤ m ∧ m < 10 ^ 24 ∧ ∀ H', Same H H' → Q (.bl (reachB us d s c l p m)) H'
section
variable {P : Program} {w : World} {K : PySem.W.Frag} {mg : Str → Option Value} {base : Heap}
theorem ok_reached {C : Addr} (d : Dd K mg "is_reached" sReached ["ladder", "place", "mark"]) (dPl : Dd K mg "placed" sPlaced ["ladder", "number"]) (L : LadC K mg) (eC : C = L.C) (B : Bt mg)
    (GPl : FnOk P w K mg base CX0 4 dPl.f dPl.fd ["ladder", "number"] (spPlaced K L.C)) : FnOk P w K mg base CX0 5 d.f d.fd ["ladder", "place", "mark"] (spReached K L.C) := by
  refine d.F.ok scReached (fun vs H Q E h => ?_) (fun cdv A outer s H vs Q E hr h => ?_)
  · obtain ⟨_, _, _, _, _, _, _, _, rfl, _⟩ := h
    rfl
  · obtain ⟨a, us, dn, z, c, l, p, m, rfl, hL, g, hlt, hm, q⟩ := h
    have hu := hr.units
    have nd := scReached.nd
    refine ⟨_, (Evl.pss_cut (ps_set (i := 3) nd rfl (.inl rfl) (pe_op op_mul (pv 2) (pe_ix (r := rIxT K) ix_tup (pe_fld (pv 0) rfl) (pv 1) (fun _ _ => rfl))))
  (Evl.pss_cut (ps_if (pt_cmpR op_lt (pe_op op_add (pv 1) pe_int) (pe_callB call_len_seq (by rfl) B.len PySem.boot_len (pa_cons (pe_fld (pv 0) rfl) pa_nil)) (nomark _)) (pss_one (ps_set (i := 3) nd rfl (.inl rfl) (pe_callB (call_min2 rfl) (by rfl) B.min (by decide +kernel) (pa_cons (pv 3) (pa_cons (pe_op op_sub (pe_ix (r := rIxT K) ix_tup (pe_fld (pv 0) rfl) (pe_op op_add (pv 1) pe_int) (fun _ _ => rfl)) pe_int) pa_nil))))) pss_nil)
  (pss_one (ps_ret (pe_cmpR (r := rEqD K) (op_eqD hu) (pe_call GPl hr (by rfl) dPl.g dPl.F.kp dPl.b .nil pass0 (pa_cons (pv 0) (pa_cons (pv 3) pa_nil))) (pe_tup (pa_cons (pv 1) (pa_cons (pv 2) pa_nil))) (by rfl)))))), ?_⟩
    obtain ⟨dx, ua, t, st, th, hp, ⟨ps, hua, hup⟩, ht, hs, hth⟩ := id hL
    have el := UP.len hup
    obtain ⟨k1, k2, k3⟩ := steps_ok g hlt
    have at1 : atI ((stepsOf us dn).map V.int) ((p : Nat) : Int) = some (.int ((stepsOf us dn).getD p 0)) := atI_nat (by rw [List.getElem?_map, k1]; rfl)
    refine ⟨fun σ' H' => H' = H ∧ σ' = [some (.ref a), some (.int (p : Int)), some (.int m), some (.int (m * (stepsOf us dn).getD p 0))], ?_, ?_⟩
    · exact ⟨_, rfl, _, rfl, a, L.C, dx, _, _, rfl, hp, L.cl, L.nSteps, fl_steps .., _, rfl, st, _, p, .int ((stepsOf us dn).getD p 0), rfl, rfl, hs, at1, m, _, rfl, rfl, .inr ⟨by omega, by omega⟩, rfl, rfl⟩
    rintro σ' H' ⟨rfl, rfl⟩
    refine ⟨fun σ' H1 => H1 = H' ∧ σ' = [some (.ref a), some (.int (p : Int)), some (.int m), some (.int (topM us dn l p m))], ?_, ?_⟩
    · refine ⟨_, rfl, p, 1, rfl, rfl, _, rfl, a, L.C, dx, _, _, rfl, hp, L.cl, L.nUnits, fl_units .., ua, _, rfl, .inr hua, _, _, rfl, rfl, _, rfl, ite2 (fun e => ?_) (fun e => ?_)⟩
      · have e1 : (p : Int) + 1 < ((ps.map V.ref).length : Int) := of_decide_eq_true e
        rw [List.length_map, el] at e1
        have h1 : p + 1 < us.length := by omega
        have lt := len_thrs us l g.u.lo
        have t1 : (thrsOf us l)[p + 1]? = some ((thrsOf us l).getD (p + 1) 0) := by
          have h2 : (thrsOf us l)[p + 1]? = some (thrsOf us l)[p + 1] := List.getElem?_eq_getElem (by omega)
          rw [List.getD_eq_getElem?_getD, h2]
          rfl
        refine ⟨_, rfl, _, rfl, a, L.C, dx, _, _, rfl, hp, L.cl, L.nThr, fl_thr .., _, rfl, p, 1, rfl, rfl, th, _, (p + 1 : Nat), .int ((thrsOf us l).getD (p + 1) 0), rfl, rfl, hth, atI_nat (by rw [List.getElem?_map, t1]; rfl), _, _, rfl, rfl, ?_⟩
        refine ⟨_, _, rfl, ?_⟩
        unfold topM
        rw [if_pos h1]
        exact ⟨rfl, rfl⟩
      · have e1 : ¬ (p : Int) + 1 < ((ps.map V.ref).length : Int) := fun z => e (decide_eq_true z)
        rw [List.length_map, el] at e1
        unfold topM
        rw [if_neg (by omega : ¬ p + 1 < us.length)]
        exact ⟨rfl, rfl⟩
    rintro σ' H1 ⟨rfl, rfl⟩
    have t0 : 0 ≤ topM us dn l p m := by
      have h0 : 0 ≤ m * (stepsOf us dn).getD p 0 := Int.mul_nonneg hm (by omega)
      unfold topM
      split
      · rename_i h1
        have h3 : (thrsOf us l).getD (p + 1) 0 = szOf us (p + 1) * l := thr_eq (by omega) h1
        have h4 : 1 ≤ szOf us (p + 1) := by
          rw [szOf_at (List.getElem?_eq_getElem h1)]
          exact (g.u.each _ _ (List.getElem?_eq_getElem h1)).2.1
        have h5 : 1 * 1 ≤ szOf us (p + 1) * l := Int.mul_le_mul h4 g.l1 (by decide) (by omega)
        unfold min2
        split <;> omega
      · exact h0
    refine ⟨_, rfl, _, rfl, a, us, dn, z, c, l, _, rfl, hL, g, t0, fun r H2 s2 hr2 => ?_⟩
    refine ⟨_, rfl, _, rfl, (by show 2 ≤ sizeLine; decide), fun t9 n9 => ?_⟩
    have s9 := same_upd n9 (o := .tup [V.int (p : Int), V.int m])
    refine ⟨.tuple [.int _, .int _], .tuple [.int (p : Int), .int m], .tup (same_sqt s9 hr2) (.cons (.int _) (.cons (.int _) .nil)), .tup (SqT.of upd_same) (.cons (.int _) (.cons (.int _) .nil)), rfl, rfl, ?_⟩
    have e : PyData.eqv (.tuple [.int ((placedM us dn z c l (topM us dn l p m)).1 : Int), .int (placedM us dn z c l (topM us dn l p m)).2]) (.tuple [.int (p : Int), .int m]) = reachB us dn z c l p m := by
      rw [eqv_pair]
      unfold reachB
      generalize placedM us dn z c l (topM us dn l p m) = pm
      obtain ⟨p', m'⟩ := pm
      by_cases h1 : p' = p
      · by_cases h2 : m' = m
        · rw [decide_eq_true (show ((p' : Nat) : Int) = p by omega), decide_eq_true h2, decide_eq_true (by rw [h1, h2])]
          rfl
        · rw [decide_eq_false h2, Bool.and_false, decide_eq_false (fun e => h2 (Prod.mk.inj e).2)]
      · rw [decide_eq_false (show ¬ ((p' : Nat) : Int) = p by omega), Bool.false_and, decide_eq_false (fun e => h1 (Prod.mk.inj e).1)]
    rw [e]
    exact q _ (s2.trans s9)
theorem ok_isshown {C : Addr} (d : Dd K mg "is_shown" sIsShown ["ladder", "text"]) (dC : Dd K mg "check_ladder" sCLad ["ladder"]) (dF : Dd K mg "parts_of_figure" sPFig ["ladder", "text"]) (dR : Dd K mg "is_reached" sReached ["ladder", "place", "mark"])
    (GC : FnOk P w K mg base CX0 2 dC.f dC.fd ["ladder"] (spCLad K C)) (GF : FnOk P w K mg base CX0 4 dF.f dF.fd ["ladder", "text"] (spPartsOf K C)) (GR : FnOk P w K mg base CX0 5 dR.f dR.fd ["ladder", "place", "mark"] (spReached K C)) :
    FnOk P w K mg base CX0 6 d.f d.fd ["ladder", "text"] (spIsShown K C) := by
  refine d.F.ok scIsShown (fun vs H Q E h => ?_) (fun cdv A outer s H vs Q E hr h => ?_)
  · obtain ⟨_, _, _, _, _, _, _, _, rfl, _⟩ := h
    rfl
  · obtain ⟨a, us, dn, z, c, l, p, m, rfl, hL, g, hlt, hm, hm2, q⟩ := h
    have hr1 : Room 2 _ := hr.mono (by decide)
    have hr4 : Room 4 _ := hr.mono (by decide)
    have nd := scIsShown.nd
    refine ⟨_, (Evl.pss_cut (ps_expr (pe_call GC hr1 (by rfl) dC.g dC.F.kp dC.b .nil pass0 (pa_cons (pv 0) pa_nil)))
  (Evl.pss_cut (ps_asg (pe_call GF hr4 (by rfl) dF.g dF.F.kp dF.b .nil pass0 (pa_cons (pv 0) (pa_cons (pv 1) pa_nil))) (pg_tup rfl (pgs_cons (pg_name (i := 2) nd rfl (Or.inl rfl)) (pgs_cons (pg_name (i := 3) nd rfl (Or.inl rfl)) pgs_nil))))
  (pss_one (ps_ret (pe_call GR hr (by rfl) dR.g dR.F.kp dR.b .nil pass0 (pa_cons (pv 0) (pa_cons (pv 2) (pa_cons (pv 3) pa_nil)))))))), ?_⟩
    refine ⟨fun σ' H' => H' = H ∧ σ' = [some (.ref a), some (.str (writ us dn p m)), none, none], ⟨_, rfl, a, us, dn, z, c, l, rfl, hL, rfl, rfl⟩, ?_⟩
    rintro σ' H' ⟨rfl, rfl⟩
    refine ⟨fun σ' H1 => Same H' H1 ∧ σ' = [some (.ref a), some (.str (writ us dn p m)), some (.int (p : Int)), some (.int m)], ?_, ?_⟩
    · refine ⟨_, rfl, _, rfl, a, us, dn, z, c, l, p, m, rfl, hL, g, hlt, hm, hm2, fun r H1 s1 hr' => ?_⟩
      exact ⟨r, _, rfl, hr', rfl, _, _, rfl, _, _, rfl, rfl, s1, rfl⟩
    rintro σ' H1 ⟨s1, rfl⟩
    refine ⟨_, rfl, _, rfl, _, rfl, a, us, dn, z, c, l, p, m, rfl, hL.same s1, g, hlt, hm, fun H2 s2 => q _ (s1.trans s2)⟩
end
end My

/-! what the program's functions answer on ladders that are written out: one lemma a function, whose facts the kernel works out -/
namespace My
open PySem PySem.Spec PyProof.Rows L2
/-! ### terms that are worked out -/
section
variable {X : Cx}
theorem pe_as {e : Expr} {t t' : TE} (h : PE X e t) (i : ∀ σ H Q, t' σ H Q → t σ H Q) : PE X e t' := ⟨fun pins s σ H Q I q => h.run pins s σ H Q I (i σ H Q q)⟩
theorem c_add {a b : Expr} {pos} {i j : Int} (k : Int) (ha : PE X a (tC (.int i))) (hb : PE X b (tC (.int j))) (e : i + j = k) : PE X (.BinOp a .Add b pos) (tC (.int k)) := pe_as (pe_op op_add ha hb) fun σ H Q q => ⟨i, j, rfl, rfl, by cases e; exact q⟩
theorem c_sub {a b : Expr} {pos} {i j : Int} (k : Int) (ha : PE X a (tC (.int i))) (hb : PE X b (tC (.int j))) (e : i - j = k) : PE X (.BinOp a .Sub b pos) (tC (.int k)) := pe_as (pe_op op_sub ha hb) fun σ H Q q => ⟨i, j, rfl, rfl, by cases e; exact q⟩
theorem c_mul {a b : Expr} {pos} {i j : Int} (k : Int) (ha : PE X a (tC (.int i))) (hb : PE X b (tC (.int j))) (c : -(2 ^ 64) < i ∧ i < 2 ^ 64) (e : i * j = k) : PE X (.BinOp a .Mult b pos) (tC (.int k)) := pe_as (pe_op op_mul ha hb) fun σ H Q q => ⟨i, j, rfl, rfl, .inl c, by cases e; exact q⟩
theorem c_pow {a b : Expr} {pos} {i j : Int} (k : Int) (ha : PE X a (tC (.int i))) (hb : PE X b (tC (.int j))) (c : 0 ≤ j ∧ j ≤ 1000000 ∧ i.natAbs < 2 ^ 64) (e : i ^ j.toNat = k) : PE X (.BinOp a .Pow b pos) (tC (.int k)) := pe_as (pe_op op_pow ha hb) fun σ H Q q => ⟨i, j, rfl, rfl, c, by cases e; exact q⟩
theorem c_neg {a : Expr} {pos} {i : Int} (k : Int) (ha : PE X a (tC (.int i))) (e : -i = k) : PE X (.UnaryOp .USub a pos) (tC (.int k)) := pe_as (pe_un un_neg ha) fun σ H Q q => ⟨i, rfl, by cases e; exact q⟩
end
theorem nil_go {σ : L2.St} {H : Hp} {f : List V → Hp → Prop} (h : f [] H) : tNil σ H f := h
theorem tC_go {v : V} {σ : L2.St} {H : Hp} {Q : VK} (h : Q v H) : tC v σ H Q := h
theorem con_go {v : V} {tb : TA} {σ : L2.St} {H : Hp} {f : List V → Hp → Prop} (h : tb σ H (fun vs H1 => f (v :: vs) H1)) : tCons (tC v) tb σ H f := h
theorem eqT {x y : V} {H : Hp} {Q : VK} (hs : scal x y = true) (e : x = y) (q : Q (.bl true) H) : rEq x y H Q := ⟨hs, by rw [decide_eq_true e]; exact q⟩
theorem eqDT {K : PySem.W.Frag} {x y : V} {H : Hp} {Q : VK} {d e : PyData} (hd : Dp K H x d) (he : Dp K H y e) (sd : SeqAt.shaped d = true) (se : SeqAt.shaped e = true) (ev : PyData.eqv d e = true) (q : Q (.bl true) H) : rEqD K x y H Q := ⟨d, e, hd, he, sd, se, by rw [ev]; exact q⟩
theorem iteY7 {c : Bool} {P R : Prop} (h : c = true) (p : P) : if c = true then P else R := by rw [if_pos h]; exact p
/-! ### answers of first_unlike, first_drift, first_untold -/
theorem unl_some {A B : Lad} (gA : A.Ok) (gB : B.Ok) (n0 : Int) (h0 : 0 ≤ n0) (h1 : n0 < 10 ^ 38) (hd : decide (A.show n0 = B.show n0) = false)
    (hall : ((possL A B (A.stars ++ B.stars)).all fun x => decide (n0 ≤ x) || decide (A.show x = B.show x)) = true) {r : Option Int} (h : Unlike A B r) : r = some n0 := by
  have hd := of_decide_eq_false hd
  cases r with
  | none => exact absurd (h n0 h0 h1) hd
  | some n =>
    obtain ⟨n1, n2, n3, n4⟩ := h
    have hle : n ≤ n0 := Int.not_lt.mp fun w => hd (n4 n0 h0 w)
    obtain ⟨a, ha, hn⟩ := unlike_tried gA gB n1 (Int.lt_of_le_of_lt n2 (by decide)) n3 n4
    have hm : n ∈ possL A B (A.stars ++ B.stars) := by
      unfold possL
      rw [List.mem_flatMap]
      refine ⟨a, List.mem_append.mpr ha, ?_⟩
      rcases hn with e | e | e
      · rw [e]
        exact List.mem_cons_self
      · exact List.mem_cons_of_mem _ (List.mem_append.mpr (.inl e))
      · exact List.mem_cons_of_mem _ (List.mem_append.mpr (.inr e))
    have h2 := List.all_eq_true.mp hall n hm
    rw [Bool.or_eq_true, decide_eq_true_eq, decide_eq_true_eq] at h2
    rcases h2 with e | e
    · rw [show n = n0 by omega]
    · exact absurd e n3
theorem unl_none {A B : Lad} (gA : A.Ok) (gB : B.Ok) (hall : ((possL A B (A.stars ++ B.stars)).all fun x => decide (A.show x = B.show x)) = true) {r : Option Int} (h : Unlike A B r) : r = none := by
  cases r with
  | none => rfl
  | some n =>
    obtain ⟨n1, n2, n3, n4⟩ := h
    obtain ⟨a, ha, hn⟩ := unlike_tried gA gB n1 (Int.lt_of_le_of_lt n2 (by decide)) n3 n4
    have hm : n ∈ possL A B (A.stars ++ B.stars) := by
      unfold possL
      rw [List.mem_flatMap]
      refine ⟨a, List.mem_append.mpr ha, ?_⟩
      rcases hn with e | e | e
      · rw [e]
        exact List.mem_cons_self
      · exact List.mem_cons_of_mem _ (List.mem_append.mpr (.inl e))
      · exact List.mem_cons_of_mem _ (List.mem_append.mpr (.inr e))
    exact absurd (of_decide_eq_true (List.all_eq_true.mp hall n hm)) n3
def chgB (A : Lad) (n : Int) : Bool := !decide (placedM A.us A.d A.s A.c A.l (n - 1) = placedM A.us A.d A.s A.c A.l n)
theorem chgB_iff {A : Lad} {n : Int} : chgB A n = true ↔ A.Chg n := by
  unfold chgB
  show _ ↔ ¬ _
  rw [Bool.not_eq_true', decide_eq_false_iff_not]
theorem unt_some {A B : Lad} (gA : A.Ok) (gB : B.Ok) (n0 : Int) (h0 : 1 ≤ n0) (hB : chgB B n0 = true) (hA : chgB A n0 = false)
    (hall : ((possC B (A.stars ++ B.stars)).all fun x => decide (n0 ≤ x) || (!chgB B x || chgB A x)) = true) {r : Option Int} (h : Untold A B r) : r = some n0 := by
  have hB := chgB_iff.mp hB
  have hA : ¬ A.Chg n0 := fun w => by rw [chgB_iff.mpr w] at hA; cases hA
  cases r with
  | none => exact absurd (h n0 h0 hB) hA
  | some n =>
    obtain ⟨n1, n2, n3, n4, n5⟩ := h
    have hle : n ≤ n0 := Int.not_lt.mp fun w => hA (n5 n0 h0 w hB)
    obtain ⟨a, ha, hn⟩ := untold_tried gA gB n1 n3 n4 n5
    have hm : n ∈ possC B (A.stars ++ B.stars) := by
      unfold possC
      rw [List.mem_flatMap]
      refine ⟨a, List.mem_append.mpr ha, ?_⟩
      rcases hn with e | e
      · rw [e]
        exact List.mem_cons_self
      · exact List.mem_cons_of_mem _ e
    have h2 := List.all_eq_true.mp hall n hm
    rw [Bool.or_eq_true, Bool.or_eq_true, decide_eq_true_eq, Bool.not_eq_true'] at h2
    rcases h2 with e | e | e
    · rw [show n = n0 by omega]
    · rw [chgB_iff.mpr n3] at e
      cases e
    · exact absurd (chgB_iff.mp e) n4
theorem unt_none {A B : Lad} (gA : A.Ok) (gB : B.Ok) (hall : ((possC B (A.stars ++ B.stars)).all fun x => !chgB B x || chgB A x) = true) {r : Option Int} (h : Untold A B r) : r = none := by
  cases r with
  | none => rfl
  | some n =>
    obtain ⟨n1, n2, n3, n4, n5⟩ := h
    obtain ⟨a, ha, hn⟩ := untold_tried gA gB n1 n3 n4 n5
    have hm : n ∈ possC B (A.stars ++ B.stars) := by
      unfold possC
      rw [List.mem_flatMap]
      refine ⟨a, List.mem_append.mpr ha, ?_⟩
      rcases hn with e | e
      · rw [e]
        exact List.mem_cons_self
      · exact List.mem_cons_of_mem _ e
    have h2 := List.all_eq_true.mp hall n hm
    rw [Bool.or_eq_true, Bool.not_eq_true'] at h2
    rcases h2 with e | e
    · rw [chgB_iff.mpr n3] at e
      cases e
    · exact absurd (chgB_iff.mp e) n4
def driftB (us : List (Str × Int)) (d : Nat) (s : Str) (c : Bool) (l : Int) (p : Nat) : Bool := decide (p + 1 < us.length) && decide (startM us d s c l (p + 1) ≤ lmM us d s c l p * (stepsOf us d).getD p 0)
theorem driftB_iff {us : List (Str × Int)} {d : Nat} {s : Str} {c : Bool} {l : Int} {p : Nat} : driftB us d s c l p = true ↔ DriftAt us d s c l p := by
  unfold driftB DriftAt
  rw [Bool.and_eq_true, decide_eq_true_eq, decide_eq_true_eq]
theorem drift_some {us : List (Str × Int)} {d : Nat} {s : Str} {c : Bool} {l : Int} (p : Nat) (n0 : Int) (h1 : driftB us d s c l p = true) (h2 : ((List.range p).all fun q => !driftB us d s c l q) = true) (h3 : lowM us d s c l p (lmM us d s c l p) = n0) {r : Option Int} (h : FirstDrift us d s c l r) : r = some n0 := by
  have no : ∀ q, q < p → ¬ DriftAt us d s c l q := fun q hq w => by
    have := List.all_eq_true.mp h2 q (List.mem_range.mpr hq)
    rw [driftB_iff.mpr w] at this
    cases this
  cases r with
  | none => exact absurd (driftB_iff.mp h1) (h p)
  | some n =>
    obtain ⟨p', a1, a2, a3⟩ := h
    have e : p' = p := by
      rcases Nat.lt_trichotomy p' p with w | w | w
      · exact absurd a1 (no p' w)
      · exact w
      · exact absurd (driftB_iff.mp h1) (a2 p w)
    rw [a3, e, h3]
theorem drift_none {us : List (Str × Int)} {d : Nat} {s : Str} {c : Bool} {l : Int} (h2 : ((List.range us.length).all fun q => !driftB us d s c l q) = true) {r : Option Int} (h : FirstDrift us d s c l r) : r = none := by
  cases r with
  | none => rfl
  | some n =>
    obtain ⟨p', a1, a2, a3⟩ := h
    have := List.all_eq_true.mp h2 p' (List.mem_range.mpr (by have := a1.1; omega))
    rw [driftB_iff.mpr a1] at this
    cases this
/-! ### the functions -/
section
variable {us : List (Str × Int)} {d : Nat} {s : Str} {c : Bool} {l : Int} {K : PySem.W.Frag} {C p p2 T : Addr} {H : Hp} {x y : Str} {xs : List Str} {Qx : VK} {Ex : XK}
def koB (us : List (Str × Int)) (ks : List FKey) : Bool := ks.all fun k => decide (k.1 < us.length) && (decide (0 ≤ k.2) && decide (k.2 < 10 ^ 24))
theorem ko_of {ks : List FKey} (h : koB us ks = true) : ∀ k ∈ ks, KeyOk us k := fun k hk => by
  unfold koB at h
  rw [List.all_eq_true] at h
  have := h k hk
  simp only [Bool.and_eq_true, decide_eq_true_eq] at this
  exact ⟨this.1, this.2.1, this.2.2⟩
theorem ko_one {k : FKey} (h : koB us [k] = true) : KeyOk us k := ko_of h k List.mem_cons_self
theorem txt_of {ks : List FKey} (hT : SqT K H T (xs.map V.str)) (e : ks.map (textK us d) = xs) : SqT K H T (ks.map fun k => V.str (textK us d k)) := by
  rw [← e, List.map_map] at hT
  exact hT
theorem two_dp {H : Hp} {r : Addr} {a b : Int} (h : SqT K H r [.int a, .int b]) : Dp K H (.ref r) (.tuple [.int a, .int b]) := .tup h (.cons (.int _) (.cons (.int _) .nil))
theorem go_show (n : Int) (x : Str) (hL : LadAt K C H p us d s c l) (g : Good us d s l) (h : decide (0 ≤ n ∧ n ≤ 1000000000000000000) = true) (e : shown us d s c l n = x) (q : ∀ H', Same H H' → Qx (.str x) H') : spShow K C [.ref p, .int n] H Qx Ex :=
  ⟨p, us, d, s, c, l, n, rfl, hL, g, (of_decide_eq_true h).1, (of_decide_eq_true h).2, fun H' s' => by rw [e]; exact q H' s'⟩
theorem go_worth (k : FKey) (v : Int) (hL : LadAt K C H p us d s c l) (g : Good us d s l) (e1 : textK us d k = x) (e2 : koB us [k] = true) (e : k.2 * (stepsOf us d).getD k.1 0 = v) (q : ∀ H', Same H H' → Qx (.int v) H') : spWorth K C [.ref p, .str x] H Qx Ex :=
  ⟨p, us, d, s, c, l, k.1, k.2, by rw [← e1], hL, g, (ko_one e2).1, (ko_one e2).2.1, (ko_one e2).2.2, fun H' s' => by rw [e]; exact q H' s'⟩
theorem go_range (k : FKey) (lo hi : Int) (hL : LadAt K C H p us d s c l) (g : Good us d s l) (e1 : textK us d k = x) (e2 : koB us [k] = true) (e3 : lowK us d s c l k = lo) (e4 : highK us d s c l k = hi) (e5 : decide (lo ≤ hi) = true) (q : ∀ r H', Same H H' → Dp K H' (.ref r) (.tuple [.int lo, .int hi]) → Qx (.ref r) H') : spRangeOf K C [.ref p, .str x] H Qx Ex := by
  refine ⟨p, us, d, s, c, l, k.1, k.2, by rw [← e1], hL, g, (ko_one e2).1, (ko_one e2).2.1, (ko_one e2).2.2, fun bad => ?_, fun ok r H' s' hr => q r H' s' (two_dp ?_)⟩
  · have := of_decide_eq_true e5
    have b : highK us d s c l k < lowK us d s c l k := bad
    omega
  · rw [← e3, ← e4]
    exact hr
theorem go_rangeN (k : FKey) (hL : LadAt K C H p us d s c l) (g : Good us d s l) (e1 : textK us d k = x) (e2 : koB us [k] = true) (e5 : decide (highK us d s c l k < lowK us d s c l k) = true) (q : ∀ H', Same H H' → Qx .non H') : spRangeOf K C [.ref p, .str x] H Qx Ex := by
  refine ⟨p, us, d, s, c, l, k.1, k.2, by rw [← e1], hL, g, (ko_one e2).1, (ko_one e2).2.1, (ko_one e2).2.2, fun bad H' s' => q H' s', fun ok => ?_⟩
  have := of_decide_eq_true e5
  have b : lowK us d s c l k ≤ highK us d s c l k := ok
  omega
theorem go_isshown (k : FKey) (b : Bool) (hL : LadAt K C H p us d s c l) (g : Good us d s l) (e1 : textK us d k = x) (e2 : koB us [k] = true) (e : reachB us d s c l k.1 k.2 = b) (q : ∀ H', Same H H' → Qx (.bl b) H') : spIsShown K C [.ref p, .str x] H Qx Ex :=
  ⟨p, us, d, s, c, l, k.1, k.2, by rw [← e1], hL, g, (ko_one e2).1, (ko_one e2).2.1, (ko_one e2).2.2, fun H' s' => by rw [e]; exact q H' s'⟩
def hidA (us : List (Str × Int)) (d : Nat) (s : Str) (c : Bool) (l n : Int) : Int := n - lowM us d s c l (placedM us d s c l n).1 (placedM us d s c l n).2
def hidB (us : List (Str × Int)) (d : Nat) (s : Str) (c : Bool) (l n : Int) : Int := highM us d s c l (placedM us d s c l n).1 (placedM us d s c l n).2 - n
theorem go_hidden (n a b : Int) (hL : LadAt K C H p us d s c l) (g : Good us d s l) (h : decide (0 ≤ n ∧ n ≤ 1000000000000000000) = true) (e1 : hidA us d s c l n = a) (e2 : hidB us d s c l n = b) (e3 : decide (0 ≤ a ∧ 0 ≤ b) = true) (q : ∀ r H', Same H H' → Dp K H' (.ref r) (.tuple [.int a, .int b]) → Qx (.ref r) H') : spHidden K C [.ref p, .int n] H Qx Ex := by
  have e3 := of_decide_eq_true e3
  refine ⟨p, us, d, s, c, l, n, rfl, hL, g, (of_decide_eq_true h).1, (of_decide_eq_true h).2, ?_, fun r H' s' hr => q r H' s' (two_dp ?_)⟩
  · unfold hidA at e1
    unfold hidB at e2
    omega
  · rw [← e1, ← e2]
    exact hr
theorem go_nextf (k : FKey) (y : Str) (hL : LadAt K C H p us d s c l) (g : Good us d s l) (e1 : textK us d k = x) (e2 : koB us [k] = true) (e3 : decide (lowK us d s c l k ≤ highK us d s c l k ∧ highK us d s c l k < 1000000000000000000000000000000) = true) (e4 : shown us d s c l (highK us d s c l k + 1) = y) (q : ∀ H', Same H H' → Qx (.str y) H') : spNextF K C [.ref p, .str x] H Qx Ex :=
  ⟨p, us, d, s, c, l, k.1, k.2, by rw [← e1], hL, g, (ko_one e2).1, (ko_one e2).2.1, (ko_one e2).2.2, (of_decide_eq_true e3).1, (of_decide_eq_true e3).2, fun H' s' => by rw [e4]; exact q H' s'⟩
theorem go_placeof (k : FKey) (v : Int) (hL : LadAt K C H p us d s c l) (g : Good us d s l) (e1 : textK us d k = x) (e2 : koB us [k] = true) (e3 : decide (lowK us d s c l k ≤ highK us d s c l k) = true) (e4 : idxM us d s c l k = v) (q : ∀ H', Same H H' → Qx (.int v) H') : spPlaceOf K C [.ref p, .str x] H Qx Ex :=
  ⟨p, us, d, s, c, l, k.1, k.2, by rw [← e1], hL, g, (ko_one e2).1, (ko_one e2).2.1, (ko_one e2).2.2, of_decide_eq_true e3, fun H' s' => by rw [show idxM us d s c l (k.1, k.2) = v from e4]; exact q H' s'⟩
theorem go_forms (a b v : Int) (hL : LadAt K C H p us d s c l) (g : Good us d s l) (h : decide (0 ≤ a ∧ a ≤ b ∧ b ≤ 1000000000000000000) = true) (e : fbM us d s c l b - fbM us d s c l a + 1 = v) (q : ∀ H', Same H H' → Qx (.int v) H') : spForms K C [.ref p, .int a, .int b] H Qx Ex :=
  ⟨p, us, d, s, c, l, a, b, rfl, hL, g, (of_decide_eq_true h).1, (of_decide_eq_true h).2.1, (of_decide_eq_true h).2.2, fun H' s' => by rw [e]; exact q H' s'⟩
theorem go_diff (k k' : FKey) (a b : Int) (hL : LadAt K C H p us d s c l) (g : Good us d s l) (e1 : textK us d k = x) (e1' : textK us d k' = y) (e2 : koB us [k, k'] = true) (e3 : decide (lowK us d s c l k ≤ highK us d s c l k ∧ lowK us d s c l k' ≤ highK us d s c l k') = true) (e4 : lowK us d s c l k' - highK us d s c l k = a) (e5 : highK us d s c l k' - lowK us d s c l k = b)
    (q : ∀ r H', Same H H' → Dp K H' (.ref r) (.tuple [.int a, .int b]) → Qx (.ref r) H') : spDiff K C [.ref p, .str x, .str y] H Qx Ex := by
  have ko := ko_of e2
  have e3 := of_decide_eq_true e3
  refine ⟨p, us, d, s, c, l, k, k', by rw [e1, e1'], hL, g, ko k List.mem_cons_self, ko k' (List.mem_cons_of_mem _ List.mem_cons_self), fun bad => ?_, fun _ _ r H' s' hr => q r H' s' (two_dp ?_)⟩
  · omega
  · rw [← e4, ← e5]
    exact hr
theorem go_firstu {A B : Lad} (n0 : Int) (hA : A.At K C H p) (hB : B.At K C H p2) (gA : A.Ok) (gB : B.Ok) (h0 : decide (0 ≤ n0 ∧ n0 < 10 ^ 38) = true) (hd : decide (A.show n0 = B.show n0) = false)
    (hall : ((possL A B (A.stars ++ B.stars)).all fun x => decide (n0 ≤ x) || decide (A.show x = B.show x)) = true) (q : ∀ H', Same H H' → Qx (.int n0) H') : spFirstU K C [.ref p, .ref p2] H Qx Ex :=
  ⟨p, p2, A, B, rfl, hA, hB, gA, gB, fun r H' s' hr => by rw [unl_some gA gB n0 (of_decide_eq_true h0).1 (of_decide_eq_true h0).2 hd hall hr]; exact q H' s'⟩
theorem go_firstuN {A B : Lad} (hA : A.At K C H p) (hB : B.At K C H p2) (gA : A.Ok) (gB : B.Ok) (hall : ((possL A B (A.stars ++ B.stars)).all fun x => decide (A.show x = B.show x)) = true) (q : ∀ H', Same H H' → Qx .non H') : spFirstU K C [.ref p, .ref p2] H Qx Ex :=
  ⟨p, p2, A, B, rfl, hA, hB, gA, gB, fun r H' s' hr => by rw [unl_none gA gB hall hr]; exact q H' s'⟩
theorem go_firstd (pl : Nat) (n0 : Int) (hL : LadAt K C H p us d s c l) (g : Good us d s l) (h1 : driftB us d s c l pl = true) (h2 : ((List.range pl).all fun q => !driftB us d s c l q) = true) (h3 : lowM us d s c l pl (lmM us d s c l pl) = n0) (q : ∀ H', Same H H' → Qx (.int n0) H') : spFirstD K C [.ref p] H Qx Ex :=
  ⟨p, us, d, s, c, l, rfl, hL, g, fun r H' s' hr => by rw [drift_some pl n0 h1 h2 h3 hr]; exact q H' s'⟩
theorem go_firstdN (hL : LadAt K C H p us d s c l) (g : Good us d s l) (h2 : ((List.range us.length).all fun q => !driftB us d s c l q) = true) (q : ∀ H', Same H H' → Qx .non H') : spFirstD K C [.ref p] H Qx Ex :=
  ⟨p, us, d, s, c, l, rfl, hL, g, fun r H' s' hr => by rw [drift_none h2 hr]; exact q H' s'⟩
theorem go_firstt {A B : Lad} (n0 : Int) (hA : A.At K C H p) (hB : B.At K C H p2) (gA : A.Ok) (gB : B.Ok) (h0 : decide (1 ≤ n0) = true) (h1 : chgB B n0 = true) (h2 : chgB A n0 = false)
    (hall : ((possC B (A.stars ++ B.stars)).all fun x => decide (n0 ≤ x) || (!chgB B x || chgB A x)) = true) (q : ∀ r H', Same H H' → Dp K H' (.ref r) (.tuple [.int (n0 - 1), .int n0]) → Qx (.ref r) H') : spFirstT K C [.ref p, .ref p2] H Qx Ex := by
  refine ⟨p, p2, A, B, rfl, hA, hB, gA, gB, fun H' s' h => ?_, fun n r H' s' h hr => ?_⟩
  · cases unt_some gA gB n0 (of_decide_eq_true h0) h1 h2 hall h
  · cases unt_some gA gB n0 (of_decide_eq_true h0) h1 h2 hall h
    exact q r H' s' (two_dp hr)
/-! rows -/
def okB (us : List (Str × Int)) (d : Nat) (s : Str) (c : Bool) (l : Int) (ks : List FKey) : Bool := ks.all fun k => decide (lowK us d s c l k ≤ highK us d s c l k)
theorem ok_of {ks : List FKey} (h : okB us d s c l ks = true) : ∀ k ∈ ks, lowK us d s c l k ≤ highK us d s c l k := fun k hk => by
  unfold okB at h
  rw [List.all_eq_true] at h
  exact of_decide_eq_true (h k hk)
theorem bad_of {ks : List FKey} {P : Prop} (h : okB us d s c l ks = true) (b : ∃ k ∈ ks, highK us d s c l k < lowK us d s c l k) : P := by
  obtain ⟨k, hk, e⟩ := b
  have := ok_of h k hk
  omega
theorem go_sum (ks : List FKey) (a b : Int) (hL : LadAt K C H p us d s c l) (g : Good us d s l) (hT : SqT K H T (xs.map V.str)) (e1 : ks.map (textK us d) = xs) (e3 : koB us ks = true) (hl : ks.length ≤ 12) (e4 : okB us d s c l ks = true) (e5 : sumL (prsOf us d s c l ks) = a) (e6 : sumH (prsOf us d s c l ks) = b) (q : ∀ r H', Same H H' → Dp K H' (.ref r) (.tuple [.int a, .int b]) → Qx (.ref r) H') : spSumRange K C [.ref p, .ref T] H Qx Ex :=
  ⟨p, T, us, d, s, c, l, ks, rfl, hL, g, txt_of hT e1, hl, ko_of e3, fun bad => bad_of e4 bad, fun ok r H' s' hr => q r H' s' (two_dp (by rw [← e5, ← e6]; exact hr))⟩
theorem go_tot (ks : List FKey) (a b : Str) (m : Int) (hL : LadAt K C H p us d s c l) (g : Good us d s l) (hT : SqT K H T (xs.map V.str)) (e1 : ks.map (textK us d) = xs) (e3 : koB us ks = true) (hl : ks.length ≤ 12) (e4 : okB us d s c l ks = true) (e5 : shown us d s c l (sumLK us d s c l ks) = a) (e6 : shown us d s c l (sumHK us d s c l ks) = b) (e7 : manyM us d s c l (sumLK us d s c l ks) (sumHK us d s c l ks) = m) (e8 : decide (sumHK us d s c l ks ≤ 1000000000000000000000000000000) = true)
    (q : ∀ r H', Same H H' → Dp K H' (.ref r) (.tuple [.str a, .str b, .int m]) → Qx (.ref r) H') : spTotals K C [.ref p, .ref T] H Qx Ex :=
  ⟨p, T, us, d, s, c, l, ks, rfl, hL, g, txt_of hT e1, ⟨hl, ko_of e3, fun _ => of_decide_eq_true e8⟩, fun bad => bad_of e4 bad, fun ok r H' s' hr => q r H' s' (.tup (by rw [← e5, ← e6, ← e7]; exact hr) (.cons (.str _) (.cons (.str _) (.cons (.int _) .nil))))⟩
theorem go_rising2 (k k' : FKey) (a b a' b' : Int) (hL : LadAt K C H p us d s c l) (g : Good us d s l) (hT : SqT K H T (xs.map V.str)) (e1 : [k, k'].map (textK us d) = xs) (e3 : koB us [k, k'] = true) (e4 : okB us d s c l [k, k'] = true)
    (e5 : lowK us d s c l k = a) (e6 : max2 a (lowK us d s c l k') = a') (e7 : highK us d s c l k' = b') (e8 : min2 (highK us d s c l k) b' = b) (e9 : decide (a ≤ b ∧ a' ≤ b') = true)
    (q : ∀ r t t' H', Same H H' → SqT K H' r [.ref t, .ref t'] → Dp K H' (.ref t) (.tuple [.int a, .int b]) → Dp K H' (.ref t') (.tuple [.int a', .int b']) → Qx (.ref r) H') : spRising K C [.ref p, .ref T] H Qx Ex := by
  refine ⟨p, T, us, d, s, c, l, [k, k'], rfl, hL, g, txt_of hT e1, by show 2 ≤ 12; decide, ko_of e3, fun bad => bad_of e4 bad, fun ok es hes => ?_⟩
  have e9 := of_decide_eq_true e9
  have ee : es = [(a, b), (a', b')] := by
    obtain ⟨hl, hr⟩ := hes
    match es, hl with
    | [f, f'], _ =>
      obtain ⟨⟨u1, u2⟩, v1, v2⟩ := hr 0 f rfl
      obtain ⟨⟨u3, u4⟩, v3, v4⟩ := hr 1 f' rfl
      have w1 : f.1 = lowK us d s c l k := List.mem_singleton.mp u1
      have w2 : f'.2 = highK us d s c l k' := List.mem_singleton.mp v3
      have w3 : f'.1 = lowK us d s c l k ∨ f'.1 = lowK us d s c l k' := by
        rcases List.mem_cons.mp u3 with e | e
        · exact .inl e
        · exact .inr (List.mem_singleton.mp e)
      have w4 : lowK us d s c l k ≤ f'.1 := u4 _ List.mem_cons_self
      have w5 : lowK us d s c l k' ≤ f'.1 := u4 _ (List.mem_cons_of_mem _ List.mem_cons_self)
      have w6 : f.2 = highK us d s c l k ∨ f.2 = highK us d s c l k' := by
        rcases List.mem_cons.mp v1 with e | e
        · exact .inl e
        · exact .inr (List.mem_singleton.mp e)
      have w7 : f.2 ≤ highK us d s c l k := v2 _ List.mem_cons_self
      have w8 : f.2 ≤ highK us d s c l k' := v2 _ (List.mem_cons_of_mem _ List.mem_cons_self)
      have x1 : f'.1 = a' := by
        rw [← e6]
        unfold max2
        split <;> omega
      have x2 : f.2 = b := by
        rw [← e8]
        unfold min2
        split <;> omega
      rw [show f = (a, b) from Prod.ext (by rw [w1, e5]) x2, show f' = (a', b') from Prod.ext x1 (by rw [w2, e7])]
  subst ee
  refine ⟨fun bad => ?_, fun _ r ps H' s' hr hps => ?_⟩
  · obtain ⟨e, he, hb⟩ := bad
    rcases List.mem_cons.mp he with w | w
    · rw [w] at hb
      have : b < a := hb
      omega
    · rw [List.mem_singleton.mp w] at hb
      have : b' < a' := hb
      omega
  · cases hps with
    | cons h1 t =>
      cases t with
      | cons h2 t =>
        cases t
        exact q r _ _ H' s' hr (two_dp h1) (two_dp h2)
theorem go_figat (n n0 : Int) (k : FKey) (x : Str) (hL : LadAt K C H p us d s c l) (g : Good us d s l) (h : decide (0 ≤ n ∧ n ≤ 1000000000) = true) (h0 : decide (0 ≤ n0) = true) (e1 : placedM us d s c l n0 = k) (e2 : idxM us d s c l k = n) (e3 : textK us d k = x) (q : ∀ H', Same H H' → Qx (.str x) H') : spFigureAt K C [.ref p, .int n] H Qx Ex := by
  have h := of_decide_eq_true h
  have h0 := of_decide_eq_true h0
  refine ⟨p, us, d, s, c, l, n, rfl, hL, g, h.1, h.2, fun p' m H' s' hp m0 _ hle hi => ?_⟩
  have el : placedM us d s c l (lowM us d s c l p' m) = (p', m) := low_place g hp m0 hle
  have l0 : 0 ≤ lowM us d s c l p' m := low_nn g hp m
  have f1 : fbM us d s c l (lowM us d s c l p' m) = n := by
    unfold fbM
    rw [el]
    exact hi
  have f2 : fbM us d s c l n0 = n := by
    unfold fbM
    rw [e1]
    exact e2
  have ee : placedM us d s c l (lowM us d s c l p' m) = placedM us d s c l n0 := by
    rcases Int.le_total (lowM us d s c l p' m) n0 with w | w
    · exact (same_iff g l0 w).mpr (f1.trans f2.symm)
    · exact ((same_iff g h0 w).mpr (f2.trans f1.symm)).symm
  have ek : (p', m) = k := el.symm.trans (ee.trans e1)
  have ex : writ us d p' m = x := by
    rw [← e3, ← ek]
  rw [ex]
  exact q H' s'
theorem go_nums2 (x1 x2 : Sgt) (lo hi : Int) (hS : SgsAt K C H T [x1, x2]) (o1 : x1.Ok) (o2 : x2.Ok) (e1 : max2 x1.lo x2.lo = lo) (e2 : min2 x1.hi x2.hi = hi) (e3 : decide (lo ≤ hi) = true) (q : ∀ r H', Same H H' → Dp K H' (.ref r) (.tuple [.int lo, .int hi]) → Qx (.ref r) H') : spCommonR K C [.ref T] H Qx Ex := by
  have e3 := of_decide_eq_true e3
  refine ⟨T, [x1, x2], rfl, hS, by show 0 < 2; decide, by show 2 ≤ 4; decide, fun x hx => ?_, fun a b hm v H' s' hv => ?_⟩
  · rcases List.mem_cons.mp hx with e | e
    · rw [e]
      exact o1
    · rw [List.mem_singleton.mp e]
      exact o2
  · obtain ⟨⟨u1, u2⟩, v1, v2⟩ := hm
    have w1 : a = x1.lo ∨ a = x2.lo := by
      rcases List.mem_cons.mp u1 with e | e
      · exact .inl e
      · exact .inr (List.mem_singleton.mp e)
    have w2 : x1.lo ≤ a := u2 _ List.mem_cons_self
    have w3 : x2.lo ≤ a := u2 _ (List.mem_cons_of_mem _ List.mem_cons_self)
    have w4 : b = x1.hi ∨ b = x2.hi := by
      rcases List.mem_cons.mp v1 with e | e
      · exact .inl e
      · exact .inr (List.mem_singleton.mp e)
    have w5 : b ≤ x1.hi := v2 _ List.mem_cons_self
    have w6 : b ≤ x2.hi := v2 _ (List.mem_cons_of_mem _ List.mem_cons_self)
    have y1 : a = lo := by
      rw [← e1]
      unfold max2
      split <;> omega
    have y2 : b = hi := by
      rw [← e2]
      unfold min2
      split <;> omega
    subst y1
    subst y2
    rcases hv with ⟨h, _⟩ | ⟨_, r, rfl, hr⟩
    · omega
    · exact q r H' s' (two_dp hr)
end
end My

/-! more functions on ladders that are written out -/
namespace My
open PySem PySem.Spec PyProof.Rows L2
section
variable {us : List (Str × Int)} {d : Nat} {s : Str} {c : Bool} {l : Int} {K : PySem.W.Frag} {C p p2 T : Addr} {H : Hp} {x y : Str} {xs : List Str} {Qx : VK} {Ex : XK}
theorem go_prevf (k : FKey) (y : Str) (hL : LadAt K C H p us d s c l) (g : Good us d s l) (e1 : textK us d k = x) (e2 : koB us [k] = true) (e3 : decide (lowK us d s c l k ≤ highK us d s c l k ∧ 0 < lowK us d s c l k ∧ lowK us d s c l k < 1000000000000000000000000000000) = true) (e4 : shown us d s c l (lowK us d s c l k - 1) = y) (q : ∀ H', Same H H' → Qx (.str y) H') : spPrevF K C [.ref p, .str x] H Qx Ex := by
  have e3 := of_decide_eq_true e3
  refine ⟨p, us, d, s, c, l, k.1, k.2, by rw [← e1], hL, g, (ko_one e2).1, (ko_one e2).2.1, (ko_one e2).2.2, e3.1, e3.2.2, fun z => ?_, fun _ H' s' => by rw [show shown us d s c l (lowM us d s c l k.1 k.2 - 1) = y from e4]; exact q H' s'⟩
  have z : lowK us d s c l k = 0 := z
  omega
/-- that a key is the first one of the widest -/
def widB (us : List (Str × Int)) (d : Nat) (s : Str) (c : Bool) (l n : Int) (i : Nat) (k : FKey) : Bool := decide ((wkeys us d s c l n)[i]? = some k) && (List.range (wkeys us d s c l n).length).all fun j => match (wkeys us d s c l n)[j]? with
  | none => true
  | some k' => decide (wK us d s c l k' ≤ wK us d s c l k) && (decide (i ≤ j) || decide (wK us d s c l k' < wK us d s c l k))
theorem wid_of (g : Good us d s l) {n : Int} (n0 : 0 ≤ n) {i : Nat} {k : FKey} (h : widB us d s c l n i k = true) : Widest us d s c l n (lowK us d s c l k) (highK us d s c l k) := by
  unfold widB at h
  rw [Bool.and_eq_true, decide_eq_true_eq] at h
  have al : ∀ (j : Nat) (k' : FKey), (wkeys us d s c l n)[j]? = some k' → wK us d s c l k' ≤ wK us d s c l k ∧ (i ≤ j ∨ wK us d s c l k' < wK us d s c l k) := fun j k' e => by
    have := List.all_eq_true.mp h.2 j (List.mem_range.mpr (List.getElem?_eq_some_iff.mp e).1)
    rw [e] at this
    simp only [Bool.and_eq_true, Bool.or_eq_true, decide_eq_true_eq] at this
    exact this
  refine widest_of g n0 h.1 (fun j k' e => (al j k' e).1) fun j k' hj e => ?_
  rcases (al j k' e).2 with w | w
  · omega
  · exact w
theorem widest_uniq (g : Good us d s l) {n lo hi lo' hi' : Int} (h : Widest us d s c l n lo hi) (h' : Widest us d s c l n lo' hi') : lo = lo' ∧ hi = hi' := by
  obtain ⟨⟨k, a1, a2, a3, a4, a5, a6⟩, b⟩ := h
  obtain ⟨⟨k', a1', a2', a3', a4', a5', a6'⟩, b'⟩ := h'
  have e : placedM us d s c l lo = k := by
    rw [← a3]
    exact low_place g a1 a2 (by rw [← a3, ← a4] at a5; exact a5)
  have e' : placedM us d s c l lo' = k' := by
    rw [← a3']
    exact low_place g a1' a2' (by rw [← a3', ← a4'] at a5'; exact a5')
  have n0 : 0 ≤ lo := by
    rw [← a3]
    exact low_nn g a1 k.2
  have n0' : 0 ≤ lo' := by
    rw [← a3']
    exact low_nn g a1' k'.2
  have w : wK us d s c l k = hi - lo + 1 := by
    unfold wK
    rw [a3, a4]
  have w' : wK us d s c l k' = hi' - lo' + 1 := by
    unfold wK
    rw [a3', a4']
  have c1 := b' lo n0 a6
  have c2 := b lo' n0' a6'
  rw [e, w, a3] at c1
  rw [e', w', a3'] at c2
  have := c1.2 (by omega)
  have := c2.2 (by omega)
  omega
theorem go_wide (n : Int) (i : Nat) (k : FKey) (lo hi : Int) (hL : LadAt K C H p us d s c l) (g : Good us d s l) (h : decide (0 ≤ n ∧ n ≤ 1000000000000000000) = true) (e : widB us d s c l n i k = true) (e3 : lowK us d s c l k = lo) (e4 : highK us d s c l k = hi) (q : ∀ r H', Same H H' → Dp K H' (.ref r) (.tuple [.int lo, .int hi]) → Qx (.ref r) H') : spWide K C [.ref p, .int n] H Qx Ex := by
  have h := of_decide_eq_true h
  refine ⟨p, us, d, s, c, l, n, rfl, hL, g, h.1, h.2, fun lo' hi' r H' s' hw hr => ?_⟩
  obtain ⟨e1, e2⟩ := widest_uniq g hw (wid_of g h.1 e)
  refine q r H' s' (two_dp ?_)
  rw [← e3, ← e4, ← e1, ← e2]
  exact hr
theorem go_tells {A B : Lad} (hA : A.At K C H p) (hB : B.At K C H p2) (gA : A.Ok) (gB : B.Ok) (hall : ((possC B (A.stars ++ B.stars)).all fun x => !chgB B x || chgB A x) = true) (q : ∀ H', Same H H' → Qx (.bl true) H') : spTells K C [.ref p, .ref p2] H Qx Ex :=
  ⟨p, p2, A, B, rfl, hA, hB, gA, gB, fun r H' s' hr => by rw [unt_none gA gB hall hr]; exact q H' s'⟩
theorem go_figsin {A B : Lad} (k : FKey) (a b : Str) (hA : A.At K C H p) (hB : B.At K C H p2) (gA : A.Ok) (gB : B.Ok) (e1 : textK A.us A.d k = x) (e2 : koB A.us [k] = true) (e3 : decide (A.lo k ≤ A.hi k ∧ A.hi k ≤ 1000000000000000000000000000000) = true) (e4 : B.show (A.lo k) = a) (e5 : B.show (A.hi k) = b)
    (q : ∀ r H', Same H H' → Dp K H' (.ref r) (.tuple [.str a, .str b]) → Qx (.ref r) H') : spFigsIn K C [.ref p, .str x, .ref p2] H Qx Ex := by
  have e3 := of_decide_eq_true e3
  refine ⟨p, p2, A, B, k, by rw [e1], hA, hB, gA, gB, ko_one e2, e3.2, fun bad => ?_, fun _ r H' s' hr => q r H' s' (.tup (by rw [← e4, ← e5]; exact hr) (.cons (.str _) (.cons (.str _) .nil)))⟩
  omega
theorem met_one7 (a b : Int) : Met [(a, b)] a b := ⟨⟨List.mem_cons_self, fun y hy => by rw [List.mem_singleton.mp hy]; exact Int.le_refl _⟩, List.mem_cons_self, fun y hy => by rw [List.mem_singleton.mp hy]; exact Int.le_refl _⟩
theorem met_two7 (a b : Int) : Met [(a, b), (a, b)] a b := by
  refine ⟨⟨List.mem_cons_self, fun y hy => ?_⟩, List.mem_cons_self, fun y hy => ?_⟩
  · rcases List.mem_cons.mp hy with w | w
    · rw [w]
      exact Int.le_refl _
    · rw [List.mem_singleton.mp w]
      exact Int.le_refl _
  · rcases List.mem_cons.mp hy with w | w
    · rw [w]
      exact Int.le_refl _
    · rw [List.mem_singleton.mp w]
      exact Int.le_refl _
theorem go_needed0 (x1 x2 : Sgt) (a b : Int) (hS : SgsAt K C H T [x1, x2]) (o1 : x1.Ok) (o2 : x2.Ok) (e1 : x1.lo = a) (e2 : x2.lo = a) (e3 : x1.hi = b) (e4 : x2.hi = b) (e5 : decide (a ≤ b) = true) (q : ∀ r H', Same H H' → Dp K H' (.ref r) (.tuple []) → Qx (.ref r) H') : spNeeded K C [.ref T] H Qx Ex := by
  have e5 := of_decide_eq_true e5
  have er : rngS [x1, x2] = [(a, b), (a, b)] := by
    unfold rngS
    rw [List.map_cons, List.map_cons, List.map_nil, e1, e2, e3, e4]
  have er1 : rngS [x1] = [(a, b)] := by
    unfold rngS
    rw [List.map_cons, List.map_nil, e1, e3]
  have er2 : rngS [x2] = [(a, b)] := by
    unfold rngS
    rw [List.map_cons, List.map_nil, e2, e4]
  have m2 : Met (rngS [x1, x2]) a b := by
    rw [er]
    exact met_two7 a b
  have r1 : rowEq a b a b = true := by
    unfold rowEq
    rw [if_neg (by omega), decide_eq_false (by omega), decide_eq_true rfl, decide_eq_true rfl]
    rfl
  have n0 : ¬ Need [x1, x2] 0 := fun w => by
    have h1 : Met (rngS (less1 [x1, x2] 0)) a b := by
      rw [show less1 [x1, x2] 0 = [x2] from rfl, er2]
      exact met_one7 a b
    have := w a b a b m2 h1
    rw [r1] at this
    cases this
  have n1 : ¬ Need [x1, x2] 1 := fun w => by
    have h1 : Met (rngS (less1 [x1, x2] 1)) a b := by
      rw [show less1 [x1, x2] 1 = [x1] from rfl, er1]
      exact met_one7 a b
    have := w a b a b m2 h1
    rw [r1] at this
    cases this
  refine ⟨T, [x1, x2], rfl, hS, by show 0 < 2; decide, by show 2 ≤ 4; decide, fun x hx => ?_, fun js p H' s' hp _ hi => ?_⟩
  · rcases List.mem_cons.mp hx with e | e
    · rw [e]
      exact o1
    · rw [List.mem_singleton.mp e]
      exact o2
  · have : js = [] := List.eq_nil_iff_forall_not_mem.mpr fun i hm => by
      obtain ⟨h1, h2⟩ := (hi i).mp hm
      have h1 : i < 2 := h1
      cases h2 with
      | inl h2 => exact absurd h2 (by show ¬ 2 = 1; decide)
      | inr h2 =>
        have e01 : i = 0 ∨ i = 1 := by
          clear e1 e2 e3 e4 er er1 er2 h2 hi m2 n0 n1 r1
          omega
        rcases e01 with e | e
        · rw [e] at h2
          exact n0 h2
        · rw [e] at h2
          exact n1 h2
    subst this
    exact q p H' s' (.tup hp .nil)
end
end My

namespace My
open PySem PySem.Spec PyProof.Rows L2
abbrev sRight : Stmt := top 99
abbrev sFirst35 : Stmt := top 97
abbrev sSecond35 : Stmt := top 98
abbrev nFirst35 : List Str := ["_law_name_here", "_law_units_here", "_law_down", "_law_up", "_law_even", "_law_plain", "_law_seen_here", "_law_each", "_law_line"]
abbrev nSecond35 : List Str := ["_law_name_here", "_law_units_here", "_law_down", "_law_near_here", "_law_sixty", "_law_seen_here", "_law_ones_here"]
theorem scFirst35 : FnScope nFirst35 ["_law_name_here"] (defScope sFirst35) := ⟨rfl, rfl, rfl, by decide +kernel, rfl, by decide +kernel, by decide +kernel⟩
theorem scSecond35 : FnScope nSecond35 ["_law_name_here"] (defScope sSecond35) := ⟨rfl, rfl, rfl, by decide +kernel, rfl, by decide +kernel, by decide +kernel⟩
/-! ### the ladders -/
def Six (z : Str) : Prop := z = "K" ∨ z = "k" ∨ z = "t" ∨ z = "Tsd" ∨ z = "th" ∨ z = "q"
abbrev UZ (z : Str) : List (Str × Int) := [("", 1), (z, 1000), ("Zz", 1000000)]
abbrev V60 : List (Str × Int) := [("s", 1), ("m", 60), ("h", 3600)]
abbrev VA6 : List (Str × Int) := [("", 1), ("a", 2), ("b", 6)]
abbrev VA8 : List (Str × Int) := [("", 1), ("a", 2), ("b", 8)]
abbrev V1 : List (Str × Int) := [("n", 1)]
/-- whether units are good, to be worked out -/
def goodNB (z : Str) : Bool := decide (z.length ≤ 3) && (decide (Txt.stripChars z letters = "") && (PyData.strOk z && z.cps.toList.all (letters.cps.contains ·)))
theorem goodN_of {z : Str} (h : goodNB z = true) : GoodN z := by
  unfold goodNB at h
  simp only [Bool.and_eq_true, decide_eq_true_eq] at h
  exact ⟨h.1, h.2.1, h.2.2.1, h.2.2.2⟩
def fitB (us : List (Str × Int)) (u : Str × Int) : Bool := (decide (us.length = 0) && decide (u.2 = 1)) || match us[us.length - 1]? with
  | none => false
  | some l => decide (0 < l.2) && (decide (l.2 < u.2) && (decide (u.2 % l.2 = 0) && us.all fun v => !decide (v.1 = u.1)))
theorem fit_of {us : List (Str × Int)} {u : Str × Int} (h : fitB us u = true) : Fit us u := by
  unfold fitB at h
  rw [Bool.or_eq_true] at h
  rcases h with h | h
  · rw [Bool.and_eq_true, decide_eq_true_eq, decide_eq_true_eq] at h
    exact .inl ⟨List.eq_nil_of_length_eq_zero h.1, h.2⟩
  · cases e : us[us.length - 1]? with
    | none =>
      rw [e] at h
      cases h
    | some l =>
      rw [e] at h
      simp only [Bool.and_eq_true, decide_eq_true_eq] at h
      refine .inr ⟨l, e, fun z => ?_, h.1, h.2.1, h.2.2.1, fun v hv w => ?_⟩
      · rw [z] at e
        cases e
      · have := List.all_eq_true.mp h.2.2.2 v hv
        rw [w, decide_eq_true rfl] at this
        cases this
def goodB (us : List (Str × Int)) : Bool := decide (1 ≤ us.length) && (decide (us.length ≤ 6) && (List.range us.length).all fun i => match us[i]? with
  | none => false
  | some u => goodNB u.1 && (decide (1 ≤ u.2) && (decide (u.2 ≤ 1000000000000000000) && fitB (us.take i) u)))
theorem good_of {us : List (Str × Int)} (h : goodB us = true) : GoodUs us := by
  unfold goodB at h
  rw [Bool.and_eq_true, Bool.and_eq_true, decide_eq_true_eq, decide_eq_true_eq] at h
  refine ⟨h.1, h.2.1, fun i u hu => ?_⟩
  have hi : i < us.length := (List.getElem?_eq_some_iff.mp hu).1
  have := List.all_eq_true.mp h.2.2 i (List.mem_range.mpr hi)
  rw [hu] at this
  simp only [Bool.and_eq_true, decide_eq_true_eq] at this
  exact ⟨goodN_of this.1, this.2.1, this.2.2.1, fit_of this.2.2.2⟩
theorem gu_UZ {z : Str} (hz : Six z) : GoodUs (UZ z) := good_of (by rcases hz with rfl | rfl | rfl | rfl | rfl | rfl <;> kernel_rfl)
theorem gu_V60 : GoodUs V60 := good_of (by kernel_rfl)
theorem gu_VA6 : GoodUs VA6 := good_of (by kernel_rfl)
theorem gu_VA8 : GoodUs VA8 := good_of (by kernel_rfl)
theorem gu_V1 : GoodUs V1 := good_of (by kernel_rfl)
theorem uz_div {z : Str} (d : Nat) (hd : d = 0 ∨ d = 1 ∨ d = 2) {u : Str × Int} (hu : u ∈ (UZ z).drop 1) : u.2 % (2 * 10 ^ d) = 0 := by
  rcases List.mem_cons.mp hu with e | e
  · rw [e]
    show (1000 : Int) % _ = 0
    rcases hd with rfl | rfl | rfl <;> decide
  · rw [List.mem_singleton.mp e]
    show (1000000 : Int) % _ = 0
    rcases hd with rfl | rfl | rfl <;> decide
theorem fit_z {z x : Str} (hz : Six z) (h : x.length ≤ 10) : x.length + z.length ≤ sizeLine := by
  have : z.length ≤ 3 := by rcases hz with rfl | rfl | rfl | rfl | rfl | rfl <;> decide +kernel
  exact Nat.le_trans (show _ ≤ 20 by omega) (by decide)
theorem g_UZ_0_near_1 {z : Str} (hz : Six z) : Good (UZ z) 0 "near" 1 := ⟨gu_UZ hz, by decide, fun u hu => uz_div 0 (by decide) hu, by decide +kernel, by decide, by decide⟩
theorem g_UZ_0_near_10 {z : Str} (hz : Six z) : Good (UZ z) 0 "near" 10 := ⟨gu_UZ hz, by decide, fun u hu => uz_div 0 (by decide) hu, by decide +kernel, by decide, by decide⟩
theorem g_UZ_1_down_1 {z : Str} (hz : Six z) : Good (UZ z) 1 "down" 1 := ⟨gu_UZ hz, by decide, fun u hu => uz_div 1 (by decide) hu, by decide +kernel, by decide, by decide⟩
theorem g_UZ_1_even_1 {z : Str} (hz : Six z) : Good (UZ z) 1 "even" 1 := ⟨gu_UZ hz, by decide, fun u hu => uz_div 1 (by decide) hu, by decide +kernel, by decide, by decide⟩
theorem g_UZ_1_near_1 {z : Str} (hz : Six z) : Good (UZ z) 1 "near" 1 := ⟨gu_UZ hz, by decide, fun u hu => uz_div 1 (by decide) hu, by decide +kernel, by decide, by decide⟩
theorem g_UZ_1_up_1 {z : Str} (hz : Six z) : Good (UZ z) 1 "up" 1 := ⟨gu_UZ hz, by decide, fun u hu => uz_div 1 (by decide) hu, by decide +kernel, by decide, by decide⟩
theorem g_UZ_2_down_1 {z : Str} (hz : Six z) : Good (UZ z) 2 "down" 1 := ⟨gu_UZ hz, by decide, fun u hu => uz_div 2 (by decide) hu, by decide +kernel, by decide, by decide⟩
theorem g_V1_0_up_1 : Good V1 0 "up" 1 := ⟨gu_V1, by decide, by decide +kernel, by decide +kernel, by decide, by decide⟩
theorem g_V60_0_near_1 : Good V60 0 "near" 1 := ⟨gu_V60, by decide, by decide +kernel, by decide +kernel, by decide, by decide⟩
theorem g_VA6_0_even_1 : Good VA6 0 "even" 1 := ⟨gu_VA6, by decide, by decide +kernel, by decide +kernel, by decide, by decide⟩
theorem g_VA8_0_even_1 : Good VA8 0 "even" 1 := ⟨gu_VA8, by decide, by decide +kernel, by decide +kernel, by decide, by decide⟩

/-! ### ladders with some keywords missing -/
theorem kz_linit {K : PySem.W.Frag} {f : Addr} {fd : FuncData} (F : LadD K f fd) : ∃ ds, Vals [V.bl true, V.int 1] ds ∧ Binds K fd ["self", "units", "decimals", "rounding", "carry", "least"] ds :=
  F.binds0 4 (by simp) (by simp) (fun D doc pm an cdv ct us ks h1 h2 => by
    match us, ks, h1, h2 with
    | [_, _, _, _], [_, _], _, _ => exact ⟨_, _, _, _, _, _, rfl, rfl, _, _, _, _, _, _, rfl, rfl, rfl⟩)
theorem kb_carry {K : PySem.W.Frag} {f : Addr} {fd : FuncData} (F : LadD K f fd) : ∃ mv : List Value, KBn K fd ["self", "units", "decimals", "rounding", "carry", "least"] 4 ["carry"] (fun us ws => us ++ ws ++ mv) (fun vs zs => vs ++ zs ++ [V.int 1]) :=
  F.kbinds0 4 ["carry"] [("least", .int 1)] (fun us mv ws => us ++ ws ++ mv) (by simp) (by simp) (fun r1 r2 r3 => (r1.append r3).append r2) (fun D doc pm an cdv ct us mv ws h1 h2 h3 => by
    match us, mv, ws, h1, h2, h3 with
    | [_, _, _, _], [_], [_], _, _, _ => exact ⟨_, _, _, _, _, _, rfl, rfl, rfl⟩)
theorem made_of {K : PySem.W.Frag} {C : Addr} {H : Hp} {ua : Addr} {us : List (Str × Int)} {d : Nat} {s : Str} {c : Bool} {l : Int} {ws : Addr → List V} {Q : Addr → Hp → Prop} {E : XK} (e : ∀ x, ws x = [.ref x, .ref ua, .int (d : Int), .str s, .bl c, .int l]) (hU : UA K H ua us) (g : Good us d s l)
    (q : ∀ (p : Addr) (H' : Hp), Same H H' → LadAt K C H' p us d s c l → Q p H') : ∀ x dx, H x = none → H dx = none → dx ≠ x → spLInit K C (ws x) (upd (upd H dx (.own x)) x (.ins C dx [])) (fun v H3 => v = V.non ∧ Q x H3) E := by
  intro x dx nx ndx nex
  have s0 : Same H (upd (upd H dx (.own x)) x (.ins C dx [])) := fun b o e => by
    rw [upd_ne (ne_of_none e nx), upd_ne (ne_of_none e ndx)]
    exact e
  refine ⟨x, dx, ua, us, d, s, c, l, e x, upd_same, hU.same s0, g, fun H' t st th b h1 h2 h3 h4 => ⟨rfl, ?_⟩⟩
  have s1 : Same H H' := fun y o e => b y o (s0 y o e) (ne_of_none e nx)
  exact q x H' s1 ⟨dx, ua, t, st, th, h1, hU.same s1, h2, h3, h4⟩
/-! ### what is laid and kept -/
theorem none_of {H H' : Hp} {S : Addr} (s : Same H H') (n : H' S = none) : H S = none := by
  cases e : H S with
  | none => rfl
  | some o =>
    rw [s _ _ e] at n
    cases n
theorem Same.updN {H H' : Hp} {S : Addr} {o : HO} (s : Same H H') (n : H S = none) : Same H (upd H' S o) := fun b o' e => by
  rw [upd_ne (ne_of_none e n)]
  exact s _ _ e
section
variable {K : PySem.W.Frag} {C : Addr} {H : Hp} {D : Addr} {xs ys : List V}
theorem UA.updL {t : Addr} {us : List (Str × Int)} (hD : H D = some (.lst xs)) (h : UA K H t us) : UA K (upd H D (.lst ys)) t us := UA.but hD rfl (But.upd D _ _) h
theorem SgsAt.updL {t : Addr} {zs : List Sgt} (hD : H D = some (.lst xs)) (h : SgsAt K C H t zs) : SgsAt K C (upd H D (.lst ys)) t zs := by
  obtain ⟨ps, h1, h2⟩ := h
  refine ⟨ps, SqT.updL hD h1, paired_imp (fun p x hp => ?_) h2⟩
  obtain ⟨la, k1, k2⟩ := hp
  exact ⟨la, SqT.updL hD k1, k2.updL hD⟩
theorem sgt_of {p la : Addr} {x : Str} {g : Sgt} (q : SqT K H p [.ref la, .str x]) (e : g.text = x) (h : LadAt K C H la g.us g.d g.s g.c g.l) : SgtAt K C H p g := ⟨la, by rw [e]; exact q, h⟩
theorem paired_take7 {α β : Type} {R : α → β → Prop} : ∀ (k : Nat) {xs : List α} {ys : List β}, PySem.Paired R xs ys → PySem.Paired R (xs.take k) (ys.take k)
  | 0, _, _, _ => .nil
  | _ + 1, _, _, .nil => .nil
  | k + 1, _, _, .cons h t => .cons h (paired_take7 k t)
theorem paired_cat7 {α β : Type} {R : α → β → Prop} {xs' : List α} {ys' : List β} (h' : PySem.Paired R xs' ys') : ∀ {xs : List α} {ys : List β}, PySem.Paired R xs ys → PySem.Paired R (xs ++ xs') (ys ++ ys')
  | _, _, .nil => h'
  | _, _, .cons h t => .cons h (paired_cat7 h' t)
theorem cut_units {us vs : List (Str × Int)} {hi : Int} {ua : Addr} {Q : VK} (hU : UA K H ua us) (k : Nat) (e : HT.sIx us.length us.length (some hi) = k) (hk : k < us.length) (ev : us.take k = vs) (q : ∀ t H', Same H H' → UA K H' t vs → Q (.ref t) H') : rSlA K (.ref ua) none (some hi) H Q := by
  obtain ⟨ps, hua, hup⟩ := hU
  have el := UP.len hup
  have el2 : (ps.map V.ref).length = us.length := by rw [List.length_map, el]
  refine ⟨ua, _, rfl, hua, fun z => ?_, fun z c nc => ?_⟩
  · have := z.2
    rw [el2, e] at this
    omega
  · have sc := same_upd nc (o := .tup (cutV (ps.map V.ref) none (some hi)))
    have ec : cutV (ps.map V.ref) none (some hi) = (ps.take k).map V.ref := by
      unfold cutV
      rw [HT.sIx_none, el2, e, List.drop_zero, Nat.sub_zero, List.map_take]
    refine q c _ sc ⟨ps.take k, ?_, ?_⟩
    · rw [← ec]
      exact SqT.of upd_same
    · rw [← ev]
      exact paired_take7 k (paired_imp (fun _ _ => same_sqt sc) hup)
theorem cat_units {us vs : List (Str × Int)} {ua va : Addr} {Q : VK} (hU : UA K H ua us) (hV : UA K H va vs) (h1 : 1 ≤ us.length) (h2 : 1 ≤ vs.length) (h3 : us.length + vs.length ≤ 100) (q : ∀ t H', Same H H' → UA K H' t (us ++ vs) → Q (.ref t) H') : rCatA K (.ref ua) (.ref va) H Q := by
  obtain ⟨ps, hua, hup⟩ := hU
  obtain ⟨rs, hva, hvp⟩ := hV
  have el : (ps.map V.ref).length = us.length := by rw [List.length_map, UP.len hup]
  have el2 : (rs.map V.ref).length = vs.length := by rw [List.length_map, UP.len hvp]
  refine ⟨ua, va, _, _, rfl, rfl, hua, hva, by rw [el, el2]; exact Nat.le_trans h3 (by decide), fun z => ?_, fun _ z => ?_, fun _ _ c nc => ?_⟩
  · rw [z] at el
    exact absurd el (by show ¬ 0 = us.length; omega)
  · rw [z] at el2
    exact absurd el2 (by show ¬ 0 = vs.length; omega)
  · have sc := same_upd nc (o := .tup (ps.map V.ref ++ rs.map V.ref))
    refine q c _ sc ⟨ps ++ rs, by rw [List.map_append]; exact SqT.of upd_same, ?_⟩
    exact paired_cat7 (paired_imp (fun _ _ => same_sqt sc) hvp) (paired_imp (fun _ _ => same_sqt sc) hup)
end
def spName35 (K : PySem.W.Frag) (C : Addr) : Sp := fun vs H Q _ => ∃ z : Str, vs = [.str z] ∧ Six z ∧ ∀ H', Same H H' → Q (.bl true) H'
section
variable {P : Program} {w : World} {K : PySem.W.Frag} {mg : Str → Option Value} {base : Heap}
theorem ok_first35 (d : Dd K mg "_law_first_right" sFirst35 ["_law_name_here"]) (L : LadC K mg) (LD : LadD K L.f L.fd) (dSh : Dd K mg "show" sShow ["ladder", "number"]) (dRO : Dd K mg "range_of" sRangeOf ["ladder", "text"]) (dHi : Dd K mg "hidden" sHidden ["ladder", "number"]) (dNx : Dd K mg "next_figure" sNextF ["ladder", "text"]) (dPv : Dd K mg "previous_figure" sPrevF ["ladder", "text"]) (dWi : Dd K mg "widest" sWidest ["ladder", "number"]) (B0 : Bt mg)
    (GI : FnOk P w K mg base CX0 5 L.f L.fd ["self", "units", "decimals", "rounding", "carry", "least"] (spLInit K L.C)) (GSh : FnOk P w K mg base CX0 6 dSh.f dSh.fd ["ladder", "number"] (spShow K L.C)) (GRO : FnOk P w K mg base CX0 5 dRO.f dRO.fd ["ladder", "text"] (spRangeOf K L.C)) (GHi : FnOk P w K mg base CX0 5 dHi.f dHi.fd ["ladder", "number"] (spHidden K L.C)) (GNx : FnOk P w K mg base CX0 7 dNx.f dNx.fd ["ladder", "text"] (spNextF K L.C)) (GPv : FnOk P w K mg base CX0 7 dPv.f dPv.fd ["ladder", "text"] (spPrevF K L.C)) (GWi : FnOk P w K mg base CX0 6 dWi.f dWi.fd ["ladder", "number"] (spWide K L.C)) :
    FnOk P w K mg base CX0 9 d.f d.fd ["_law_name_here"] (spName35 K L.C) := by
  obtain ⟨ds, KV, KZ⟩ := kz_linit LD
  obtain ⟨mv, KB⟩ := kb_carry LD
  obtain ⟨mw, KL⟩ := kb_least LD
  refine d.F.ok scFirst35 (fun vs H Q E h => ?_) (fun cdv A0 outer s H vs Q E hr h => ?_)
  · obtain ⟨_, rfl, _⟩ := h
    rfl
  · obtain ⟨z, rfl, hz, q⟩ := h
    have r5 : Room 5 _ := hr.mono (by decide)
    have r6 : Room 6 _ := hr.mono (by decide)
    have r7 : Room 7 _ := hr.mono (by decide)
    have r8 : Room 8 _ := hr.mono (by decide)
    have hrI := r6
    have hu := hr.units
    have nd := scFirst35.nd
    refine ⟨_, (Evl.pss_cut (ps_set (i := 1) nd rfl (.inl rfl) (pe_tup (pa_cons (pe_tup (pa_cons pe_str (pa_cons pe_int pa_nil))) (pa_cons (pe_tup (pa_cons (pv 0) (pa_cons pe_int pa_nil))) (pa_cons (pe_tup (pa_cons pe_str (pa_cons (c_pow (1000000) (pe_int (i := 10)) (pe_int (i := 6)) (by decide) (by decide +kernel)) pa_nil))) pa_nil)))))
  (Evl.pss_cut (ps_par (i := 2) (j := 3) rfl nd rfl rfl (by decide) rfl rfl (pa_cons (pe_make L.M GI hrI (by rfl) L.g KZ KV pass0 (pa_cons (pv 1) (pa_cons pe_int (pa_cons pe_str pa_nil)))) (pa_cons (pe_make L.M GI hrI (by rfl) L.g KZ KV pass0 (pa_cons (pv 1) (pa_cons pe_int (pa_cons pe_str pa_nil)))) pa_nil)) rfl)
  (Evl.pss_cut (ps_par (i := 4) (j := 5) rfl nd rfl rfl (by decide) rfl rfl (pa_cons (pe_make L.M GI hrI (by rfl) L.g KZ KV pass0 (pa_cons (pv 1) (pa_cons pe_int (pa_cons pe_str pa_nil)))) (pa_cons (pe_makeK L.M GI hrI (by rfl) L.g (kb_linit L) pass0 (pa_cons (pv 1) (pa_cons pe_int (pa_cons pe_str pa_nil))) (pk_cons pe_bl (pk_cons pe_int pk_nil))) pa_nil)) rfl)
  (Evl.pss_cut (ps_setLc (i := 6) (own := [("_law_each", 7), ("_law_line", 8)]) (g := gTup K 2 (gCons (gName 7) (gCons (gName 8) gNil))) (tt := tYes) rfl nd rfl rfl (by rfl) (pi_list (pe_lst (pa_cons (pe_tup (pa_cons (pv 2) (pa_cons pe_str pa_nil))) (pa_cons (pe_tup (pa_cons (pv 3) (pa_cons pe_str pa_nil))) (pa_cons (pe_tup (pa_cons (pv 4) (pa_cons pe_str pa_nil))) pa_nil))))) (blkOk_by (own := [("_law_each", 7), ("_law_line", 8)]) (N := ["_law_name_here", "_law_units_here", "_law_down", "_law_up", "_law_even", "_law_plain", "_law_seen_here", "_law_each", "_law_line"]) (sc := defScope sFirst35) (by decide +kernel)) (fun _ _ _ _ _ => pg_tup rfl (pgs_cons (pg_name (i := 7) nd rfl (Or.inl rfl)) (pgs_cons (pg_name (i := 8) nd rfl (Or.inl rfl)) pgs_nil))) (fun _ _ _ _ _ => pts_nil) (fun _ _ _ _ _ => (pe_cmpR op_eq (pe_call GSh r6 (by rfl) dSh.g dSh.F.kp dSh.b .nil pass0 (pa_cons (pv 7) (pa_cons pe_int pa_nil))) (pe_op op_add_str (pv 8) (pv 0)) (nomark _))))
  (Evl.pss_cut (ps_set (i := 6) nd rfl (.inl rfl) (pe_op (r := rCat) op_cat (pv 6) (pe_lst (pa_cons (pe_cmpR op_eq (pe_call GSh r6 (by rfl) dSh.g dSh.F.kp dSh.b .nil pass0 (pa_cons (pv 4) (pa_cons pe_int pa_nil))) (pe_op op_add_str pe_str (pv 0)) (nomark _)) (pa_cons (pe_cmpR op_eq (pe_call GSh r6 (by rfl) dSh.g dSh.F.kp dSh.b .nil pass0 (pa_cons (pv 4) (pa_cons pe_int pa_nil))) (pe_op op_add_str pe_str (pv 0)) (nomark _)) pa_nil)))))
  (Evl.pss_cut (ps_expr (pe_bm PySem.F.plainAttrs_list PySem.F.slot_list_append PySem.F.type_list_append mt_append (pv 6) (pa_cons (pe_and (pe_cmpR op_eq (pe_call GSh r6 (by rfl) dSh.g dSh.F.kp dSh.b .nil pass0 (pa_cons (pv 5) (pa_cons pe_int pa_nil))) pe_str (nomark _)) (pe_one (pe_cmpR op_eq (pe_call GSh r6 (by rfl) dSh.g dSh.F.kp dSh.b .nil pass0 (pa_cons (pv 5) (pa_cons pe_int pa_nil))) (pe_op op_add_str pe_str (pv 0)) (nomark _)))) pa_nil)))
  (Evl.pss_cut (ps_expr (pe_bm PySem.F.plainAttrs_list PySem.F.slot_list_append PySem.F.type_list_append mt_append (pv 6) (pa_cons (pe_and (pe_cmpR op_eq (pe_call GSh r6 (by rfl) dSh.g dSh.F.kp dSh.b .nil pass0 (pa_cons (pv 5) (pa_cons pe_int pa_nil))) (pe_op op_add_str pe_str (pv 0)) (nomark _)) (pe_one (pe_cmpR op_eq (pe_call GSh r6 (by rfl) dSh.g dSh.F.kp dSh.b .nil pass0 (pa_cons (pv 5) (pa_cons (c_pow (10000000) (pe_int (i := 10)) (pe_int (i := 7)) (by decide) (by decide +kernel)) pa_nil))) pe_str (nomark _)))) pa_nil)))
  (Evl.pss_cut (ps_expr (pe_bm PySem.F.plainAttrs_list PySem.F.slot_list_append PySem.F.type_list_append mt_append (pv 6) (pa_cons (pe_and (pe_cmpR op_eq (pe_call GSh r6 (by rfl) dSh.g dSh.F.kp dSh.b .nil pass0 (pa_cons (pv 3) (pa_cons pe_int pa_nil))) pe_str (nomark _)) (pe_one (pe_cmpR op_eq (pe_call GSh r6 (by rfl) dSh.g dSh.F.kp dSh.b .nil pass0 (pa_cons (pv 3) (pa_cons pe_int pa_nil))) (pe_op op_add_str pe_str (pv 0)) (nomark _)))) pa_nil)))
  (Evl.pss_cut (ps_expr (pe_bm PySem.F.plainAttrs_list PySem.F.slot_list_append PySem.F.type_list_append mt_append (pv 6) (pa_cons (pe_and (pe_cmpR op_eq (pe_call GSh r6 (by rfl) dSh.g dSh.F.kp dSh.b .nil pass0 (pa_cons (pv 2) (pa_cons pe_int pa_nil))) (pe_op op_add_str pe_str (pv 0)) (nomark _)) (pe_one (pe_cmpR op_eq (pe_call GSh r6 (by rfl) dSh.g dSh.F.kp dSh.b .nil pass0 (pa_cons (pv 4) (pa_cons pe_int pa_nil))) pe_str (nomark _)))) pa_nil)))
  (Evl.pss_cut (ps_expr (pe_bm PySem.F.plainAttrs_list PySem.F.slot_list_append PySem.F.type_list_append mt_append (pv 6) (pa_cons (pe_cmpR (r := rEqD K) (op_eqD hu) (pe_call GRO r5 (by rfl) dRO.g dRO.F.kp dRO.b .nil pass0 (pa_cons (pv 3) (pa_cons (pe_op op_add_str pe_str (pv 0)) pa_nil))) (pe_tup (pa_cons pe_int (pa_cons pe_int pa_nil))) (by rfl)) pa_nil)))
  (Evl.pss_cut (ps_expr (pe_bm PySem.F.plainAttrs_list PySem.F.slot_list_append PySem.F.type_list_append mt_append (pv 6) (pa_cons (pe_cmpR (r := rEqD K) (op_eqD hu) (pe_call GRO r5 (by rfl) dRO.g dRO.F.kp dRO.b .nil pass0 (pa_cons (pv 3) (pa_cons (pe_op op_add_str pe_str (pv 0)) pa_nil))) (pe_tup (pa_cons pe_int (pa_cons pe_int pa_nil))) (by rfl)) pa_nil)))
  (Evl.pss_cut (ps_expr (pe_bm PySem.F.plainAttrs_list PySem.F.slot_list_append PySem.F.type_list_append mt_append (pv 6) (pa_cons (pe_cmpR (r := rEqD K) (op_eqD hu) (pe_call GRO r5 (by rfl) dRO.g dRO.F.kp dRO.b .nil pass0 (pa_cons (pv 4) (pa_cons (pe_op op_add_str pe_str (pv 0)) pa_nil))) (pe_tup (pa_cons pe_int (pa_cons pe_int pa_nil))) (by rfl)) pa_nil)))
  (Evl.pss_cut (ps_expr (pe_bm PySem.F.plainAttrs_list PySem.F.slot_list_append PySem.F.type_list_append mt_append (pv 6) (pa_cons (pe_cmpR (r := rEqD K) (op_eqD hu) (pe_call GRO r5 (by rfl) dRO.g dRO.F.kp dRO.b .nil pass0 (pa_cons (pv 4) (pa_cons (pe_op op_add_str pe_str (pv 0)) pa_nil))) (pe_tup (pa_cons pe_int (pa_cons pe_int pa_nil))) (by rfl)) pa_nil)))
  (Evl.pss_cut (ps_expr (pe_bm PySem.F.plainAttrs_list PySem.F.slot_list_append PySem.F.type_list_append mt_append (pv 6) (pa_cons (pe_and (pe_cmpR (r := rEqD K) (op_eqD hu) (pe_call GRO r5 (by rfl) dRO.g dRO.F.kp dRO.b .nil pass0 (pa_cons (pv 3) (pa_cons pe_str pa_nil))) (pe_tup (pa_cons pe_int (pa_cons pe_int pa_nil))) (by rfl)) (pe_one (pe_cmpR (r := rEqD K) (op_eqD hu) (pe_call GRO r5 (by rfl) dRO.g dRO.F.kp dRO.b .nil pass0 (pa_cons (pv 2) (pa_cons pe_str pa_nil))) (pe_tup (pa_cons pe_int (pa_cons pe_int pa_nil))) (by rfl)))) pa_nil)))
  (Evl.pss_cut (ps_expr (pe_bm PySem.F.plainAttrs_list PySem.F.slot_list_append PySem.F.type_list_append mt_append (pv 6) (pa_cons (pe_and (pe_cmp (pc_isN (pe_call GRO r5 (by rfl) dRO.g dRO.F.kp dRO.b .nil pass0 (pa_cons (pv 5) (pa_cons (pe_op op_add_str pe_str (pv 0)) pa_nil)))) rfl) (pe_one (pe_cmpR (r := rEqD K) (op_eqD hu) (pe_call GRO r5 (by rfl) dRO.g dRO.F.kp dRO.b .nil pass0 (pa_cons (pv 5) (pa_cons (pe_op op_add_str pe_str (pv 0)) pa_nil))) (pe_tup (pa_cons pe_int (pa_cons pe_int pa_nil))) (by rfl)))) pa_nil)))
  (Evl.pss_cut (ps_expr (pe_bm PySem.F.plainAttrs_list PySem.F.slot_list_append PySem.F.type_list_append mt_append (pv 6) (pa_cons (pe_and (pe_cmpR (r := rEqD K) (op_eqD hu) (pe_call GHi r5 (by rfl) dHi.g dHi.F.kp dHi.b .nil pass0 (pa_cons (pv 4) (pa_cons pe_int pa_nil))) (pe_tup (pa_cons pe_int (pa_cons pe_int pa_nil))) (by rfl)) (pe_one (pe_cmpR (r := rEqD K) (op_eqD hu) (pe_call GWi r6 (by rfl) dWi.g dWi.F.kp dWi.b .nil pass0 (pa_cons (pv 4) (pa_cons pe_int pa_nil))) (pe_tup (pa_cons pe_int (pa_cons pe_int pa_nil))) (by rfl)))) pa_nil)))
  (Evl.pss_cut (ps_expr (pe_bm PySem.F.plainAttrs_list PySem.F.slot_list_append PySem.F.type_list_append mt_append (pv 6) (pa_cons (pe_cmpR op_eq (pe_call GNx r7 (by rfl) dNx.g dNx.F.kp dNx.b .nil pass0 (pa_cons (pv 2) (pa_cons pe_str pa_nil))) (pe_op op_add_str pe_str (pv 0)) (nomark _)) pa_nil)))
  (Evl.pss_cut (ps_expr (pe_bm PySem.F.plainAttrs_list PySem.F.slot_list_append PySem.F.type_list_append mt_append (pv 6) (pa_cons (pe_cmpR op_eq (pe_call GPv r7 (by rfl) dPv.g dPv.F.kp dPv.b .nil pass0 (pa_cons (pv 5) (pa_cons pe_str pa_nil))) (pe_op op_add_str pe_str (pv 0)) (nomark _)) pa_nil)))
  (pss_one (ps_ret (pe_cmpR (r := rEqD K) (op_eqD hu) (pv 6) (pe_op op_rep (pe_lst (pa_cons pe_bl pa_nil)) (pe_callB call_len_seq (by rfl) B0.len PySem.boot_len (pa_cons (pv 6) pa_nil))) (by rfl)))))))))))))))))))))), ?_⟩
    refine ⟨fun σ' H' => ∃ (a_units_here : Addr), σ' = [some (.str z), some (.ref a_units_here), none, none, none, none, none, none, none] ∧ Same H H' ∧ UA K H' a_units_here (UZ z), ?_, ?_⟩
    · refine ⟨(by show 2 ≤ sizeLine; decide), fun t1 n1 => ?_⟩
      have s1 := same_upd n1 (o := .tup ([V.str "", V.int (1)] : List V))
      have q1 : SqT K (upd H t1 (.tup ([V.str "", V.int (1)] : List V))) t1 [V.str "", V.int (1)] := SqT.of upd_same
      have d1 : Dp K (upd H t1 (.tup ([V.str "", V.int (1)] : List V))) (.ref t1) (.tuple [.str "", .int ((1))]) := .tup (SqT.of upd_same) (.cons (.str _) (.cons (.int _) .nil))
      generalize upd H t1 (.tup ([V.str "", V.int (1)] : List V)) = H1 at s1 q1 d1 ⊢
      refine ⟨_, rfl, ?_⟩
      refine ⟨(by show 2 ≤ sizeLine; decide), fun t2 n2 => ?_⟩
      have s2 := same_upd n2 (o := .tup ([V.str z, V.int (1000)] : List V))
      have q2 : SqT K (upd H1 t2 (.tup ([V.str z, V.int (1000)] : List V))) t2 [V.str z, V.int (1000)] := SqT.of upd_same
      have d2 : Dp K (upd H1 t2 (.tup ([V.str z, V.int (1000)] : List V))) (.ref t2) (.tuple [.str z, .int ((1000))]) := .tup (SqT.of upd_same) (.cons (.str _) (.cons (.int _) .nil))
      generalize upd H1 t2 (.tup ([V.str z, V.int (1000)] : List V)) = H2 at s2 q2 d2 ⊢
      refine ⟨(by show 2 ≤ sizeLine; decide), fun t3 n3 => ?_⟩
      have s3 := same_upd n3 (o := .tup ([V.str "Zz", V.int (1000000)] : List V))
      have q3 : SqT K (upd H2 t3 (.tup ([V.str "Zz", V.int (1000000)] : List V))) t3 [V.str "Zz", V.int (1000000)] := SqT.of upd_same
      have d3 : Dp K (upd H2 t3 (.tup ([V.str "Zz", V.int (1000000)] : List V))) (.ref t3) (.tuple [.str "Zz", .int ((1000000))]) := .tup (SqT.of upd_same) (.cons (.str _) (.cons (.int _) .nil))
      generalize upd H2 t3 (.tup ([V.str "Zz", V.int (1000000)] : List V)) = H3 at s3 q3 d3 ⊢
      refine ⟨(by show 3 ≤ sizeLine; decide), fun t4 n4 => ?_⟩
      have s4 := same_upd n4 (o := .tup ([V.ref t1, V.ref t2, V.ref t3] : List V))
      have q4 : SqT K (upd H3 t4 (.tup ([V.ref t1, V.ref t2, V.ref t3] : List V))) t4 [V.ref t1, V.ref t2, V.ref t3] := SqT.of upd_same
      have u4 : UA K (upd H3 t4 (.tup ([V.ref t1, V.ref t2, V.ref t3] : List V))) t4 (UZ z) := ⟨[t1, t2, t3], SqT.of upd_same, (.cons (same_sqt s4 (same_sqt (s2.trans s3) q1)) (.cons (same_sqt s4 (same_sqt s3 q2)) (.cons (same_sqt s4 q3) .nil)))⟩
      generalize upd H3 t4 (.tup ([V.ref t1, V.ref t2, V.ref t3] : List V)) = H4 at s4 q4 u4 ⊢
      exact ⟨t4, rfl, (((s1.trans s2).trans s3).trans s4), u4⟩
    rintro σ' H0 ⟨a_units_here, rfl, sB, ua_units_here⟩
    refine ⟨fun σ' H' => ∃ (a_units_here : Addr) (a_down : Addr) (a_up : Addr), σ' = [some (.str z), some (.ref a_units_here), some (.ref a_down), some (.ref a_up), none, none, none, none, none] ∧ Same H H' ∧ UA K H' a_units_here (UZ z) ∧ LadAt K L.C H' a_down (UZ z) 1 "down" true 1 ∧ LadAt K L.C H' a_up (UZ z) 1 "up" true 1, ?_, ?_⟩
    · refine ⟨_, rfl, ?_⟩
      refine made_of (us := (UZ z)) (fun _ => rfl) ua_units_here (g_UZ_1_down_1 hz) fun p5 H5 s5 l5 => ?_
      refine ⟨_, rfl, ?_⟩
      refine made_of (us := (UZ z)) (fun _ => rfl) (UA.same s5 ua_units_here) (g_UZ_1_up_1 hz) fun p6 H6 s6 l6 => ?_
      exact ⟨_, _, rfl, a_units_here, p5, p6, rfl, (sB.trans (s5.trans s6)), (UA.same (s5.trans s6) ua_units_here), (LadAt.same s6 l5), l6⟩
    rintro σ' H0 ⟨a_units_here, a_down, a_up, rfl, sB, ua_units_here, la_down, la_up⟩
    refine ⟨fun σ' H' => ∃ (a_units_here : Addr) (a_down : Addr) (a_up : Addr) (a_even : Addr) (a_plain : Addr), σ' = [some (.str z), some (.ref a_units_here), some (.ref a_down), some (.ref a_up), some (.ref a_even), some (.ref a_plain), none, none, none] ∧ Same H H' ∧ UA K H' a_units_here (UZ z) ∧ LadAt K L.C H' a_down (UZ z) 1 "down" true 1 ∧ LadAt K L.C H' a_up (UZ z) 1 "up" true 1 ∧ LadAt K L.C H' a_even (UZ z) 1 "even" true 1 ∧ LadAt K L.C H' a_plain (UZ z) 0 "near" false 10, ?_, ?_⟩
    · refine ⟨_, rfl, ?_⟩
      refine made_of (us := (UZ z)) (fun _ => rfl) ua_units_here (g_UZ_1_even_1 hz) fun p7 H7 s7 l7 => ?_
      refine ⟨_, rfl, ?_⟩
      refine ⟨rfl, rfl, made_of (us := (UZ z)) (fun _ => rfl) (UA.same s7 ua_units_here) (g_UZ_0_near_10 hz) fun p8 H8 s8 l8 => ?_⟩
      exact ⟨_, _, rfl, a_units_here, a_down, a_up, p7, p8, rfl, (sB.trans (s7.trans s8)), (UA.same (s7.trans s8) ua_units_here), (LadAt.same (s7.trans s8) la_down), (LadAt.same (s7.trans s8) la_up), (LadAt.same s8 l7), l8⟩
    rintro σ' H0 ⟨a_units_here, a_down, a_up, a_even, a_plain, rfl, sB, ua_units_here, la_down, la_up, la_even, la_plain⟩
    refine ⟨fun σ' H' => ∃ (a_units_here : Addr) (a_down : Addr) (a_up : Addr) (a_even : Addr) (a_plain : Addr) (S : Addr), σ' = [some (.str z), some (.ref a_units_here), some (.ref a_down), some (.ref a_up), some (.ref a_even), some (.ref a_plain), some (.ref S), none, none] ∧ Same H H' ∧ H S = none ∧ H' S = some (.lst (List.replicate 3 (V.bl true))) ∧ UA K H' a_units_here (UZ z) ∧ LadAt K L.C H' a_down (UZ z) 1 "down" true 1 ∧ LadAt K L.C H' a_up (UZ z) 1 "up" true 1 ∧ LadAt K L.C H' a_even (UZ z) 1 "even" true 1 ∧ LadAt K L.C H' a_plain (UZ z) 0 "near" false 10, ?_, ?_⟩
    · refine ⟨_, rfl, ?_⟩
      refine ⟨(by show 2 ≤ sizeLine; decide), fun t9 n9 => ?_⟩
      have s9 := same_upd n9 (o := .tup ([V.ref a_down, V.str "1.0"] : List V))
      have q9 : SqT K (upd H0 t9 (.tup ([V.ref a_down, V.str "1.0"] : List V))) t9 [V.ref a_down, V.str "1.0"] := SqT.of upd_same
      generalize upd H0 t9 (.tup ([V.ref a_down, V.str "1.0"] : List V)) = H9 at s9 q9 ⊢
      refine ⟨_, rfl, ?_⟩
      refine ⟨(by show 2 ≤ sizeLine; decide), fun t10 n10 => ?_⟩
      have s10 := same_upd n10 (o := .tup ([V.ref a_up, V.str "1.1"] : List V))
      have q10 : SqT K (upd H9 t10 (.tup ([V.ref a_up, V.str "1.1"] : List V))) t10 [V.ref a_up, V.str "1.1"] := SqT.of upd_same
      generalize upd H9 t10 (.tup ([V.ref a_up, V.str "1.1"] : List V)) = H10 at s10 q10 ⊢
      refine ⟨_, rfl, ?_⟩
      refine ⟨(by show 2 ≤ sizeLine; decide), fun t11 n11 => ?_⟩
      have s11 := same_upd n11 (o := .tup ([V.ref a_even, V.str "1.0"] : List V))
      have q11 : SqT K (upd H10 t11 (.tup ([V.ref a_even, V.str "1.0"] : List V))) t11 [V.ref a_even, V.str "1.0"] := SqT.of upd_same
      generalize upd H10 t11 (.tup ([V.ref a_even, V.str "1.0"] : List V)) = H11 at s11 q11 ⊢
      refine ⟨(by show 3 ≤ sizeLine; decide), fun T0 nT0 => ?_⟩
      have sT0 := same_upd nT0 (o := .lst [V.ref t9, V.ref t10, V.ref t11])
      have hT0 : (upd H11 T0 (.lst [V.ref t9, V.ref t10, V.ref t11])) T0 = some (.lst [V.ref t9, V.ref t10, V.ref t11]) := upd_same
      generalize upd H11 T0 (.lst [V.ref t9, V.ref t10, V.ref t11]) = HT at sT0 hT0 ⊢
      refine ⟨T0, rfl, ⟨_, SqL.of hT0⟩, fun S nS0 => ?_⟩
      have nS : H S = none := none_of (sB.trans (((s9.trans s10).trans s11).trans sT0)) nS0
      refine lc_list (K := K) (a := T0) (xs := [V.ref t9, V.ref t10, V.ref t11]) (fun j H1 => Same HT H1 ∧ H1 S = some (.lst (List.replicate j (V.bl true)))) ⟨same_upd nS0, upd_same⟩ (fun j H1 _ h => SqL.of (h.1 _ _ hT0)) ?_ ?_
      · rintro j v H5 hj ⟨sm, hD⟩
        match j, hj with
        | 0, hj =>
          cases hj
          refine ⟨t9, _, rfl, same_sqt sm (same_sqt ((s10.trans s11).trans sT0) q9), rfl, _, _, rfl, _, _, rfl, rfl, rfl, ?_⟩
          refine ⟨_, rfl, ?_⟩
          refine con_go ?_
          refine nil_go ?_
          refine go_show _ (("1.0" : Str) ++ z) (LadAt.same sm (LadAt.same (((s9.trans s10).trans s11).trans sT0) la_down)) (g_UZ_1_down_1 hz) (by rcases hz with rfl | rfl | rfl | rfl | rfl | rfl <;> kernel_rfl) (by rcases hz with rfl | rfl | rfl | rfl | rfl | rfl <;> kernel_rfl) fun H6 s6 => ?_
          refine ⟨_, rfl, _, rfl, _, _, rfl, rfl, fit_z hz (by decide +kernel), ?_⟩
          refine eqT rfl (by rcases hz with rfl | rfl | rfl | rfl | rfl | rfl <;> kernel_rfl) ?_
          exact ⟨_, s6 _ _ hD, by rw [List.length_replicate]; exact Nat.le_of_ble_eq_true rfl, Same.updN (sm.trans s6) nS0, by rw [upd_same]; rfl⟩
        | 1, hj =>
          cases hj
          refine ⟨t10, _, rfl, same_sqt sm (same_sqt (s11.trans sT0) q10), rfl, _, _, rfl, _, _, rfl, rfl, rfl, ?_⟩
          refine ⟨_, rfl, ?_⟩
          refine con_go ?_
          refine nil_go ?_
          refine go_show _ (("1.1" : Str) ++ z) (LadAt.same sm (LadAt.same (((s9.trans s10).trans s11).trans sT0) la_up)) (g_UZ_1_up_1 hz) (by rcases hz with rfl | rfl | rfl | rfl | rfl | rfl <;> kernel_rfl) (by rcases hz with rfl | rfl | rfl | rfl | rfl | rfl <;> kernel_rfl) fun H6 s6 => ?_
          refine ⟨_, rfl, _, rfl, _, _, rfl, rfl, fit_z hz (by decide +kernel), ?_⟩
          refine eqT rfl (by rcases hz with rfl | rfl | rfl | rfl | rfl | rfl <;> kernel_rfl) ?_
          exact ⟨_, s6 _ _ hD, by rw [List.length_replicate]; exact Nat.le_of_ble_eq_true rfl, Same.updN (sm.trans s6) nS0, by rw [upd_same]; rfl⟩
        | 2, hj =>
          cases hj
          refine ⟨t11, _, rfl, same_sqt sm (same_sqt sT0 q11), rfl, _, _, rfl, _, _, rfl, rfl, rfl, ?_⟩
          refine ⟨_, rfl, ?_⟩
          refine con_go ?_
          refine nil_go ?_
          refine go_show _ (("1.0" : Str) ++ z) (LadAt.same sm (LadAt.same (((s9.trans s10).trans s11).trans sT0) la_even)) (g_UZ_1_even_1 hz) (by rcases hz with rfl | rfl | rfl | rfl | rfl | rfl <;> kernel_rfl) (by rcases hz with rfl | rfl | rfl | rfl | rfl | rfl <;> kernel_rfl) fun H6 s6 => ?_
          refine ⟨_, rfl, _, rfl, _, _, rfl, rfl, fit_z hz (by decide +kernel), ?_⟩
          refine eqT rfl (by rcases hz with rfl | rfl | rfl | rfl | rfl | rfl <;> kernel_rfl) ?_
          exact ⟨_, s6 _ _ hD, by rw [List.length_replicate]; exact Nat.le_of_ble_eq_true rfl, Same.updN (sm.trans s6) nS0, by rw [upd_same]; rfl⟩
        | n + 3, hj => exact nomatch hj
      · rintro H5 ⟨sm, hD⟩
        exact ⟨a_units_here, a_down, a_up, a_even, a_plain, S, rfl, sB.trans ((((s9.trans s10).trans s11).trans sT0).trans sm), nS, hD, (UA.same ((((s9.trans s10).trans s11).trans sT0).trans sm) ua_units_here), (LadAt.same ((((s9.trans s10).trans s11).trans sT0).trans sm) la_down), (LadAt.same ((((s9.trans s10).trans s11).trans sT0).trans sm) la_up), (LadAt.same ((((s9.trans s10).trans s11).trans sT0).trans sm) la_even), (LadAt.same ((((s9.trans s10).trans s11).trans sT0).trans sm) la_plain)⟩
    rintro σ' H0 ⟨a_units_here, a_down, a_up, a_even, a_plain, S, rfl, sB, nS, hS, ua_units_here, la_down, la_up, la_even, la_plain⟩
    refine ⟨fun σ' H' => ∃ (a_units_here : Addr) (a_down : Addr) (a_up : Addr) (a_even : Addr) (a_plain : Addr) (S : Addr), σ' = [some (.str z), some (.ref a_units_here), some (.ref a_down), some (.ref a_up), some (.ref a_even), some (.ref a_plain), some (.ref S), none, none] ∧ Same H H' ∧ H S = none ∧ H' S = some (.lst (List.replicate 5 (V.bl true))) ∧ UA K H' a_units_here (UZ z) ∧ LadAt K L.C H' a_down (UZ z) 1 "down" true 1 ∧ LadAt K L.C H' a_up (UZ z) 1 "up" true 1 ∧ LadAt K L.C H' a_even (UZ z) 1 "even" true 1 ∧ LadAt K L.C H' a_plain (UZ z) 0 "near" false 10, ?_, ?_⟩
    · refine ⟨_, rfl, ?_⟩
      refine ⟨_, rfl, ?_⟩
      refine con_go ?_
      refine nil_go ?_
      refine go_show _ (("1.2" : Str) ++ z) la_even (g_UZ_1_even_1 hz) (by rcases hz with rfl | rfl | rfl | rfl | rfl | rfl <;> kernel_rfl) (by rcases hz with rfl | rfl | rfl | rfl | rfl | rfl <;> kernel_rfl) fun H12 s12 => ?_
      refine ⟨_, rfl, ?_⟩
      refine ⟨_, _, rfl, rfl, fit_z hz (by decide +kernel), ?_⟩
      refine eqT rfl (by rcases hz with rfl | rfl | rfl | rfl | rfl | rfl <;> kernel_rfl) ?_
      refine ⟨_, rfl, ?_⟩
      refine con_go ?_
      refine nil_go ?_
      refine go_show _ (("1.2" : Str) ++ z) (LadAt.same s12 la_even) (g_UZ_1_even_1 hz) (by rcases hz with rfl | rfl | rfl | rfl | rfl | rfl <;> kernel_rfl) (by rcases hz with rfl | rfl | rfl | rfl | rfl | rfl <;> kernel_rfl) fun H13 s13 => ?_
      refine ⟨_, rfl, ?_⟩
      refine ⟨_, _, rfl, rfl, fit_z hz (by decide +kernel), ?_⟩
      refine eqT rfl (by rcases hz with rfl | rfl | rfl | rfl | rfl | rfl <;> kernel_rfl) ?_
      refine ⟨(by show 2 ≤ sizeLine; decide), fun t14 n14 => ?_⟩
      have hn14 : (upd H13 t14 (.lst (List.replicate 2 (V.bl true)))) t14 = some (.lst (List.replicate 2 (V.bl true))) := upd_same
      have s14 := same_upd n14 (o := .lst (List.replicate 2 (V.bl true)))
      refine ⟨S, t14, _, _, rfl, rfl, ((s12.trans s13).trans s14) _ _ hS, hn14, by rw [List.length_replicate]; exact Nat.le_of_ble_eq_true rfl, fun S2 nS2 => ?_⟩
      have nS3 : H S2 = none := none_of (sB.trans ((s12.trans s13).trans s14)) nS2
      have s15 := same_upd nS2 (o := .lst (List.replicate 5 (V.bl true)))
      exact ⟨a_units_here, a_down, a_up, a_even, a_plain, S2, rfl, sB.trans (((s12.trans s13).trans s14).trans s15), nS3, by rw [upd_same]; rfl, (UA.same (((s12.trans s13).trans s14).trans s15) ua_units_here), (LadAt.same (((s12.trans s13).trans s14).trans s15) la_down), (LadAt.same (((s12.trans s13).trans s14).trans s15) la_up), (LadAt.same (((s12.trans s13).trans s14).trans s15) la_even), (LadAt.same (((s12.trans s13).trans s14).trans s15) la_plain)⟩
    rintro σ' H0 ⟨a_units_here, a_down, a_up, a_even, a_plain, S, rfl, sB, nS, hS, ua_units_here, la_down, la_up, la_even, la_plain⟩
    refine ⟨fun σ' H' => ∃ (a_units_here : Addr) (a_down : Addr) (a_up : Addr) (a_even : Addr) (a_plain : Addr) (S : Addr), σ' = [some (.str z), some (.ref a_units_here), some (.ref a_down), some (.ref a_up), some (.ref a_even), some (.ref a_plain), some (.ref S), none, none] ∧ Same H H' ∧ H S = none ∧ H' S = some (.lst (List.replicate 6 (V.bl true))) ∧ UA K H' a_units_here (UZ z) ∧ LadAt K L.C H' a_down (UZ z) 1 "down" true 1 ∧ LadAt K L.C H' a_up (UZ z) 1 "up" true 1 ∧ LadAt K L.C H' a_even (UZ z) 1 "even" true 1 ∧ LadAt K L.C H' a_plain (UZ z) 0 "near" false 10, ?_, ?_⟩
    · refine ⟨_, rfl, .inl ⟨rfl, _, SqL.of hS⟩, ?_⟩
      refine ⟨_, rfl, ?_⟩
      refine con_go ?_
      refine nil_go ?_
      refine go_show _ "9999" la_plain (g_UZ_0_near_10 hz) (by rcases hz with rfl | rfl | rfl | rfl | rfl | rfl <;> kernel_rfl) (by rcases hz with rfl | rfl | rfl | rfl | rfl | rfl <;> kernel_rfl) fun H16 s16 => ?_
      refine tC_go ?_
      refine eqT rfl (by rcases hz with rfl | rfl | rfl | rfl | rfl | rfl <;> kernel_rfl) ?_
      refine ⟨_, rfl, ?_⟩
      refine iteY7 rfl ?_
      refine ⟨_, rfl, ?_⟩
      refine con_go ?_
      refine nil_go ?_
      refine go_show _ (("10" : Str) ++ z) (LadAt.same s16 la_plain) (g_UZ_0_near_10 hz) (by rcases hz with rfl | rfl | rfl | rfl | rfl | rfl <;> kernel_rfl) (by rcases hz with rfl | rfl | rfl | rfl | rfl | rfl <;> kernel_rfl) fun H17 s17 => ?_
      refine ⟨_, rfl, ?_⟩
      refine ⟨_, _, rfl, rfl, fit_z hz (by decide +kernel), ?_⟩
      refine eqT rfl (by rcases hz with rfl | rfl | rfl | rfl | rfl | rfl <;> kernel_rfl) ?_
      refine ⟨S, _, _, rfl, rfl, ((s16.trans s17) _ _ hS), by rw [List.length_replicate]; exact Nat.le_of_ble_eq_true rfl, ?_⟩
      exact ⟨a_units_here, a_down, a_up, a_even, a_plain, S, rfl, Same.updN (sB.trans (s16.trans s17)) nS, nS, by rw [upd_same]; rfl, UA.updL ((s16.trans s17) _ _ hS) (UA.same (s16.trans s17) ua_units_here), LadAt.updL ((s16.trans s17) _ _ hS) (LadAt.same (s16.trans s17) la_down), LadAt.updL ((s16.trans s17) _ _ hS) (LadAt.same (s16.trans s17) la_up), LadAt.updL ((s16.trans s17) _ _ hS) (LadAt.same (s16.trans s17) la_even), LadAt.updL ((s16.trans s17) _ _ hS) (LadAt.same (s16.trans s17) la_plain)⟩
    rintro σ' H0 ⟨a_units_here, a_down, a_up, a_even, a_plain, S, rfl, sB, nS, hS, ua_units_here, la_down, la_up, la_even, la_plain⟩
    refine ⟨fun σ' H' => ∃ (a_units_here : Addr) (a_down : Addr) (a_up : Addr) (a_even : Addr) (a_plain : Addr) (S : Addr), σ' = [some (.str z), some (.ref a_units_here), some (.ref a_down), some (.ref a_up), some (.ref a_even), some (.ref a_plain), some (.ref S), none, none] ∧ Same H H' ∧ H S = none ∧ H' S = some (.lst (List.replicate 7 (V.bl true))) ∧ UA K H' a_units_here (UZ z) ∧ LadAt K L.C H' a_down (UZ z) 1 "down" true 1 ∧ LadAt K L.C H' a_up (UZ z) 1 "up" true 1 ∧ LadAt K L.C H' a_even (UZ z) 1 "even" true 1 ∧ LadAt K L.C H' a_plain (UZ z) 0 "near" false 10, ?_, ?_⟩
    · refine ⟨_, rfl, .inl ⟨rfl, _, SqL.of hS⟩, ?_⟩
      refine ⟨_, rfl, ?_⟩
      refine con_go ?_
      refine nil_go ?_
      refine go_show _ (("10000" : Str) ++ z) la_plain (g_UZ_0_near_10 hz) (by rcases hz with rfl | rfl | rfl | rfl | rfl | rfl <;> kernel_rfl) (by rcases hz with rfl | rfl | rfl | rfl | rfl | rfl <;> kernel_rfl) fun H18 s18 => ?_
      refine ⟨_, rfl, ?_⟩
      refine ⟨_, _, rfl, rfl, fit_z hz (by decide +kernel), ?_⟩
      refine eqT rfl (by rcases hz with rfl | rfl | rfl | rfl | rfl | rfl <;> kernel_rfl) ?_
      refine ⟨_, rfl, ?_⟩
      refine iteY7 rfl ?_
      refine ⟨_, rfl, ?_⟩
      refine con_go ?_
      refine nil_go ?_
      refine go_show _ "10Zz" (LadAt.same s18 la_plain) (g_UZ_0_near_10 hz) (by rcases hz with rfl | rfl | rfl | rfl | rfl | rfl <;> kernel_rfl) (by rcases hz with rfl | rfl | rfl | rfl | rfl | rfl <;> kernel_rfl) fun H19 s19 => ?_
      refine tC_go ?_
      refine eqT rfl (by rcases hz with rfl | rfl | rfl | rfl | rfl | rfl <;> kernel_rfl) ?_
      refine ⟨S, _, _, rfl, rfl, ((s18.trans s19) _ _ hS), by rw [List.length_replicate]; exact Nat.le_of_ble_eq_true rfl, ?_⟩
      exact ⟨a_units_here, a_down, a_up, a_even, a_plain, S, rfl, Same.updN (sB.trans (s18.trans s19)) nS, nS, by rw [upd_same]; rfl, UA.updL ((s18.trans s19) _ _ hS) (UA.same (s18.trans s19) ua_units_here), LadAt.updL ((s18.trans s19) _ _ hS) (LadAt.same (s18.trans s19) la_down), LadAt.updL ((s18.trans s19) _ _ hS) (LadAt.same (s18.trans s19) la_up), LadAt.updL ((s18.trans s19) _ _ hS) (LadAt.same (s18.trans s19) la_even), LadAt.updL ((s18.trans s19) _ _ hS) (LadAt.same (s18.trans s19) la_plain)⟩
    rintro σ' H0 ⟨a_units_here, a_down, a_up, a_even, a_plain, S, rfl, sB, nS, hS, ua_units_here, la_down, la_up, la_even, la_plain⟩
    refine ⟨fun σ' H' => ∃ (a_units_here : Addr) (a_down : Addr) (a_up : Addr) (a_even : Addr) (a_plain : Addr) (S : Addr), σ' = [some (.str z), some (.ref a_units_here), some (.ref a_down), some (.ref a_up), some (.ref a_even), some (.ref a_plain), some (.ref S), none, none] ∧ Same H H' ∧ H S = none ∧ H' S = some (.lst (List.replicate 8 (V.bl true))) ∧ UA K H' a_units_here (UZ z) ∧ LadAt K L.C H' a_down (UZ z) 1 "down" true 1 ∧ LadAt K L.C H' a_up (UZ z) 1 "up" true 1 ∧ LadAt K L.C H' a_even (UZ z) 1 "even" true 1 ∧ LadAt K L.C H' a_plain (UZ z) 0 "near" false 10, ?_, ?_⟩
    · refine ⟨_, rfl, .inl ⟨rfl, _, SqL.of hS⟩, ?_⟩
      refine ⟨_, rfl, ?_⟩
      refine con_go ?_
      refine nil_go ?_
      refine go_show _ "1.0Zz" la_up (g_UZ_1_up_1 hz) (by rcases hz with rfl | rfl | rfl | rfl | rfl | rfl <;> kernel_rfl) (by rcases hz with rfl | rfl | rfl | rfl | rfl | rfl <;> kernel_rfl) fun H20 s20 => ?_
      refine tC_go ?_
      refine eqT rfl (by rcases hz with rfl | rfl | rfl | rfl | rfl | rfl <;> kernel_rfl) ?_
      refine ⟨_, rfl, ?_⟩
      refine iteY7 rfl ?_
      refine ⟨_, rfl, ?_⟩
      refine con_go ?_
      refine nil_go ?_
      refine go_show _ (("999.9" : Str) ++ z) (LadAt.same s20 la_up) (g_UZ_1_up_1 hz) (by rcases hz with rfl | rfl | rfl | rfl | rfl | rfl <;> kernel_rfl) (by rcases hz with rfl | rfl | rfl | rfl | rfl | rfl <;> kernel_rfl) fun H21 s21 => ?_
      refine ⟨_, rfl, ?_⟩
      refine ⟨_, _, rfl, rfl, fit_z hz (by decide +kernel), ?_⟩
      refine eqT rfl (by rcases hz with rfl | rfl | rfl | rfl | rfl | rfl <;> kernel_rfl) ?_
      refine ⟨S, _, _, rfl, rfl, ((s20.trans s21) _ _ hS), by rw [List.length_replicate]; exact Nat.le_of_ble_eq_true rfl, ?_⟩
      exact ⟨a_units_here, a_down, a_up, a_even, a_plain, S, rfl, Same.updN (sB.trans (s20.trans s21)) nS, nS, by rw [upd_same]; rfl, UA.updL ((s20.trans s21) _ _ hS) (UA.same (s20.trans s21) ua_units_here), LadAt.updL ((s20.trans s21) _ _ hS) (LadAt.same (s20.trans s21) la_down), LadAt.updL ((s20.trans s21) _ _ hS) (LadAt.same (s20.trans s21) la_up), LadAt.updL ((s20.trans s21) _ _ hS) (LadAt.same (s20.trans s21) la_even), LadAt.updL ((s20.trans s21) _ _ hS) (LadAt.same (s20.trans s21) la_plain)⟩
    rintro σ' H0 ⟨a_units_here, a_down, a_up, a_even, a_plain, S, rfl, sB, nS, hS, ua_units_here, la_down, la_up, la_even, la_plain⟩
    refine ⟨fun σ' H' => ∃ (a_units_here : Addr) (a_down : Addr) (a_up : Addr) (a_even : Addr) (a_plain : Addr) (S : Addr), σ' = [some (.str z), some (.ref a_units_here), some (.ref a_down), some (.ref a_up), some (.ref a_even), some (.ref a_plain), some (.ref S), none, none] ∧ Same H H' ∧ H S = none ∧ H' S = some (.lst (List.replicate 9 (V.bl true))) ∧ UA K H' a_units_here (UZ z) ∧ LadAt K L.C H' a_down (UZ z) 1 "down" true 1 ∧ LadAt K L.C H' a_up (UZ z) 1 "up" true 1 ∧ LadAt K L.C H' a_even (UZ z) 1 "even" true 1 ∧ LadAt K L.C H' a_plain (UZ z) 0 "near" false 10, ?_, ?_⟩
    · refine ⟨_, rfl, .inl ⟨rfl, _, SqL.of hS⟩, ?_⟩
      refine ⟨_, rfl, ?_⟩
      refine con_go ?_
      refine nil_go ?_
      refine go_show _ (("999.9" : Str) ++ z) la_down (g_UZ_1_down_1 hz) (by rcases hz with rfl | rfl | rfl | rfl | rfl | rfl <;> kernel_rfl) (by rcases hz with rfl | rfl | rfl | rfl | rfl | rfl <;> kernel_rfl) fun H22 s22 => ?_
      refine ⟨_, rfl, ?_⟩
      refine ⟨_, _, rfl, rfl, fit_z hz (by decide +kernel), ?_⟩
      refine eqT rfl (by rcases hz with rfl | rfl | rfl | rfl | rfl | rfl <;> kernel_rfl) ?_
      refine ⟨_, rfl, ?_⟩
      refine iteY7 rfl ?_
      refine ⟨_, rfl, ?_⟩
      refine con_go ?_
      refine nil_go ?_
      refine go_show _ "1.0Zz" (LadAt.same s22 la_even) (g_UZ_1_even_1 hz) (by rcases hz with rfl | rfl | rfl | rfl | rfl | rfl <;> kernel_rfl) (by rcases hz with rfl | rfl | rfl | rfl | rfl | rfl <;> kernel_rfl) fun H23 s23 => ?_
      refine tC_go ?_
      refine eqT rfl (by rcases hz with rfl | rfl | rfl | rfl | rfl | rfl <;> kernel_rfl) ?_
      refine ⟨S, _, _, rfl, rfl, ((s22.trans s23) _ _ hS), by rw [List.length_replicate]; exact Nat.le_of_ble_eq_true rfl, ?_⟩
      exact ⟨a_units_here, a_down, a_up, a_even, a_plain, S, rfl, Same.updN (sB.trans (s22.trans s23)) nS, nS, by rw [upd_same]; rfl, UA.updL ((s22.trans s23) _ _ hS) (UA.same (s22.trans s23) ua_units_here), LadAt.updL ((s22.trans s23) _ _ hS) (LadAt.same (s22.trans s23) la_down), LadAt.updL ((s22.trans s23) _ _ hS) (LadAt.same (s22.trans s23) la_up), LadAt.updL ((s22.trans s23) _ _ hS) (LadAt.same (s22.trans s23) la_even), LadAt.updL ((s22.trans s23) _ _ hS) (LadAt.same (s22.trans s23) la_plain)⟩
    rintro σ' H0 ⟨a_units_here, a_down, a_up, a_even, a_plain, S, rfl, sB, nS, hS, ua_units_here, la_down, la_up, la_even, la_plain⟩
    refine ⟨fun σ' H' => ∃ (a_units_here : Addr) (a_down : Addr) (a_up : Addr) (a_even : Addr) (a_plain : Addr) (S : Addr), σ' = [some (.str z), some (.ref a_units_here), some (.ref a_down), some (.ref a_up), some (.ref a_even), some (.ref a_plain), some (.ref S), none, none] ∧ Same H H' ∧ H S = none ∧ H' S = some (.lst (List.replicate 10 (V.bl true))) ∧ UA K H' a_units_here (UZ z) ∧ LadAt K L.C H' a_down (UZ z) 1 "down" true 1 ∧ LadAt K L.C H' a_up (UZ z) 1 "up" true 1 ∧ LadAt K L.C H' a_even (UZ z) 1 "even" true 1 ∧ LadAt K L.C H' a_plain (UZ z) 0 "near" false 10, ?_, ?_⟩
    · refine ⟨_, rfl, .inl ⟨rfl, _, SqL.of hS⟩, ?_⟩
      refine ⟨_, rfl, ?_⟩
      refine ⟨_, rfl, ?_⟩
      refine ⟨_, _, rfl, rfl, fit_z hz (by decide +kernel), ?_⟩
      refine nil_go ?_
      refine go_range (1, 10) (1000) (1000) la_up (g_UZ_1_up_1 hz) (by rcases hz with rfl | rfl | rfl | rfl | rfl | rfl <;> kernel_rfl) (by rcases hz with rfl | rfl | rfl | rfl | rfl | rfl <;> kernel_rfl) (by rcases hz with rfl | rfl | rfl | rfl | rfl | rfl <;> kernel_rfl) (by rcases hz with rfl | rfl | rfl | rfl | rfl | rfl <;> kernel_rfl) (by rcases hz with rfl | rfl | rfl | rfl | rfl | rfl <;> kernel_rfl) fun r24 H24 s24 d24 => ?_
      refine ⟨(by show 2 ≤ sizeLine; decide), fun t25 n25 => ?_⟩
      have s25 := same_upd n25 (o := .tup ([V.int (1000), V.int (1000)] : List V))
      have q25 : SqT K (upd H24 t25 (.tup ([V.int (1000), V.int (1000)] : List V))) t25 [V.int (1000), V.int (1000)] := SqT.of upd_same
      have d25 : Dp K (upd H24 t25 (.tup ([V.int (1000), V.int (1000)] : List V))) (.ref t25) (.tuple [.int ((1000)), .int ((1000))]) := .tup (SqT.of upd_same) (.cons (.int _) (.cons (.int _) .nil))
      generalize upd H24 t25 (.tup ([V.int (1000), V.int (1000)] : List V)) = H25 at s25 q25 d25 ⊢
      refine eqDT (dp_same s25 _ _ d24) d25 (by rcases hz with rfl | rfl | rfl | rfl | rfl | rfl <;> kernel_rfl) (by rcases hz with rfl | rfl | rfl | rfl | rfl | rfl <;> kernel_rfl) (by rcases hz with rfl | rfl | rfl | rfl | rfl | rfl <;> kernel_rfl) ?_
      refine ⟨S, _, _, rfl, rfl, ((s24.trans s25) _ _ hS), by rw [List.length_replicate]; exact Nat.le_of_ble_eq_true rfl, ?_⟩
      exact ⟨a_units_here, a_down, a_up, a_even, a_plain, S, rfl, Same.updN (sB.trans (s24.trans s25)) nS, nS, by rw [upd_same]; rfl, UA.updL ((s24.trans s25) _ _ hS) (UA.same (s24.trans s25) ua_units_here), LadAt.updL ((s24.trans s25) _ _ hS) (LadAt.same (s24.trans s25) la_down), LadAt.updL ((s24.trans s25) _ _ hS) (LadAt.same (s24.trans s25) la_up), LadAt.updL ((s24.trans s25) _ _ hS) (LadAt.same (s24.trans s25) la_even), LadAt.updL ((s24.trans s25) _ _ hS) (LadAt.same (s24.trans s25) la_plain)⟩
    rintro σ' H0 ⟨a_units_here, a_down, a_up, a_even, a_plain, S, rfl, sB, nS, hS, ua_units_here, la_down, la_up, la_even, la_plain⟩
    refine ⟨fun σ' H' => ∃ (a_units_here : Addr) (a_down : Addr) (a_up : Addr) (a_even : Addr) (a_plain : Addr) (S : Addr), σ' = [some (.str z), some (.ref a_units_here), some (.ref a_down), some (.ref a_up), some (.ref a_even), some (.ref a_plain), some (.ref S), none, none] ∧ Same H H' ∧ H S = none ∧ H' S = some (.lst (List.replicate 11 (V.bl true))) ∧ UA K H' a_units_here (UZ z) ∧ LadAt K L.C H' a_down (UZ z) 1 "down" true 1 ∧ LadAt K L.C H' a_up (UZ z) 1 "up" true 1 ∧ LadAt K L.C H' a_even (UZ z) 1 "even" true 1 ∧ LadAt K L.C H' a_plain (UZ z) 0 "near" false 10, ?_, ?_⟩
    · refine ⟨_, rfl, .inl ⟨rfl, _, SqL.of hS⟩, ?_⟩
      refine ⟨_, rfl, ?_⟩
      refine ⟨_, rfl, ?_⟩
      refine ⟨_, _, rfl, rfl, fit_z hz (by decide +kernel), ?_⟩
      refine nil_go ?_
      refine go_range (1, 11) (1001) (1100) la_up (g_UZ_1_up_1 hz) (by rcases hz with rfl | rfl | rfl | rfl | rfl | rfl <;> kernel_rfl) (by rcases hz with rfl | rfl | rfl | rfl | rfl | rfl <;> kernel_rfl) (by rcases hz with rfl | rfl | rfl | rfl | rfl | rfl <;> kernel_rfl) (by rcases hz with rfl | rfl | rfl | rfl | rfl | rfl <;> kernel_rfl) (by rcases hz with rfl | rfl | rfl | rfl | rfl | rfl <;> kernel_rfl) fun r26 H26 s26 d26 => ?_
      refine ⟨(by show 2 ≤ sizeLine; decide), fun t27 n27 => ?_⟩
      have s27 := same_upd n27 (o := .tup ([V.int (1001), V.int (1100)] : List V))
      have q27 : SqT K (upd H26 t27 (.tup ([V.int (1001), V.int (1100)] : List V))) t27 [V.int (1001), V.int (1100)] := SqT.of upd_same
      have d27 : Dp K (upd H26 t27 (.tup ([V.int (1001), V.int (1100)] : List V))) (.ref t27) (.tuple [.int ((1001)), .int ((1100))]) := .tup (SqT.of upd_same) (.cons (.int _) (.cons (.int _) .nil))
      generalize upd H26 t27 (.tup ([V.int (1001), V.int (1100)] : List V)) = H27 at s27 q27 d27 ⊢
      refine eqDT (dp_same s27 _ _ d26) d27 (by rcases hz with rfl | rfl | rfl | rfl | rfl | rfl <;> kernel_rfl) (by rcases hz with rfl | rfl | rfl | rfl | rfl | rfl <;> kernel_rfl) (by rcases hz with rfl | rfl | rfl | rfl | rfl | rfl <;> kernel_rfl) ?_
      refine ⟨S, _, _, rfl, rfl, ((s26.trans s27) _ _ hS), by rw [List.length_replicate]; exact Nat.le_of_ble_eq_true rfl, ?_⟩
      exact ⟨a_units_here, a_down, a_up, a_even, a_plain, S, rfl, Same.updN (sB.trans (s26.trans s27)) nS, nS, by rw [upd_same]; rfl, UA.updL ((s26.trans s27) _ _ hS) (UA.same (s26.trans s27) ua_units_here), LadAt.updL ((s26.trans s27) _ _ hS) (LadAt.same (s26.trans s27) la_down), LadAt.updL ((s26.trans s27) _ _ hS) (LadAt.same (s26.trans s27) la_up), LadAt.updL ((s26.trans s27) _ _ hS) (LadAt.same (s26.trans s27) la_even), LadAt.updL ((s26.trans s27) _ _ hS) (LadAt.same (s26.trans s27) la_plain)⟩
    rintro σ' H0 ⟨a_units_here, a_down, a_up, a_even, a_plain, S, rfl, sB, nS, hS, ua_units_here, la_down, la_up, la_even, la_plain⟩
    refine ⟨fun σ' H' => ∃ (a_units_here : Addr) (a_down : Addr) (a_up : Addr) (a_even : Addr) (a_plain : Addr) (S : Addr), σ' = [some (.str z), some (.ref a_units_here), some (.ref a_down), some (.ref a_up), some (.ref a_even), some (.ref a_plain), some (.ref S), none, none] ∧ Same H H' ∧ H S = none ∧ H' S = some (.lst (List.replicate 12 (V.bl true))) ∧ UA K H' a_units_here (UZ z) ∧ LadAt K L.C H' a_down (UZ z) 1 "down" true 1 ∧ LadAt K L.C H' a_up (UZ z) 1 "up" true 1 ∧ LadAt K L.C H' a_even (UZ z) 1 "even" true 1 ∧ LadAt K L.C H' a_plain (UZ z) 0 "near" false 10, ?_, ?_⟩
    · refine ⟨_, rfl, .inl ⟨rfl, _, SqL.of hS⟩, ?_⟩
      refine ⟨_, rfl, ?_⟩
      refine ⟨_, rfl, ?_⟩
      refine ⟨_, _, rfl, rfl, fit_z hz (by decide +kernel), ?_⟩
      refine nil_go ?_
      refine go_range (1, 11) (1051) (1149) la_even (g_UZ_1_even_1 hz) (by rcases hz with rfl | rfl | rfl | rfl | rfl | rfl <;> kernel_rfl) (by rcases hz with rfl | rfl | rfl | rfl | rfl | rfl <;> kernel_rfl) (by rcases hz with rfl | rfl | rfl | rfl | rfl | rfl <;> kernel_rfl) (by rcases hz with rfl | rfl | rfl | rfl | rfl | rfl <;> kernel_rfl) (by rcases hz with rfl | rfl | rfl | rfl | rfl | rfl <;> kernel_rfl) fun r28 H28 s28 d28 => ?_
      refine ⟨(by show 2 ≤ sizeLine; decide), fun t29 n29 => ?_⟩
      have s29 := same_upd n29 (o := .tup ([V.int (1051), V.int (1149)] : List V))
      have q29 : SqT K (upd H28 t29 (.tup ([V.int (1051), V.int (1149)] : List V))) t29 [V.int (1051), V.int (1149)] := SqT.of upd_same
      have d29 : Dp K (upd H28 t29 (.tup ([V.int (1051), V.int (1149)] : List V))) (.ref t29) (.tuple [.int ((1051)), .int ((1149))]) := .tup (SqT.of upd_same) (.cons (.int _) (.cons (.int _) .nil))
      generalize upd H28 t29 (.tup ([V.int (1051), V.int (1149)] : List V)) = H29 at s29 q29 d29 ⊢
      refine eqDT (dp_same s29 _ _ d28) d29 (by rcases hz with rfl | rfl | rfl | rfl | rfl | rfl <;> kernel_rfl) (by rcases hz with rfl | rfl | rfl | rfl | rfl | rfl <;> kernel_rfl) (by rcases hz with rfl | rfl | rfl | rfl | rfl | rfl <;> kernel_rfl) ?_
      refine ⟨S, _, _, rfl, rfl, ((s28.trans s29) _ _ hS), by rw [List.length_replicate]; exact Nat.le_of_ble_eq_true rfl, ?_⟩
      exact ⟨a_units_here, a_down, a_up, a_even, a_plain, S, rfl, Same.updN (sB.trans (s28.trans s29)) nS, nS, by rw [upd_same]; rfl, UA.updL ((s28.trans s29) _ _ hS) (UA.same (s28.trans s29) ua_units_here), LadAt.updL ((s28.trans s29) _ _ hS) (LadAt.same (s28.trans s29) la_down), LadAt.updL ((s28.trans s29) _ _ hS) (LadAt.same (s28.trans s29) la_up), LadAt.updL ((s28.trans s29) _ _ hS) (LadAt.same (s28.trans s29) la_even), LadAt.updL ((s28.trans s29) _ _ hS) (LadAt.same (s28.trans s29) la_plain)⟩
    rintro σ' H0 ⟨a_units_here, a_down, a_up, a_even, a_plain, S, rfl, sB, nS, hS, ua_units_here, la_down, la_up, la_even, la_plain⟩
    refine ⟨fun σ' H' => ∃ (a_units_here : Addr) (a_down : Addr) (a_up : Addr) (a_even : Addr) (a_plain : Addr) (S : Addr), σ' = [some (.str z), some (.ref a_units_here), some (.ref a_down), some (.ref a_up), some (.ref a_even), some (.ref a_plain), some (.ref S), none, none] ∧ Same H H' ∧ H S = none ∧ H' S = some (.lst (List.replicate 13 (V.bl true))) ∧ UA K H' a_units_here (UZ z) ∧ LadAt K L.C H' a_down (UZ z) 1 "down" true 1 ∧ LadAt K L.C H' a_up (UZ z) 1 "up" true 1 ∧ LadAt K L.C H' a_even (UZ z) 1 "even" true 1 ∧ LadAt K L.C H' a_plain (UZ z) 0 "near" false 10, ?_, ?_⟩
    · refine ⟨_, rfl, .inl ⟨rfl, _, SqL.of hS⟩, ?_⟩
      refine ⟨_, rfl, ?_⟩
      refine ⟨_, rfl, ?_⟩
      refine ⟨_, _, rfl, rfl, fit_z hz (by decide +kernel), ?_⟩
      refine nil_go ?_
      refine go_range (1, 12) (1150) (1250) la_even (g_UZ_1_even_1 hz) (by rcases hz with rfl | rfl | rfl | rfl | rfl | rfl <;> kernel_rfl) (by rcases hz with rfl | rfl | rfl | rfl | rfl | rfl <;> kernel_rfl) (by rcases hz with rfl | rfl | rfl | rfl | rfl | rfl <;> kernel_rfl) (by rcases hz with rfl | rfl | rfl | rfl | rfl | rfl <;> kernel_rfl) (by rcases hz with rfl | rfl | rfl | rfl | rfl | rfl <;> kernel_rfl) fun r30 H30 s30 d30 => ?_
      refine ⟨(by show 2 ≤ sizeLine; decide), fun t31 n31 => ?_⟩
      have s31 := same_upd n31 (o := .tup ([V.int (1150), V.int (1250)] : List V))
      have q31 : SqT K (upd H30 t31 (.tup ([V.int (1150), V.int (1250)] : List V))) t31 [V.int (1150), V.int (1250)] := SqT.of upd_same
      have d31 : Dp K (upd H30 t31 (.tup ([V.int (1150), V.int (1250)] : List V))) (.ref t31) (.tuple [.int ((1150)), .int ((1250))]) := .tup (SqT.of upd_same) (.cons (.int _) (.cons (.int _) .nil))
      generalize upd H30 t31 (.tup ([V.int (1150), V.int (1250)] : List V)) = H31 at s31 q31 d31 ⊢
      refine eqDT (dp_same s31 _ _ d30) d31 (by rcases hz with rfl | rfl | rfl | rfl | rfl | rfl <;> kernel_rfl) (by rcases hz with rfl | rfl | rfl | rfl | rfl | rfl <;> kernel_rfl) (by rcases hz with rfl | rfl | rfl | rfl | rfl | rfl <;> kernel_rfl) ?_
      refine ⟨S, _, _, rfl, rfl, ((s30.trans s31) _ _ hS), by rw [List.length_replicate]; exact Nat.le_of_ble_eq_true rfl, ?_⟩
      exact ⟨a_units_here, a_down, a_up, a_even, a_plain, S, rfl, Same.updN (sB.trans (s30.trans s31)) nS, nS, by rw [upd_same]; rfl, UA.updL ((s30.trans s31) _ _ hS) (UA.same (s30.trans s31) ua_units_here), LadAt.updL ((s30.trans s31) _ _ hS) (LadAt.same (s30.trans s31) la_down), LadAt.updL ((s30.trans s31) _ _ hS) (LadAt.same (s30.trans s31) la_up), LadAt.updL ((s30.trans s31) _ _ hS) (LadAt.same (s30.trans s31) la_even), LadAt.updL ((s30.trans s31) _ _ hS) (LadAt.same (s30.trans s31) la_plain)⟩
    rintro σ' H0 ⟨a_units_here, a_down, a_up, a_even, a_plain, S, rfl, sB, nS, hS, ua_units_here, la_down, la_up, la_even, la_plain⟩
    refine ⟨fun σ' H' => ∃ (a_units_here : Addr) (a_down : Addr) (a_up : Addr) (a_even : Addr) (a_plain : Addr) (S : Addr), σ' = [some (.str z), some (.ref a_units_here), some (.ref a_down), some (.ref a_up), some (.ref a_even), some (.ref a_plain), some (.ref S), none, none] ∧ Same H H' ∧ H S = none ∧ H' S = some (.lst (List.replicate 14 (V.bl true))) ∧ UA K H' a_units_here (UZ z) ∧ LadAt K L.C H' a_down (UZ z) 1 "down" true 1 ∧ LadAt K L.C H' a_up (UZ z) 1 "up" true 1 ∧ LadAt K L.C H' a_even (UZ z) 1 "even" true 1 ∧ LadAt K L.C H' a_plain (UZ z) 0 "near" false 10, ?_, ?_⟩
    · refine ⟨_, rfl, .inl ⟨rfl, _, SqL.of hS⟩, ?_⟩
      refine ⟨_, rfl, ?_⟩
      refine con_go ?_
      refine nil_go ?_
      refine go_range (2, 10) (999901) (1000000) la_up (g_UZ_1_up_1 hz) (by rcases hz with rfl | rfl | rfl | rfl | rfl | rfl <;> kernel_rfl) (by rcases hz with rfl | rfl | rfl | rfl | rfl | rfl <;> kernel_rfl) (by rcases hz with rfl | rfl | rfl | rfl | rfl | rfl <;> kernel_rfl) (by rcases hz with rfl | rfl | rfl | rfl | rfl | rfl <;> kernel_rfl) (by rcases hz with rfl | rfl | rfl | rfl | rfl | rfl <;> kernel_rfl) fun r32 H32 s32 d32 => ?_
      refine ⟨(by show 2 ≤ sizeLine; decide), fun t33 n33 => ?_⟩
      have s33 := same_upd n33 (o := .tup ([V.int (999901), V.int (1000000)] : List V))
      have q33 : SqT K (upd H32 t33 (.tup ([V.int (999901), V.int (1000000)] : List V))) t33 [V.int (999901), V.int (1000000)] := SqT.of upd_same
      have d33 : Dp K (upd H32 t33 (.tup ([V.int (999901), V.int (1000000)] : List V))) (.ref t33) (.tuple [.int ((999901)), .int ((1000000))]) := .tup (SqT.of upd_same) (.cons (.int _) (.cons (.int _) .nil))
      generalize upd H32 t33 (.tup ([V.int (999901), V.int (1000000)] : List V)) = H33 at s33 q33 d33 ⊢
      refine eqDT (dp_same s33 _ _ d32) d33 (by rcases hz with rfl | rfl | rfl | rfl | rfl | rfl <;> kernel_rfl) (by rcases hz with rfl | rfl | rfl | rfl | rfl | rfl <;> kernel_rfl) (by rcases hz with rfl | rfl | rfl | rfl | rfl | rfl <;> kernel_rfl) ?_
      refine ⟨_, rfl, ?_⟩
      refine iteY7 rfl ?_
      refine ⟨_, rfl, ?_⟩
      refine con_go ?_
      refine nil_go ?_
      refine go_range (2, 10) (1000000) (1099999) (LadAt.same (s32.trans s33) la_down) (g_UZ_1_down_1 hz) (by rcases hz with rfl | rfl | rfl | rfl | rfl | rfl <;> kernel_rfl) (by rcases hz with rfl | rfl | rfl | rfl | rfl | rfl <;> kernel_rfl) (by rcases hz with rfl | rfl | rfl | rfl | rfl | rfl <;> kernel_rfl) (by rcases hz with rfl | rfl | rfl | rfl | rfl | rfl <;> kernel_rfl) (by rcases hz with rfl | rfl | rfl | rfl | rfl | rfl <;> kernel_rfl) fun r34 H34 s34 d34 => ?_
      refine ⟨(by show 2 ≤ sizeLine; decide), fun t35 n35 => ?_⟩
      have s35 := same_upd n35 (o := .tup ([V.int (1000000), V.int (1099999)] : List V))
      have q35 : SqT K (upd H34 t35 (.tup ([V.int (1000000), V.int (1099999)] : List V))) t35 [V.int (1000000), V.int (1099999)] := SqT.of upd_same
      have d35 : Dp K (upd H34 t35 (.tup ([V.int (1000000), V.int (1099999)] : List V))) (.ref t35) (.tuple [.int ((1000000)), .int ((1099999))]) := .tup (SqT.of upd_same) (.cons (.int _) (.cons (.int _) .nil))
      generalize upd H34 t35 (.tup ([V.int (1000000), V.int (1099999)] : List V)) = H35 at s35 q35 d35 ⊢
      refine eqDT (dp_same s35 _ _ d34) d35 (by rcases hz with rfl | rfl | rfl | rfl | rfl | rfl <;> kernel_rfl) (by rcases hz with rfl | rfl | rfl | rfl | rfl | rfl <;> kernel_rfl) (by rcases hz with rfl | rfl | rfl | rfl | rfl | rfl <;> kernel_rfl) ?_
      refine ⟨S, _, _, rfl, rfl, ((((s32.trans s33).trans s34).trans s35) _ _ hS), by rw [List.length_replicate]; exact Nat.le_of_ble_eq_true rfl, ?_⟩
      exact ⟨a_units_here, a_down, a_up, a_even, a_plain, S, rfl, Same.updN (sB.trans (((s32.trans s33).trans s34).trans s35)) nS, nS, by rw [upd_same]; rfl, UA.updL ((((s32.trans s33).trans s34).trans s35) _ _ hS) (UA.same (((s32.trans s33).trans s34).trans s35) ua_units_here), LadAt.updL ((((s32.trans s33).trans s34).trans s35) _ _ hS) (LadAt.same (((s32.trans s33).trans s34).trans s35) la_down), LadAt.updL ((((s32.trans s33).trans s34).trans s35) _ _ hS) (LadAt.same (((s32.trans s33).trans s34).trans s35) la_up), LadAt.updL ((((s32.trans s33).trans s34).trans s35) _ _ hS) (LadAt.same (((s32.trans s33).trans s34).trans s35) la_even), LadAt.updL ((((s32.trans s33).trans s34).trans s35) _ _ hS) (LadAt.same (((s32.trans s33).trans s34).trans s35) la_plain)⟩
    rintro σ' H0 ⟨a_units_here, a_down, a_up, a_even, a_plain, S, rfl, sB, nS, hS, ua_units_here, la_down, la_up, la_even, la_plain⟩
    refine ⟨fun σ' H' => ∃ (a_units_here : Addr) (a_down : Addr) (a_up : Addr) (a_even : Addr) (a_plain : Addr) (S : Addr), σ' = [some (.str z), some (.ref a_units_here), some (.ref a_down), some (.ref a_up), some (.ref a_even), some (.ref a_plain), some (.ref S), none, none] ∧ Same H H' ∧ H S = none ∧ H' S = some (.lst (List.replicate 15 (V.bl true))) ∧ UA K H' a_units_here (UZ z) ∧ LadAt K L.C H' a_down (UZ z) 1 "down" true 1 ∧ LadAt K L.C H' a_up (UZ z) 1 "up" true 1 ∧ LadAt K L.C H' a_even (UZ z) 1 "even" true 1 ∧ LadAt K L.C H' a_plain (UZ z) 0 "near" false 10, ?_, ?_⟩
    · refine ⟨_, rfl, .inl ⟨rfl, _, SqL.of hS⟩, ?_⟩
      refine ⟨_, rfl, ?_⟩
      refine ⟨_, rfl, ?_⟩
      refine ⟨_, _, rfl, rfl, fit_z hz (by decide +kernel), ?_⟩
      refine nil_go ?_
      refine go_rangeN (1, 9) la_plain (g_UZ_0_near_10 hz) (by rcases hz with rfl | rfl | rfl | rfl | rfl | rfl <;> kernel_rfl) (by rcases hz with rfl | rfl | rfl | rfl | rfl | rfl <;> kernel_rfl) (by rcases hz with rfl | rfl | rfl | rfl | rfl | rfl <;> kernel_rfl) fun H36 s36 => ?_
      refine ⟨_, rfl, ?_⟩
      refine iteY7 rfl ?_
      refine ⟨_, rfl, ?_⟩
      refine ⟨_, rfl, ?_⟩
      refine ⟨_, _, rfl, rfl, fit_z hz (by decide +kernel), ?_⟩
      refine nil_go ?_
      refine go_range (1, 10) (10000) (10499) (LadAt.same s36 la_plain) (g_UZ_0_near_10 hz) (by rcases hz with rfl | rfl | rfl | rfl | rfl | rfl <;> kernel_rfl) (by rcases hz with rfl | rfl | rfl | rfl | rfl | rfl <;> kernel_rfl) (by rcases hz with rfl | rfl | rfl | rfl | rfl | rfl <;> kernel_rfl) (by rcases hz with rfl | rfl | rfl | rfl | rfl | rfl <;> kernel_rfl) (by rcases hz with rfl | rfl | rfl | rfl | rfl | rfl <;> kernel_rfl) fun r37 H37 s37 d37 => ?_
      refine ⟨(by show 2 ≤ sizeLine; decide), fun t38 n38 => ?_⟩
      have s38 := same_upd n38 (o := .tup ([V.int (10000), V.int (10499)] : List V))
      have q38 : SqT K (upd H37 t38 (.tup ([V.int (10000), V.int (10499)] : List V))) t38 [V.int (10000), V.int (10499)] := SqT.of upd_same
      have d38 : Dp K (upd H37 t38 (.tup ([V.int (10000), V.int (10499)] : List V))) (.ref t38) (.tuple [.int ((10000)), .int ((10499))]) := .tup (SqT.of upd_same) (.cons (.int _) (.cons (.int _) .nil))
      generalize upd H37 t38 (.tup ([V.int (10000), V.int (10499)] : List V)) = H38 at s38 q38 d38 ⊢
      refine eqDT (dp_same s38 _ _ d37) d38 (by rcases hz with rfl | rfl | rfl | rfl | rfl | rfl <;> kernel_rfl) (by rcases hz with rfl | rfl | rfl | rfl | rfl | rfl <;> kernel_rfl) (by rcases hz with rfl | rfl | rfl | rfl | rfl | rfl <;> kernel_rfl) ?_
      refine ⟨S, _, _, rfl, rfl, (((s36.trans s37).trans s38) _ _ hS), by rw [List.length_replicate]; exact Nat.le_of_ble_eq_true rfl, ?_⟩
      exact ⟨a_units_here, a_down, a_up, a_even, a_plain, S, rfl, Same.updN (sB.trans ((s36.trans s37).trans s38)) nS, nS, by rw [upd_same]; rfl, UA.updL (((s36.trans s37).trans s38) _ _ hS) (UA.same ((s36.trans s37).trans s38) ua_units_here), LadAt.updL (((s36.trans s37).trans s38) _ _ hS) (LadAt.same ((s36.trans s37).trans s38) la_down), LadAt.updL (((s36.trans s37).trans s38) _ _ hS) (LadAt.same ((s36.trans s37).trans s38) la_up), LadAt.updL (((s36.trans s37).trans s38) _ _ hS) (LadAt.same ((s36.trans s37).trans s38) la_even), LadAt.updL (((s36.trans s37).trans s38) _ _ hS) (LadAt.same ((s36.trans s37).trans s38) la_plain)⟩
    rintro σ' H0 ⟨a_units_here, a_down, a_up, a_even, a_plain, S, rfl, sB, nS, hS, ua_units_here, la_down, la_up, la_even, la_plain⟩
    refine ⟨fun σ' H' => ∃ (a_units_here : Addr) (a_down : Addr) (a_up : Addr) (a_even : Addr) (a_plain : Addr) (S : Addr), σ' = [some (.str z), some (.ref a_units_here), some (.ref a_down), some (.ref a_up), some (.ref a_even), some (.ref a_plain), some (.ref S), none, none] ∧ Same H H' ∧ H S = none ∧ H' S = some (.lst (List.replicate 16 (V.bl true))) ∧ UA K H' a_units_here (UZ z) ∧ LadAt K L.C H' a_down (UZ z) 1 "down" true 1 ∧ LadAt K L.C H' a_up (UZ z) 1 "up" true 1 ∧ LadAt K L.C H' a_even (UZ z) 1 "even" true 1 ∧ LadAt K L.C H' a_plain (UZ z) 0 "near" false 10, ?_, ?_⟩
    · refine ⟨_, rfl, .inl ⟨rfl, _, SqL.of hS⟩, ?_⟩
      refine ⟨_, rfl, ?_⟩
      refine con_go ?_
      refine nil_go ?_
      refine go_hidden _ (50) (50) la_even (g_UZ_1_even_1 hz) (by rcases hz with rfl | rfl | rfl | rfl | rfl | rfl <;> kernel_rfl) (by rcases hz with rfl | rfl | rfl | rfl | rfl | rfl <;> kernel_rfl) (by rcases hz with rfl | rfl | rfl | rfl | rfl | rfl <;> kernel_rfl) (by rcases hz with rfl | rfl | rfl | rfl | rfl | rfl <;> kernel_rfl) fun r39 H39 s39 d39 => ?_
      refine ⟨(by show 2 ≤ sizeLine; decide), fun t40 n40 => ?_⟩
      have s40 := same_upd n40 (o := .tup ([V.int (50), V.int (50)] : List V))
      have q40 : SqT K (upd H39 t40 (.tup ([V.int (50), V.int (50)] : List V))) t40 [V.int (50), V.int (50)] := SqT.of upd_same
      have d40 : Dp K (upd H39 t40 (.tup ([V.int (50), V.int (50)] : List V))) (.ref t40) (.tuple [.int ((50)), .int ((50))]) := .tup (SqT.of upd_same) (.cons (.int _) (.cons (.int _) .nil))
      generalize upd H39 t40 (.tup ([V.int (50), V.int (50)] : List V)) = H40 at s40 q40 d40 ⊢
      refine eqDT (dp_same s40 _ _ d39) d40 (by rcases hz with rfl | rfl | rfl | rfl | rfl | rfl <;> kernel_rfl) (by rcases hz with rfl | rfl | rfl | rfl | rfl | rfl <;> kernel_rfl) (by rcases hz with rfl | rfl | rfl | rfl | rfl | rfl <;> kernel_rfl) ?_
      refine ⟨_, rfl, ?_⟩
      refine iteY7 rfl ?_
      refine ⟨_, rfl, ?_⟩
      refine con_go ?_
      refine nil_go ?_
      refine go_wide _ 6 (1, 12) (1150) (1250) (LadAt.same (s39.trans s40) la_even) (g_UZ_1_even_1 hz) (by rcases hz with rfl | rfl | rfl | rfl | rfl | rfl <;> kernel_rfl) (by rcases hz with rfl | rfl | rfl | rfl | rfl | rfl <;> kernel_rfl) (by rcases hz with rfl | rfl | rfl | rfl | rfl | rfl <;> kernel_rfl) (by rcases hz with rfl | rfl | rfl | rfl | rfl | rfl <;> kernel_rfl) fun r41 H41 s41 d41 => ?_
      refine ⟨(by show 2 ≤ sizeLine; decide), fun t42 n42 => ?_⟩
      have s42 := same_upd n42 (o := .tup ([V.int (1150), V.int (1250)] : List V))
      have q42 : SqT K (upd H41 t42 (.tup ([V.int (1150), V.int (1250)] : List V))) t42 [V.int (1150), V.int (1250)] := SqT.of upd_same
      have d42 : Dp K (upd H41 t42 (.tup ([V.int (1150), V.int (1250)] : List V))) (.ref t42) (.tuple [.int ((1150)), .int ((1250))]) := .tup (SqT.of upd_same) (.cons (.int _) (.cons (.int _) .nil))
      generalize upd H41 t42 (.tup ([V.int (1150), V.int (1250)] : List V)) = H42 at s42 q42 d42 ⊢
      refine eqDT (dp_same s42 _ _ d41) d42 (by rcases hz with rfl | rfl | rfl | rfl | rfl | rfl <;> kernel_rfl) (by rcases hz with rfl | rfl | rfl | rfl | rfl | rfl <;> kernel_rfl) (by rcases hz with rfl | rfl | rfl | rfl | rfl | rfl <;> kernel_rfl) ?_
      refine ⟨S, _, _, rfl, rfl, ((((s39.trans s40).trans s41).trans s42) _ _ hS), by rw [List.length_replicate]; exact Nat.le_of_ble_eq_true rfl, ?_⟩
      exact ⟨a_units_here, a_down, a_up, a_even, a_plain, S, rfl, Same.updN (sB.trans (((s39.trans s40).trans s41).trans s42)) nS, nS, by rw [upd_same]; rfl, UA.updL ((((s39.trans s40).trans s41).trans s42) _ _ hS) (UA.same (((s39.trans s40).trans s41).trans s42) ua_units_here), LadAt.updL ((((s39.trans s40).trans s41).trans s42) _ _ hS) (LadAt.same (((s39.trans s40).trans s41).trans s42) la_down), LadAt.updL ((((s39.trans s40).trans s41).trans s42) _ _ hS) (LadAt.same (((s39.trans s40).trans s41).trans s42) la_up), LadAt.updL ((((s39.trans s40).trans s41).trans s42) _ _ hS) (LadAt.same (((s39.trans s40).trans s41).trans s42) la_even), LadAt.updL ((((s39.trans s40).trans s41).trans s42) _ _ hS) (LadAt.same (((s39.trans s40).trans s41).trans s42) la_plain)⟩
    rintro σ' H0 ⟨a_units_here, a_down, a_up, a_even, a_plain, S, rfl, sB, nS, hS, ua_units_here, la_down, la_up, la_even, la_plain⟩
    refine ⟨fun σ' H' => ∃ (a_units_here : Addr) (a_down : Addr) (a_up : Addr) (a_even : Addr) (a_plain : Addr) (S : Addr), σ' = [some (.str z), some (.ref a_units_here), some (.ref a_down), some (.ref a_up), some (.ref a_even), some (.ref a_plain), some (.ref S), none, none] ∧ Same H H' ∧ H S = none ∧ H' S = some (.lst (List.replicate 17 (V.bl true))) ∧ UA K H' a_units_here (UZ z) ∧ LadAt K L.C H' a_down (UZ z) 1 "down" true 1 ∧ LadAt K L.C H' a_up (UZ z) 1 "up" true 1 ∧ LadAt K L.C H' a_even (UZ z) 1 "even" true 1 ∧ LadAt K L.C H' a_plain (UZ z) 0 "near" false 10, ?_, ?_⟩
    · refine ⟨_, rfl, .inl ⟨rfl, _, SqL.of hS⟩, ?_⟩
      refine ⟨_, rfl, ?_⟩
      refine con_go ?_
      refine nil_go ?_
      refine go_nextf (0, 999) (("1.0" : Str) ++ z) la_down (g_UZ_1_down_1 hz) (by rcases hz with rfl | rfl | rfl | rfl | rfl | rfl <;> kernel_rfl) (by rcases hz with rfl | rfl | rfl | rfl | rfl | rfl <;> kernel_rfl) (by rcases hz with rfl | rfl | rfl | rfl | rfl | rfl <;> kernel_rfl) (by rcases hz with rfl | rfl | rfl | rfl | rfl | rfl <;> kernel_rfl) fun H43 s43 => ?_
      refine ⟨_, rfl, ?_⟩
      refine ⟨_, _, rfl, rfl, fit_z hz (by decide +kernel), ?_⟩
      refine eqT rfl (by rcases hz with rfl | rfl | rfl | rfl | rfl | rfl <;> kernel_rfl) ?_
      refine ⟨S, _, _, rfl, rfl, (s43 _ _ hS), by rw [List.length_replicate]; exact Nat.le_of_ble_eq_true rfl, ?_⟩
      exact ⟨a_units_here, a_down, a_up, a_even, a_plain, S, rfl, Same.updN (sB.trans s43) nS, nS, by rw [upd_same]; rfl, UA.updL (s43 _ _ hS) (UA.same s43 ua_units_here), LadAt.updL (s43 _ _ hS) (LadAt.same s43 la_down), LadAt.updL (s43 _ _ hS) (LadAt.same s43 la_up), LadAt.updL (s43 _ _ hS) (LadAt.same s43 la_even), LadAt.updL (s43 _ _ hS) (LadAt.same s43 la_plain)⟩
    rintro σ' H0 ⟨a_units_here, a_down, a_up, a_even, a_plain, S, rfl, sB, nS, hS, ua_units_here, la_down, la_up, la_even, la_plain⟩
    refine ⟨fun σ' H' => ∃ (a_units_here : Addr) (a_down : Addr) (a_up : Addr) (a_even : Addr) (a_plain : Addr) (S : Addr), σ' = [some (.str z), some (.ref a_units_here), some (.ref a_down), some (.ref a_up), some (.ref a_even), some (.ref a_plain), some (.ref S), none, none] ∧ Same H H' ∧ H S = none ∧ H' S = some (.lst (List.replicate 18 (V.bl true))) ∧ UA K H' a_units_here (UZ z) ∧ LadAt K L.C H' a_down (UZ z) 1 "down" true 1 ∧ LadAt K L.C H' a_up (UZ z) 1 "up" true 1 ∧ LadAt K L.C H' a_even (UZ z) 1 "even" true 1 ∧ LadAt K L.C H' a_plain (UZ z) 0 "near" false 10, ?_, ?_⟩
    · refine ⟨_, rfl, .inl ⟨rfl, _, SqL.of hS⟩, ?_⟩
      refine ⟨_, rfl, ?_⟩
      refine con_go ?_
      refine nil_go ?_
      refine go_prevf (2, 10) (("10000" : Str) ++ z) la_plain (g_UZ_0_near_10 hz) (by rcases hz with rfl | rfl | rfl | rfl | rfl | rfl <;> kernel_rfl) (by rcases hz with rfl | rfl | rfl | rfl | rfl | rfl <;> kernel_rfl) (by rcases hz with rfl | rfl | rfl | rfl | rfl | rfl <;> kernel_rfl) (by rcases hz with rfl | rfl | rfl | rfl | rfl | rfl <;> kernel_rfl) fun H44 s44 => ?_
      refine ⟨_, rfl, ?_⟩
      refine ⟨_, _, rfl, rfl, fit_z hz (by decide +kernel), ?_⟩
      refine eqT rfl (by rcases hz with rfl | rfl | rfl | rfl | rfl | rfl <;> kernel_rfl) ?_
      refine ⟨S, _, _, rfl, rfl, (s44 _ _ hS), by rw [List.length_replicate]; exact Nat.le_of_ble_eq_true rfl, ?_⟩
      exact ⟨a_units_here, a_down, a_up, a_even, a_plain, S, rfl, Same.updN (sB.trans s44) nS, nS, by rw [upd_same]; rfl, UA.updL (s44 _ _ hS) (UA.same s44 ua_units_here), LadAt.updL (s44 _ _ hS) (LadAt.same s44 la_down), LadAt.updL (s44 _ _ hS) (LadAt.same s44 la_up), LadAt.updL (s44 _ _ hS) (LadAt.same s44 la_even), LadAt.updL (s44 _ _ hS) (LadAt.same s44 la_plain)⟩
    rintro σ' H0 ⟨a_units_here, a_down, a_up, a_even, a_plain, S, rfl, sB, nS, hS, ua_units_here, la_down, la_up, la_even, la_plain⟩
    refine ⟨_, rfl, ?_⟩
    refine ⟨(by show 1 ≤ sizeLine; decide), fun L0 nL0 => ?_⟩
    have sL := same_upd nL0 (o := .lst [V.bl true])
    have hL1 : (upd H0 L0 (.lst [V.bl true])) L0 = some (.lst [V.bl true]) := upd_same
    generalize upd H0 L0 (.lst [V.bl true]) = H1 at sL hL1 ⊢
    refine ⟨_, rfl, S, _, rfl, .inl (SqL.of (sL _ _ hS)), ?_⟩
    show rRep (.ref L0) (.int 18) H1 _
    refine ⟨L0, _, _, rfl, rfl, hL1, by decide, by decide, (by show 1 * 18 ≤ sizeLine; decide), fun P0 nP => ?_⟩
    have sP := same_upd nP (o := .lst (List.replicate (Int.toNat 18) [V.bl true]).flatten)
    have dP : Dp K (upd H1 P0 (.lst (List.replicate (Int.toNat 18) [V.bl true]).flatten)) (.ref P0) (.list [.bool true, .bool true, .bool true, .bool true, .bool true, .bool true, .bool true, .bool true, .bool true, .bool true, .bool true, .bool true, .bool true, .bool true, .bool true, .bool true, .bool true, .bool true]) := .lst (SqL.of upd_same) (.cons (.bl _) (.cons (.bl _) (.cons (.bl _) (.cons (.bl _) (.cons (.bl _) (.cons (.bl _) (.cons (.bl _) (.cons (.bl _) (.cons (.bl _) (.cons (.bl _) (.cons (.bl _) (.cons (.bl _) (.cons (.bl _) (.cons (.bl _) (.cons (.bl _) (.cons (.bl _) (.cons (.bl _) (.cons (.bl _) .nil))))))))))))))))))
    refine eqDT (d := .list [.bool true, .bool true, .bool true, .bool true, .bool true, .bool true, .bool true, .bool true, .bool true, .bool true, .bool true, .bool true, .bool true, .bool true, .bool true, .bool true, .bool true, .bool true]) (.lst (SqL.of ((sL.trans sP) _ _ hS)) (.cons (.bl _) (.cons (.bl _) (.cons (.bl _) (.cons (.bl _) (.cons (.bl _) (.cons (.bl _) (.cons (.bl _) (.cons (.bl _) (.cons (.bl _) (.cons (.bl _) (.cons (.bl _) (.cons (.bl _) (.cons (.bl _) (.cons (.bl _) (.cons (.bl _) (.cons (.bl _) (.cons (.bl _) (.cons (.bl _) .nil))))))))))))))))))) dP rfl rfl (by kernel_rfl) ?_
    exact q _ (sB.trans (sL.trans sP))
theorem ok_second35 (d : Dd K mg "_law_second_right" sSecond35 ["_law_name_here"]) (L : LadC K mg) (LD : LadD K L.f L.fd) (dSh : Dd K mg "show" sShow ["ladder", "number"]) (dWo : Dd K mg "worth" sWorth ["ladder", "text"]) (dRO : Dd K mg "range_of" sRangeOf ["ladder", "text"]) (dIs : Dd K mg "is_shown" sIsShown ["ladder", "text"]) (dPo : Dd K mg "place_of" sPlaceOf ["ladder", "text"]) (dFa : Dd K mg "figure_at" sFigureAt ["ladder", "place"]) (dFs : Dd K mg "forms" sForms ["ladder", "low", "high"]) (dFu : Dd K mg "first_unlike" sFirstU ["ladder", "other"]) (dFd : Dd K mg "first_drift" sFirstD ["ladder"]) (dFt : Dd K mg "first_untold" sFirstT ["ladder", "other"]) (dNo : Dd K mg "numbers_of" sNumsOf ["sights"]) (dTe : Dd K mg "tells" sTells ["ladder", "other"]) (dNe : Dd K mg "needed" sNeeded ["sights"]) (dFg : Dd K mg "figures_in" sFigsIn ["ladder", "text", "other"]) (B0 : Bt mg)
    (GI : FnOk P w K mg base CX0 5 L.f L.fd ["self", "units", "decimals", "rounding", "carry", "least"] (spLInit K L.C)) (GSh : FnOk P w K mg base CX0 6 dSh.f dSh.fd ["ladder", "number"] (spShow K L.C)) (GWo : FnOk P w K mg base CX0 5 dWo.f dWo.fd ["ladder", "text"] (spWorth K L.C)) (GRO : FnOk P w K mg base CX0 5 dRO.f dRO.fd ["ladder", "text"] (spRangeOf K L.C)) (GIs : FnOk P w K mg base CX0 6 dIs.f dIs.fd ["ladder", "text"] (spIsShown K L.C)) (GPo : FnOk P w K mg base CX0 7 dPo.f dPo.fd ["ladder", "text"] (spPlaceOf K L.C)) (GFa : FnOk P w K mg base CX0 6 dFa.f dFa.fd ["ladder", "place"] (spFigureAt K L.C)) (GFs : FnOk P w K mg base CX0 7 dFs.f dFs.fd ["ladder", "low", "high"] (spForms K L.C)) (GFu : FnOk P w K mg base CX0 7 dFu.f dFu.fd ["ladder", "other"] (spFirstU K L.C)) (GFd : FnOk P w K mg base CX0 5 dFd.f dFd.fd ["ladder"] (spFirstD K L.C)) (GFt : FnOk P w K mg base CX0 7 dFt.f dFt.fd ["ladder", "other"] (spFirstT K L.C)) (GNo : FnOk P w K mg base CX0 7 dNo.f dNo.fd ["sights"] (spCommonR K L.C)) (GTe : FnOk P w K mg base CX0 8 dTe.f dTe.fd ["ladder", "other"] (spTells K L.C)) (GNe : FnOk P w K mg base CX0 7 dNe.f dNe.fd ["sights"] (spNeeded K L.C)) (GFg : FnOk P w K mg base CX0 6 dFg.f dFg.fd ["ladder", "text", "other"] (spFigsIn K L.C)) :
    FnOk P w K mg base CX0 9 d.f d.fd ["_law_name_here"] (spName35 K L.C) := by
  obtain ⟨ds, KV, KZ⟩ := kz_linit LD
  obtain ⟨mv, KB⟩ := kb_carry LD
  obtain ⟨mw, KL⟩ := kb_least LD
  refine d.F.ok scSecond35 (fun vs H Q E h => ?_) (fun cdv A0 outer s H vs Q E hr h => ?_)
  · obtain ⟨_, rfl, _⟩ := h
    rfl
  · obtain ⟨z, rfl, hz, q⟩ := h
    have r5 : Room 5 _ := hr.mono (by decide)
    have r6 : Room 6 _ := hr.mono (by decide)
    have r7 : Room 7 _ := hr.mono (by decide)
    have r8 : Room 8 _ := hr.mono (by decide)
    have hrI := r6
    have hu := hr.units
    have nd := scSecond35.nd
    refine ⟨_, (Evl.pss_cut (ps_set (i := 1) nd rfl (.inl rfl) (pe_tup (pa_cons (pe_tup (pa_cons pe_str (pa_cons pe_int pa_nil))) (pa_cons (pe_tup (pa_cons (pv 0) (pa_cons pe_int pa_nil))) (pa_cons (pe_tup (pa_cons pe_str (pa_cons (c_pow (1000000) (pe_int (i := 10)) (pe_int (i := 6)) (by decide) (by decide +kernel)) pa_nil))) pa_nil)))))
  (Evl.pss_cut (ps_par (i := 2) (j := 3) rfl nd rfl rfl (by decide) rfl rfl (pa_cons (pe_make L.M GI hrI (by rfl) L.g KZ KV pass0 (pa_cons (pv 1) (pa_cons pe_int (pa_cons pe_str pa_nil)))) (pa_cons (pe_make L.M GI hrI (by rfl) L.g KZ KV pass0 (pa_cons (pv 1) (pa_cons pe_int (pa_cons pe_str pa_nil)))) pa_nil)) rfl)
  (Evl.pss_cut (ps_set (i := 4) nd rfl (.inl rfl) (pe_make L.M GI hrI (by rfl) L.g KZ KV pass0 (pa_cons (pe_tup (pa_cons (pe_tup (pa_cons pe_str (pa_cons pe_int pa_nil))) (pa_cons (pe_tup (pa_cons pe_str (pa_cons pe_int pa_nil))) (pa_cons (pe_tup (pa_cons pe_str (pa_cons pe_int pa_nil))) pa_nil)))) (pa_cons pe_int (pa_cons pe_str pa_nil)))))
  (Evl.pss_cut (ps_set (i := 5) nd rfl (.inl rfl) (pe_lst (pa_cons (pe_cmpR op_eq (pe_call GSh r6 (by rfl) dSh.g dSh.F.kp dSh.b .nil pass0 (pa_cons (pv 4) (pa_cons pe_int pa_nil))) pe_str (nomark _)) (pa_cons (pe_cmpR op_eq (pe_call GSh r6 (by rfl) dSh.g dSh.F.kp dSh.b .nil pass0 (pa_cons (pv 4) (pa_cons pe_int pa_nil))) pe_str (nomark _)) (pa_cons (pe_cmpR op_eq (pe_call GSh r6 (by rfl) dSh.g dSh.F.kp dSh.b .nil pass0 (pa_cons (pv 4) (pa_cons pe_int pa_nil))) pe_str (nomark _)) (pa_cons (pe_cmpR op_eq (pe_call GSh r6 (by rfl) dSh.g dSh.F.kp dSh.b .nil pass0 (pa_cons (pv 4) (pa_cons pe_int pa_nil))) pe_str (nomark _)) pa_nil))))))
  (Evl.pss_cut (ps_set (i := 5) nd rfl (.inl rfl) (pe_op (r := rCat) op_cat (pv 5) (pe_lst (pa_cons (pe_cmpR op_eq (pe_call GSh r6 (by rfl) dSh.g dSh.F.kp dSh.b .nil pass0 (pa_cons (pv 4) (pa_cons pe_int pa_nil))) pe_str (nomark _)) (pa_cons (pe_cmpR (r := rEqD K) (op_eqD hu) (pe_call GRO r5 (by rfl) dRO.g dRO.F.kp dRO.b .nil pass0 (pa_cons (pv 4) (pa_cons pe_str pa_nil))) (pe_tup (pa_cons pe_int (pa_cons pe_int pa_nil))) (by rfl)) pa_nil)))))
  (Evl.pss_cut (ps_expr (pe_bm PySem.F.plainAttrs_list PySem.F.slot_list_append PySem.F.type_list_append mt_append (pv 5) (pa_cons (pe_cmp (pc_isN (pe_call GFu r7 (by rfl) dFu.g dFu.F.kp dFu.b .nil pass0 (pa_cons (pv 2) (pa_cons (pe_makeK L.M GI hrI (by rfl) L.g KB pass0 (pa_cons (pv 1) (pa_cons pe_int (pa_cons pe_str pa_nil))) (pk_cons pe_bl pk_nil)) pa_nil)))) rfl) pa_nil)))
  (Evl.pss_cut (ps_expr (pe_bm PySem.F.plainAttrs_list PySem.F.slot_list_append PySem.F.type_list_append mt_append (pv 5) (pa_cons (pe_cmpR op_eq (pe_call GFu r7 (by rfl) dFu.g dFu.F.kp dFu.b .nil pass0 (pa_cons (pv 2) (pa_cons (pv 3) pa_nil))) pe_int (nomark _)) pa_nil)))
  (Evl.pss_cut (ps_expr (pe_bm PySem.F.plainAttrs_list PySem.F.slot_list_append PySem.F.type_list_append mt_append (pv 5) (pa_cons (pe_cmpR op_eq (pe_call GFu r7 (by rfl) dFu.g dFu.F.kp dFu.b .nil pass0 (pa_cons (pv 2) (pa_cons (pe_make L.M GI hrI (by rfl) L.g KZ KV pass0 (pa_cons (pv 1) (pa_cons pe_int (pa_cons pe_str pa_nil)))) pa_nil))) pe_int (nomark _)) pa_nil)))
  (Evl.pss_cut (ps_expr (pe_bm PySem.F.plainAttrs_list PySem.F.slot_list_append PySem.F.type_list_append mt_append (pv 5) (pa_cons (pe_cmpR op_eq (pe_call GFd r5 (by rfl) dFd.g dFd.F.kp dFd.b .nil pass0 (pa_cons (pe_makeK L.M GI hrI (by rfl) L.g KB pass0 (pa_cons (pv 1) (pa_cons pe_int (pa_cons pe_str pa_nil))) (pk_cons pe_bl pk_nil)) pa_nil)) pe_int (nomark _)) pa_nil)))
  (Evl.pss_cut (ps_expr (pe_bm PySem.F.plainAttrs_list PySem.F.slot_list_append PySem.F.type_list_append mt_append (pv 5) (pa_cons (pe_cmp (pc_isN (pe_call GFd r5 (by rfl) dFd.g dFd.F.kp dFd.b .nil pass0 (pa_cons (pe_makeK L.M GI hrI (by rfl) L.g KB pass0 (pa_cons (pe_tup (pa_cons (pe_tup (pa_cons pe_str (pa_cons pe_int pa_nil))) (pa_cons (pe_tup (pa_cons pe_str (pa_cons pe_int pa_nil))) (pa_cons (pe_tup (pa_cons pe_str (pa_cons pe_int pa_nil))) pa_nil)))) (pa_cons pe_int (pa_cons pe_str pa_nil))) (pk_cons pe_bl pk_nil)) pa_nil))) rfl) pa_nil)))
  (Evl.pss_cut (ps_expr (pe_bm PySem.F.plainAttrs_list PySem.F.slot_list_append PySem.F.type_list_append mt_append (pv 5) (pa_cons (pe_cmpR op_eq (pe_call GFd r5 (by rfl) dFd.g dFd.F.kp dFd.b .nil pass0 (pa_cons (pe_makeK L.M GI hrI (by rfl) L.g KB pass0 (pa_cons (pe_tup (pa_cons (pe_tup (pa_cons pe_str (pa_cons pe_int pa_nil))) (pa_cons (pe_tup (pa_cons pe_str (pa_cons pe_int pa_nil))) (pa_cons (pe_tup (pa_cons pe_str (pa_cons pe_int pa_nil))) pa_nil)))) (pa_cons pe_int (pa_cons pe_str pa_nil))) (pk_cons pe_bl pk_nil)) pa_nil)) pe_int (nomark _)) pa_nil)))
  (Evl.pss_cut (ps_expr (pe_bm PySem.F.plainAttrs_list PySem.F.slot_list_append PySem.F.type_list_append mt_append (pv 5) (pa_cons (pe_and (pe_cmpR (r := rEqD K) (op_eqD hu) (pe_call GFt r7 (by rfl) dFt.g dFt.F.kp dFt.b .nil pass0 (pa_cons (pv 2) (pa_cons (pv 3) pa_nil))) (pe_tup (pa_cons pe_int (pa_cons pe_int pa_nil))) (by rfl)) (pe_one (pe_cmpR (r := rEqD K) (op_eqD hu) (pe_call GFt r7 (by rfl) dFt.g dFt.F.kp dFt.b .nil pass0 (pa_cons (pv 3) (pa_cons (pv 2) pa_nil))) (pe_tup (pa_cons pe_int (pa_cons pe_int pa_nil))) (by rfl)))) pa_nil)))
  (Evl.pss_cut (ps_set (i := 6) nd rfl (.inl rfl) (pe_make L.M GI hrI (by rfl) L.g KZ KV pass0 (pa_cons (pe_tup (pa_cons (pe_tup (pa_cons pe_str (pa_cons pe_int pa_nil))) pa_nil)) (pa_cons pe_int (pa_cons pe_str pa_nil)))))
  (Evl.pss_cut (ps_expr (pe_bm PySem.F.plainAttrs_list PySem.F.slot_list_append PySem.F.type_list_append mt_append (pv 5) (pa_cons (pe_and (pe_call GTe r8 (by rfl) dTe.g dTe.F.kp dTe.b .nil pass0 (pa_cons (pv 6) (pa_cons (pv 3) pa_nil))) (pe_one (pe_cmpR (r := rEqD K) (op_eqD hu) (pe_call GFt r7 (by rfl) dFt.g dFt.F.kp dFt.b .nil pass0 (pa_cons (pv 3) (pa_cons (pv 6) pa_nil))) (pe_tup (pa_cons pe_int (pa_cons pe_int pa_nil))) (by rfl)))) pa_nil)))
  (Evl.pss_cut (ps_expr (pe_bm PySem.F.plainAttrs_list PySem.F.slot_list_append PySem.F.type_list_append mt_append (pv 5) (pa_cons (pe_cmpR (r := rEqD K) (op_eqD hu) (pe_call GNo r7 (by rfl) dNo.g dNo.F.kp dNo.b .nil pass0 (pa_cons (pe_tup (pa_cons (pe_tup (pa_cons (pv 2) (pa_cons (pe_op op_add_str pe_str (pv 0)) pa_nil))) (pa_cons (pe_tup (pa_cons (pv 3) (pa_cons (pe_op op_add_str pe_str (pv 0)) pa_nil))) pa_nil))) pa_nil)) (pe_tup (pa_cons pe_int (pa_cons pe_int pa_nil))) (by rfl)) pa_nil)))
  (Evl.pss_cut (ps_expr (pe_bm PySem.F.plainAttrs_list PySem.F.slot_list_append PySem.F.type_list_append mt_append (pv 5) (pa_cons (pe_cmpR (r := rEqD K) (op_eqD hu) (pe_call GNe r7 (by rfl) dNe.g dNe.F.kp dNe.b .nil pass0 (pa_cons (pe_tup (pa_cons (pe_tup (pa_cons (pv 2) (pa_cons pe_str pa_nil))) (pa_cons (pe_tup (pa_cons (pv 3) (pa_cons pe_str pa_nil))) pa_nil))) pa_nil)) (pe_tup pa_nil) (by rfl)) pa_nil)))
  (Evl.pss_cut (ps_expr (pe_bm PySem.F.plainAttrs_list PySem.F.slot_list_append PySem.F.type_list_append mt_append (pv 5) (pa_cons (pe_cmpR (r := rEqD K) (op_eqD hu) (pe_call GFg r6 (by rfl) dFg.g dFg.F.kp dFg.b .nil pass0 (pa_cons (pv 2) (pa_cons pe_str (pa_cons (pv 4) pa_nil)))) (pe_tup (pa_cons pe_str (pa_cons pe_str pa_nil))) (by rfl)) pa_nil)))
  (Evl.pss_cut (ps_expr (pe_bm PySem.F.plainAttrs_list PySem.F.slot_list_append PySem.F.type_list_append mt_append (pv 5) (pa_cons (pe_and (pe_cmpR op_eq (pe_call GFs r7 (by rfl) dFs.g dFs.F.kp dFs.b .nil pass0 (pa_cons (pv 4) (pa_cons pe_int (pa_cons pe_int pa_nil)))) pe_int (nomark _)) (pe_and (pe_cmpR op_eq (pe_call GFa r6 (by rfl) dFa.g dFa.F.kp dFa.b .nil pass0 (pa_cons (pv 4) (pa_cons pe_int pa_nil))) pe_str (nomark _)) (pe_one (pe_cmpR op_eq (pe_call GPo r7 (by rfl) dPo.g dPo.F.kp dPo.b .nil pass0 (pa_cons (pv 4) (pa_cons pe_str pa_nil))) pe_int (nomark _))))) pa_nil)))
  (Evl.pss_cut (ps_expr (pe_bm PySem.F.plainAttrs_list PySem.F.slot_list_append PySem.F.type_list_append mt_append (pv 5) (pa_cons (pe_and (pe_cmpR op_eq (pe_call GWo r5 (by rfl) dWo.g dWo.F.kp dWo.b .nil pass0 (pa_cons (pv 3) (pa_cons pe_str pa_nil))) pe_int (nomark _)) (pe_one (pe_cmpR op_is_bl (pe_call GIs r6 (by rfl) dIs.g dIs.F.kp dIs.b .nil pass0 (pa_cons (pv 3) (pa_cons pe_str pa_nil))) pe_bl (nomark _)))) pa_nil)))
  (pss_one (ps_ret (pe_cmpR (r := rEqD K) (op_eqD hu) (pv 5) (pe_op op_rep (pe_lst (pa_cons pe_bl pa_nil)) (pe_callB call_len_seq (by rfl) B0.len PySem.boot_len (pa_cons (pv 5) pa_nil))) (by rfl))))))))))))))))))))))), ?_⟩
    refine ⟨fun σ' H' => ∃ (a_units_here : Addr), σ' = [some (.str z), some (.ref a_units_here), none, none, none, none, none] ∧ Same H H' ∧ UA K H' a_units_here (UZ z), ?_, ?_⟩
    · refine ⟨(by show 2 ≤ sizeLine; decide), fun t1 n1 => ?_⟩
      have s1 := same_upd n1 (o := .tup ([V.str "", V.int (1)] : List V))
      have q1 : SqT K (upd H t1 (.tup ([V.str "", V.int (1)] : List V))) t1 [V.str "", V.int (1)] := SqT.of upd_same
      have d1 : Dp K (upd H t1 (.tup ([V.str "", V.int (1)] : List V))) (.ref t1) (.tuple [.str "", .int ((1))]) := .tup (SqT.of upd_same) (.cons (.str _) (.cons (.int _) .nil))
      generalize upd H t1 (.tup ([V.str "", V.int (1)] : List V)) = H1 at s1 q1 d1 ⊢
      refine ⟨_, rfl, ?_⟩
      refine ⟨(by show 2 ≤ sizeLine; decide), fun t2 n2 => ?_⟩
      have s2 := same_upd n2 (o := .tup ([V.str z, V.int (1000)] : List V))
      have q2 : SqT K (upd H1 t2 (.tup ([V.str z, V.int (1000)] : List V))) t2 [V.str z, V.int (1000)] := SqT.of upd_same
      have d2 : Dp K (upd H1 t2 (.tup ([V.str z, V.int (1000)] : List V))) (.ref t2) (.tuple [.str z, .int ((1000))]) := .tup (SqT.of upd_same) (.cons (.str _) (.cons (.int _) .nil))
      generalize upd H1 t2 (.tup ([V.str z, V.int (1000)] : List V)) = H2 at s2 q2 d2 ⊢
      refine ⟨(by show 2 ≤ sizeLine; decide), fun t3 n3 => ?_⟩
      have s3 := same_upd n3 (o := .tup ([V.str "Zz", V.int (1000000)] : List V))
      have q3 : SqT K (upd H2 t3 (.tup ([V.str "Zz", V.int (1000000)] : List V))) t3 [V.str "Zz", V.int (1000000)] := SqT.of upd_same
      have d3 : Dp K (upd H2 t3 (.tup ([V.str "Zz", V.int (1000000)] : List V))) (.ref t3) (.tuple [.str "Zz", .int ((1000000))]) := .tup (SqT.of upd_same) (.cons (.str _) (.cons (.int _) .nil))
      generalize upd H2 t3 (.tup ([V.str "Zz", V.int (1000000)] : List V)) = H3 at s3 q3 d3 ⊢
      refine ⟨(by show 3 ≤ sizeLine; decide), fun t4 n4 => ?_⟩
      have s4 := same_upd n4 (o := .tup ([V.ref t1, V.ref t2, V.ref t3] : List V))
      have q4 : SqT K (upd H3 t4 (.tup ([V.ref t1, V.ref t2, V.ref t3] : List V))) t4 [V.ref t1, V.ref t2, V.ref t3] := SqT.of upd_same
      have u4 : UA K (upd H3 t4 (.tup ([V.ref t1, V.ref t2, V.ref t3] : List V))) t4 (UZ z) := ⟨[t1, t2, t3], SqT.of upd_same, (.cons (same_sqt s4 (same_sqt (s2.trans s3) q1)) (.cons (same_sqt s4 (same_sqt s3 q2)) (.cons (same_sqt s4 q3) .nil)))⟩
      generalize upd H3 t4 (.tup ([V.ref t1, V.ref t2, V.ref t3] : List V)) = H4 at s4 q4 u4 ⊢
      exact ⟨t4, rfl, (((s1.trans s2).trans s3).trans s4), u4⟩
    rintro σ' H0 ⟨a_units_here, rfl, sB, ua_units_here⟩
    refine ⟨fun σ' H' => ∃ (a_units_here : Addr) (a_down : Addr) (a_near_here : Addr), σ' = [some (.str z), some (.ref a_units_here), some (.ref a_down), some (.ref a_near_here), none, none, none] ∧ Same H H' ∧ UA K H' a_units_here (UZ z) ∧ LadAt K L.C H' a_down (UZ z) 1 "down" true 1 ∧ LadAt K L.C H' a_near_here (UZ z) 1 "near" true 1, ?_, ?_⟩
    · refine ⟨_, rfl, ?_⟩
      refine made_of (us := (UZ z)) (fun _ => rfl) ua_units_here (g_UZ_1_down_1 hz) fun p5 H5 s5 l5 => ?_
      refine ⟨_, rfl, ?_⟩
      refine made_of (us := (UZ z)) (fun _ => rfl) (UA.same s5 ua_units_here) (g_UZ_1_near_1 hz) fun p6 H6 s6 l6 => ?_
      exact ⟨_, _, rfl, a_units_here, p5, p6, rfl, (sB.trans (s5.trans s6)), (UA.same (s5.trans s6) ua_units_here), (LadAt.same s6 l5), l6⟩
    rintro σ' H0 ⟨a_units_here, a_down, a_near_here, rfl, sB, ua_units_here, la_down, la_near_here⟩
    refine ⟨fun σ' H' => ∃ (a_units_here : Addr) (a_down : Addr) (a_near_here : Addr) (a_sixty : Addr), σ' = [some (.str z), some (.ref a_units_here), some (.ref a_down), some (.ref a_near_here), some (.ref a_sixty), none, none] ∧ Same H H' ∧ UA K H' a_units_here (UZ z) ∧ LadAt K L.C H' a_down (UZ z) 1 "down" true 1 ∧ LadAt K L.C H' a_near_here (UZ z) 1 "near" true 1 ∧ LadAt K L.C H' a_sixty V60 0 "near" true 1, ?_, ?_⟩
    · refine ⟨(by show 2 ≤ sizeLine; decide), fun t7 n7 => ?_⟩
      have s7 := same_upd n7 (o := .tup ([V.str "s", V.int (1)] : List V))
      have q7 : SqT K (upd H0 t7 (.tup ([V.str "s", V.int (1)] : List V))) t7 [V.str "s", V.int (1)] := SqT.of upd_same
      have d7 : Dp K (upd H0 t7 (.tup ([V.str "s", V.int (1)] : List V))) (.ref t7) (.tuple [.str "s", .int ((1))]) := .tup (SqT.of upd_same) (.cons (.str _) (.cons (.int _) .nil))
      generalize upd H0 t7 (.tup ([V.str "s", V.int (1)] : List V)) = H7 at s7 q7 d7 ⊢
      refine ⟨(by show 2 ≤ sizeLine; decide), fun t8 n8 => ?_⟩
      have s8 := same_upd n8 (o := .tup ([V.str "m", V.int (60)] : List V))
      have q8 : SqT K (upd H7 t8 (.tup ([V.str "m", V.int (60)] : List V))) t8 [V.str "m", V.int (60)] := SqT.of upd_same
      have d8 : Dp K (upd H7 t8 (.tup ([V.str "m", V.int (60)] : List V))) (.ref t8) (.tuple [.str "m", .int ((60))]) := .tup (SqT.of upd_same) (.cons (.str _) (.cons (.int _) .nil))
      generalize upd H7 t8 (.tup ([V.str "m", V.int (60)] : List V)) = H8 at s8 q8 d8 ⊢
      refine ⟨(by show 2 ≤ sizeLine; decide), fun t9 n9 => ?_⟩
      have s9 := same_upd n9 (o := .tup ([V.str "h", V.int (3600)] : List V))
      have q9 : SqT K (upd H8 t9 (.tup ([V.str "h", V.int (3600)] : List V))) t9 [V.str "h", V.int (3600)] := SqT.of upd_same
      have d9 : Dp K (upd H8 t9 (.tup ([V.str "h", V.int (3600)] : List V))) (.ref t9) (.tuple [.str "h", .int ((3600))]) := .tup (SqT.of upd_same) (.cons (.str _) (.cons (.int _) .nil))
      generalize upd H8 t9 (.tup ([V.str "h", V.int (3600)] : List V)) = H9 at s9 q9 d9 ⊢
      refine ⟨(by show 3 ≤ sizeLine; decide), fun t10 n10 => ?_⟩
      have s10 := same_upd n10 (o := .tup ([V.ref t7, V.ref t8, V.ref t9] : List V))
      have q10 : SqT K (upd H9 t10 (.tup ([V.ref t7, V.ref t8, V.ref t9] : List V))) t10 [V.ref t7, V.ref t8, V.ref t9] := SqT.of upd_same
      have u10 : UA K (upd H9 t10 (.tup ([V.ref t7, V.ref t8, V.ref t9] : List V))) t10 V60 := ⟨[t7, t8, t9], SqT.of upd_same, (.cons (same_sqt s10 (same_sqt (s8.trans s9) q7)) (.cons (same_sqt s10 (same_sqt s9 q8)) (.cons (same_sqt s10 q9) .nil)))⟩
      generalize upd H9 t10 (.tup ([V.ref t7, V.ref t8, V.ref t9] : List V)) = H10 at s10 q10 u10 ⊢
      refine made_of (us := V60) (fun _ => rfl) u10 g_V60_0_near_1 fun p11 H11 s11 l11 => ?_
      exact ⟨a_units_here, a_down, a_near_here, p11, rfl, (sB.trans ((((s7.trans s8).trans s9).trans s10).trans s11)), (UA.same ((((s7.trans s8).trans s9).trans s10).trans s11) ua_units_here), (LadAt.same ((((s7.trans s8).trans s9).trans s10).trans s11) la_down), (LadAt.same ((((s7.trans s8).trans s9).trans s10).trans s11) la_near_here), l11⟩
    rintro σ' H0 ⟨a_units_here, a_down, a_near_here, a_sixty, rfl, sB, ua_units_here, la_down, la_near_here, la_sixty⟩
    refine ⟨fun σ' H' => ∃ (a_units_here : Addr) (a_down : Addr) (a_near_here : Addr) (a_sixty : Addr) (S : Addr), σ' = [some (.str z), some (.ref a_units_here), some (.ref a_down), some (.ref a_near_here), some (.ref a_sixty), some (.ref S), none] ∧ Same H H' ∧ H S = none ∧ H' S = some (.lst (List.replicate 4 (V.bl true))) ∧ UA K H' a_units_here (UZ z) ∧ LadAt K L.C H' a_down (UZ z) 1 "down" true 1 ∧ LadAt K L.C H' a_near_here (UZ z) 1 "near" true 1 ∧ LadAt K L.C H' a_sixty V60 0 "near" true 1, ?_, ?_⟩
    · refine ⟨_, rfl, ?_⟩
      refine con_go ?_
      refine nil_go ?_
      refine go_show _ "59s" la_sixty g_V60_0_near_1 (by rcases hz with rfl | rfl | rfl | rfl | rfl | rfl <;> kernel_rfl) (by rcases hz with rfl | rfl | rfl | rfl | rfl | rfl <;> kernel_rfl) fun H12 s12 => ?_
      refine tC_go ?_
      refine eqT rfl (by rcases hz with rfl | rfl | rfl | rfl | rfl | rfl <;> kernel_rfl) ?_
      refine ⟨_, rfl, ?_⟩
      refine con_go ?_
      refine nil_go ?_
      refine go_show _ "1m" (LadAt.same s12 la_sixty) g_V60_0_near_1 (by rcases hz with rfl | rfl | rfl | rfl | rfl | rfl <;> kernel_rfl) (by rcases hz with rfl | rfl | rfl | rfl | rfl | rfl <;> kernel_rfl) fun H13 s13 => ?_
      refine tC_go ?_
      refine eqT rfl (by rcases hz with rfl | rfl | rfl | rfl | rfl | rfl <;> kernel_rfl) ?_
      refine ⟨_, rfl, ?_⟩
      refine con_go ?_
      refine nil_go ?_
      refine go_show _ "2m" (LadAt.same (s12.trans s13) la_sixty) g_V60_0_near_1 (by rcases hz with rfl | rfl | rfl | rfl | rfl | rfl <;> kernel_rfl) (by rcases hz with rfl | rfl | rfl | rfl | rfl | rfl <;> kernel_rfl) fun H14 s14 => ?_
      refine tC_go ?_
      refine eqT rfl (by rcases hz with rfl | rfl | rfl | rfl | rfl | rfl <;> kernel_rfl) ?_
      refine ⟨_, rfl, ?_⟩
      refine con_go ?_
      refine nil_go ?_
      refine go_show _ "59m" (LadAt.same ((s12.trans s13).trans s14) la_sixty) g_V60_0_near_1 (by rcases hz with rfl | rfl | rfl | rfl | rfl | rfl <;> kernel_rfl) (by rcases hz with rfl | rfl | rfl | rfl | rfl | rfl <;> kernel_rfl) fun H15 s15 => ?_
      refine tC_go ?_
      refine eqT rfl (by rcases hz with rfl | rfl | rfl | rfl | rfl | rfl <;> kernel_rfl) ?_
      refine ⟨(by show 4 ≤ sizeLine; decide), fun S nS0 => ?_⟩
      have s16 := same_upd nS0 (o := .lst (List.replicate 4 (V.bl true)))
      have nS : H S = none := none_of (sB.trans (((s12.trans s13).trans s14).trans s15)) nS0
      exact ⟨a_units_here, a_down, a_near_here, a_sixty, S, rfl, sB.trans ((((s12.trans s13).trans s14).trans s15).trans s16), nS, upd_same, (UA.same ((((s12.trans s13).trans s14).trans s15).trans s16) ua_units_here), (LadAt.same ((((s12.trans s13).trans s14).trans s15).trans s16) la_down), (LadAt.same ((((s12.trans s13).trans s14).trans s15).trans s16) la_near_here), (LadAt.same ((((s12.trans s13).trans s14).trans s15).trans s16) la_sixty)⟩
    rintro σ' H0 ⟨a_units_here, a_down, a_near_here, a_sixty, S, rfl, sB, nS, hS, ua_units_here, la_down, la_near_here, la_sixty⟩
    refine ⟨fun σ' H' => ∃ (a_units_here : Addr) (a_down : Addr) (a_near_here : Addr) (a_sixty : Addr) (S : Addr), σ' = [some (.str z), some (.ref a_units_here), some (.ref a_down), some (.ref a_near_here), some (.ref a_sixty), some (.ref S), none] ∧ Same H H' ∧ H S = none ∧ H' S = some (.lst (List.replicate 6 (V.bl true))) ∧ UA K H' a_units_here (UZ z) ∧ LadAt K L.C H' a_down (UZ z) 1 "down" true 1 ∧ LadAt K L.C H' a_near_here (UZ z) 1 "near" true 1 ∧ LadAt K L.C H' a_sixty V60 0 "near" true 1, ?_, ?_⟩
    · refine ⟨_, rfl, ?_⟩
      refine ⟨_, rfl, ?_⟩
      refine con_go ?_
      refine nil_go ?_
      refine go_show _ "1h" la_sixty g_V60_0_near_1 (by rcases hz with rfl | rfl | rfl | rfl | rfl | rfl <;> kernel_rfl) (by rcases hz with rfl | rfl | rfl | rfl | rfl | rfl <;> kernel_rfl) fun H17 s17 => ?_
      refine tC_go ?_
      refine eqT rfl (by rcases hz with rfl | rfl | rfl | rfl | rfl | rfl <;> kernel_rfl) ?_
      refine ⟨_, rfl, ?_⟩
      refine con_go ?_
      refine nil_go ?_
      refine go_range (2, 1) (3570) (5399) (LadAt.same s17 la_sixty) g_V60_0_near_1 (by rcases hz with rfl | rfl | rfl | rfl | rfl | rfl <;> kernel_rfl) (by rcases hz with rfl | rfl | rfl | rfl | rfl | rfl <;> kernel_rfl) (by rcases hz with rfl | rfl | rfl | rfl | rfl | rfl <;> kernel_rfl) (by rcases hz with rfl | rfl | rfl | rfl | rfl | rfl <;> kernel_rfl) (by rcases hz with rfl | rfl | rfl | rfl | rfl | rfl <;> kernel_rfl) fun r18 H18 s18 d18 => ?_
      refine ⟨(by show 2 ≤ sizeLine; decide), fun t19 n19 => ?_⟩
      have s19 := same_upd n19 (o := .tup ([V.int (3570), V.int (5399)] : List V))
      have q19 : SqT K (upd H18 t19 (.tup ([V.int (3570), V.int (5399)] : List V))) t19 [V.int (3570), V.int (5399)] := SqT.of upd_same
      have d19 : Dp K (upd H18 t19 (.tup ([V.int (3570), V.int (5399)] : List V))) (.ref t19) (.tuple [.int ((3570)), .int ((5399))]) := .tup (SqT.of upd_same) (.cons (.int _) (.cons (.int _) .nil))
      generalize upd H18 t19 (.tup ([V.int (3570), V.int (5399)] : List V)) = H19 at s19 q19 d19 ⊢
      refine eqDT (dp_same s19 _ _ d18) d19 (by rcases hz with rfl | rfl | rfl | rfl | rfl | rfl <;> kernel_rfl) (by rcases hz with rfl | rfl | rfl | rfl | rfl | rfl <;> kernel_rfl) (by rcases hz with rfl | rfl | rfl | rfl | rfl | rfl <;> kernel_rfl) ?_
      refine ⟨(by show 2 ≤ sizeLine; decide), fun t20 n20 => ?_⟩
      have hn20 : (upd H19 t20 (.lst (List.replicate 2 (V.bl true)))) t20 = some (.lst (List.replicate 2 (V.bl true))) := upd_same
      have s20 := same_upd n20 (o := .lst (List.replicate 2 (V.bl true)))
      refine ⟨S, t20, _, _, rfl, rfl, (((s17.trans s18).trans s19).trans s20) _ _ hS, hn20, by rw [List.length_replicate]; exact Nat.le_of_ble_eq_true rfl, fun S2 nS2 => ?_⟩
      have nS3 : H S2 = none := none_of (sB.trans (((s17.trans s18).trans s19).trans s20)) nS2
      have s21 := same_upd nS2 (o := .lst (List.replicate 6 (V.bl true)))
      exact ⟨a_units_here, a_down, a_near_here, a_sixty, S2, rfl, sB.trans ((((s17.trans s18).trans s19).trans s20).trans s21), nS3, by rw [upd_same]; rfl, (UA.same ((((s17.trans s18).trans s19).trans s20).trans s21) ua_units_here), (LadAt.same ((((s17.trans s18).trans s19).trans s20).trans s21) la_down), (LadAt.same ((((s17.trans s18).trans s19).trans s20).trans s21) la_near_here), (LadAt.same ((((s17.trans s18).trans s19).trans s20).trans s21) la_sixty)⟩
    rintro σ' H0 ⟨a_units_here, a_down, a_near_here, a_sixty, S, rfl, sB, nS, hS, ua_units_here, la_down, la_near_here, la_sixty⟩
    refine ⟨fun σ' H' => ∃ (a_units_here : Addr) (a_down : Addr) (a_near_here : Addr) (a_sixty : Addr) (S : Addr), σ' = [some (.str z), some (.ref a_units_here), some (.ref a_down), some (.ref a_near_here), some (.ref a_sixty), some (.ref S), none] ∧ Same H H' ∧ H S = none ∧ H' S = some (.lst (List.replicate 7 (V.bl true))) ∧ UA K H' a_units_here (UZ z) ∧ LadAt K L.C H' a_down (UZ z) 1 "down" true 1 ∧ LadAt K L.C H' a_near_here (UZ z) 1 "near" true 1 ∧ LadAt K L.C H' a_sixty V60 0 "near" true 1, ?_, ?_⟩
    · refine ⟨_, rfl, .inl ⟨rfl, _, SqL.of hS⟩, ?_⟩
      refine ⟨_, rfl, ?_⟩
      refine ⟨_, rfl, ?_⟩
      refine ⟨rfl, rfl, made_of (us := (UZ z)) (fun _ => rfl) ua_units_here (g_UZ_1_down_1 hz) fun p22 H22 s22 l22 => ?_⟩
      refine nil_go ?_
      refine go_firstuN (A := (⟨(UZ z), 1, "down", true, 1⟩ : Lad)) (B := (⟨(UZ z), 1, "down", false, 1⟩ : Lad)) (LadAt.same s22 la_down) l22 (g_UZ_1_down_1 hz) (g_UZ_1_down_1 hz) (by rcases hz with rfl | rfl | rfl | rfl | rfl | rfl <;> kernel_rfl) fun H23 s23 => ?_
      refine ⟨S, _, _, rfl, rfl, ((s22.trans s23) _ _ hS), by rw [List.length_replicate]; exact Nat.le_of_ble_eq_true rfl, ?_⟩
      exact ⟨a_units_here, a_down, a_near_here, a_sixty, S, rfl, Same.updN (sB.trans (s22.trans s23)) nS, nS, by rw [upd_same]; rfl, UA.updL ((s22.trans s23) _ _ hS) (UA.same (s22.trans s23) ua_units_here), LadAt.updL ((s22.trans s23) _ _ hS) (LadAt.same (s22.trans s23) la_down), LadAt.updL ((s22.trans s23) _ _ hS) (LadAt.same (s22.trans s23) la_near_here), LadAt.updL ((s22.trans s23) _ _ hS) (LadAt.same (s22.trans s23) la_sixty)⟩
    rintro σ' H0 ⟨a_units_here, a_down, a_near_here, a_sixty, S, rfl, sB, nS, hS, ua_units_here, la_down, la_near_here, la_sixty⟩
    refine ⟨fun σ' H' => ∃ (a_units_here : Addr) (a_down : Addr) (a_near_here : Addr) (a_sixty : Addr) (S : Addr), σ' = [some (.str z), some (.ref a_units_here), some (.ref a_down), some (.ref a_near_here), some (.ref a_sixty), some (.ref S), none] ∧ Same H H' ∧ H S = none ∧ H' S = some (.lst (List.replicate 8 (V.bl true))) ∧ UA K H' a_units_here (UZ z) ∧ LadAt K L.C H' a_down (UZ z) 1 "down" true 1 ∧ LadAt K L.C H' a_near_here (UZ z) 1 "near" true 1 ∧ LadAt K L.C H' a_sixty V60 0 "near" true 1, ?_, ?_⟩
    · refine ⟨_, rfl, .inl ⟨rfl, _, SqL.of hS⟩, ?_⟩
      refine ⟨_, rfl, ?_⟩
      refine ⟨_, rfl, ?_⟩
      refine nil_go ?_
      refine go_firstu (A := (⟨(UZ z), 1, "down", true, 1⟩ : Lad)) (B := (⟨(UZ z), 1, "near", true, 1⟩ : Lad)) (1050) la_down la_near_here (g_UZ_1_down_1 hz) (g_UZ_1_near_1 hz) (by rcases hz with rfl | rfl | rfl | rfl | rfl | rfl <;> kernel_rfl) (by rcases hz with rfl | rfl | rfl | rfl | rfl | rfl <;> kernel_rfl) (by rcases hz with rfl | rfl | rfl | rfl | rfl | rfl <;> kernel_rfl) fun H24 s24 => ?_
      refine tC_go ?_
      refine eqT rfl (by rcases hz with rfl | rfl | rfl | rfl | rfl | rfl <;> kernel_rfl) ?_
      refine ⟨S, _, _, rfl, rfl, (s24 _ _ hS), by rw [List.length_replicate]; exact Nat.le_of_ble_eq_true rfl, ?_⟩
      exact ⟨a_units_here, a_down, a_near_here, a_sixty, S, rfl, Same.updN (sB.trans s24) nS, nS, by rw [upd_same]; rfl, UA.updL (s24 _ _ hS) (UA.same s24 ua_units_here), LadAt.updL (s24 _ _ hS) (LadAt.same s24 la_down), LadAt.updL (s24 _ _ hS) (LadAt.same s24 la_near_here), LadAt.updL (s24 _ _ hS) (LadAt.same s24 la_sixty)⟩
    rintro σ' H0 ⟨a_units_here, a_down, a_near_here, a_sixty, S, rfl, sB, nS, hS, ua_units_here, la_down, la_near_here, la_sixty⟩
    refine ⟨fun σ' H' => ∃ (a_units_here : Addr) (a_down : Addr) (a_near_here : Addr) (a_sixty : Addr) (S : Addr), σ' = [some (.str z), some (.ref a_units_here), some (.ref a_down), some (.ref a_near_here), some (.ref a_sixty), some (.ref S), none] ∧ Same H H' ∧ H S = none ∧ H' S = some (.lst (List.replicate 9 (V.bl true))) ∧ UA K H' a_units_here (UZ z) ∧ LadAt K L.C H' a_down (UZ z) 1 "down" true 1 ∧ LadAt K L.C H' a_near_here (UZ z) 1 "near" true 1 ∧ LadAt K L.C H' a_sixty V60 0 "near" true 1, ?_, ?_⟩
    · refine ⟨_, rfl, .inl ⟨rfl, _, SqL.of hS⟩, ?_⟩
      refine ⟨_, rfl, ?_⟩
      refine ⟨_, rfl, ?_⟩
      refine made_of (us := (UZ z)) (fun _ => rfl) ua_units_here (g_UZ_2_down_1 hz) fun p25 H25 s25 l25 => ?_
      refine nil_go ?_
      refine go_firstu (A := (⟨(UZ z), 1, "down", true, 1⟩ : Lad)) (B := (⟨(UZ z), 2, "down", true, 1⟩ : Lad)) (1000) (LadAt.same s25 la_down) l25 (g_UZ_1_down_1 hz) (g_UZ_2_down_1 hz) (by rcases hz with rfl | rfl | rfl | rfl | rfl | rfl <;> kernel_rfl) (by rcases hz with rfl | rfl | rfl | rfl | rfl | rfl <;> kernel_rfl) (by rcases hz with rfl | rfl | rfl | rfl | rfl | rfl <;> kernel_rfl) fun H26 s26 => ?_
      refine tC_go ?_
      refine eqT rfl (by rcases hz with rfl | rfl | rfl | rfl | rfl | rfl <;> kernel_rfl) ?_
      refine ⟨S, _, _, rfl, rfl, ((s25.trans s26) _ _ hS), by rw [List.length_replicate]; exact Nat.le_of_ble_eq_true rfl, ?_⟩
      exact ⟨a_units_here, a_down, a_near_here, a_sixty, S, rfl, Same.updN (sB.trans (s25.trans s26)) nS, nS, by rw [upd_same]; rfl, UA.updL ((s25.trans s26) _ _ hS) (UA.same (s25.trans s26) ua_units_here), LadAt.updL ((s25.trans s26) _ _ hS) (LadAt.same (s25.trans s26) la_down), LadAt.updL ((s25.trans s26) _ _ hS) (LadAt.same (s25.trans s26) la_near_here), LadAt.updL ((s25.trans s26) _ _ hS) (LadAt.same (s25.trans s26) la_sixty)⟩
    rintro σ' H0 ⟨a_units_here, a_down, a_near_here, a_sixty, S, rfl, sB, nS, hS, ua_units_here, la_down, la_near_here, la_sixty⟩
    refine ⟨fun σ' H' => ∃ (a_units_here : Addr) (a_down : Addr) (a_near_here : Addr) (a_sixty : Addr) (S : Addr), σ' = [some (.str z), some (.ref a_units_here), some (.ref a_down), some (.ref a_near_here), some (.ref a_sixty), some (.ref S), none] ∧ Same H H' ∧ H S = none ∧ H' S = some (.lst (List.replicate 10 (V.bl true))) ∧ UA K H' a_units_here (UZ z) ∧ LadAt K L.C H' a_down (UZ z) 1 "down" true 1 ∧ LadAt K L.C H' a_near_here (UZ z) 1 "near" true 1 ∧ LadAt K L.C H' a_sixty V60 0 "near" true 1, ?_, ?_⟩
    · refine ⟨_, rfl, .inl ⟨rfl, _, SqL.of hS⟩, ?_⟩
      refine ⟨_, rfl, ?_⟩
      refine ⟨rfl, rfl, made_of (us := (UZ z)) (fun _ => rfl) ua_units_here (g_UZ_0_near_1 hz) fun p27 H27 s27 l27 => ?_⟩
      refine nil_go ?_
      refine go_firstd 1 (999500) l27 (g_UZ_0_near_1 hz) (by rcases hz with rfl | rfl | rfl | rfl | rfl | rfl <;> kernel_rfl) (by rcases hz with rfl | rfl | rfl | rfl | rfl | rfl <;> kernel_rfl) (by rcases hz with rfl | rfl | rfl | rfl | rfl | rfl <;> kernel_rfl) fun H28 s28 => ?_
      refine tC_go ?_
      refine eqT rfl (by rcases hz with rfl | rfl | rfl | rfl | rfl | rfl <;> kernel_rfl) ?_
      refine ⟨S, _, _, rfl, rfl, ((s27.trans s28) _ _ hS), by rw [List.length_replicate]; exact Nat.le_of_ble_eq_true rfl, ?_⟩
      exact ⟨a_units_here, a_down, a_near_here, a_sixty, S, rfl, Same.updN (sB.trans (s27.trans s28)) nS, nS, by rw [upd_same]; rfl, UA.updL ((s27.trans s28) _ _ hS) (UA.same (s27.trans s28) ua_units_here), LadAt.updL ((s27.trans s28) _ _ hS) (LadAt.same (s27.trans s28) la_down), LadAt.updL ((s27.trans s28) _ _ hS) (LadAt.same (s27.trans s28) la_near_here), LadAt.updL ((s27.trans s28) _ _ hS) (LadAt.same (s27.trans s28) la_sixty)⟩
    rintro σ' H0 ⟨a_units_here, a_down, a_near_here, a_sixty, S, rfl, sB, nS, hS, ua_units_here, la_down, la_near_here, la_sixty⟩
    refine ⟨fun σ' H' => ∃ (a_units_here : Addr) (a_down : Addr) (a_near_here : Addr) (a_sixty : Addr) (S : Addr), σ' = [some (.str z), some (.ref a_units_here), some (.ref a_down), some (.ref a_near_here), some (.ref a_sixty), some (.ref S), none] ∧ Same H H' ∧ H S = none ∧ H' S = some (.lst (List.replicate 11 (V.bl true))) ∧ UA K H' a_units_here (UZ z) ∧ LadAt K L.C H' a_down (UZ z) 1 "down" true 1 ∧ LadAt K L.C H' a_near_here (UZ z) 1 "near" true 1 ∧ LadAt K L.C H' a_sixty V60 0 "near" true 1, ?_, ?_⟩
    · refine ⟨_, rfl, .inl ⟨rfl, _, SqL.of hS⟩, ?_⟩
      refine ⟨(by show 2 ≤ sizeLine; decide), fun t29 n29 => ?_⟩
      have s29 := same_upd n29 (o := .tup ([V.str "", V.int (1)] : List V))
      have q29 : SqT K (upd H0 t29 (.tup ([V.str "", V.int (1)] : List V))) t29 [V.str "", V.int (1)] := SqT.of upd_same
      have d29 : Dp K (upd H0 t29 (.tup ([V.str "", V.int (1)] : List V))) (.ref t29) (.tuple [.str "", .int ((1))]) := .tup (SqT.of upd_same) (.cons (.str _) (.cons (.int _) .nil))
      generalize upd H0 t29 (.tup ([V.str "", V.int (1)] : List V)) = H29 at s29 q29 d29 ⊢
      refine ⟨(by show 2 ≤ sizeLine; decide), fun t30 n30 => ?_⟩
      have s30 := same_upd n30 (o := .tup ([V.str "a", V.int (2)] : List V))
      have q30 : SqT K (upd H29 t30 (.tup ([V.str "a", V.int (2)] : List V))) t30 [V.str "a", V.int (2)] := SqT.of upd_same
      have d30 : Dp K (upd H29 t30 (.tup ([V.str "a", V.int (2)] : List V))) (.ref t30) (.tuple [.str "a", .int ((2))]) := .tup (SqT.of upd_same) (.cons (.str _) (.cons (.int _) .nil))
      generalize upd H29 t30 (.tup ([V.str "a", V.int (2)] : List V)) = H30 at s30 q30 d30 ⊢
      refine ⟨(by show 2 ≤ sizeLine; decide), fun t31 n31 => ?_⟩
      have s31 := same_upd n31 (o := .tup ([V.str "b", V.int (6)] : List V))
      have q31 : SqT K (upd H30 t31 (.tup ([V.str "b", V.int (6)] : List V))) t31 [V.str "b", V.int (6)] := SqT.of upd_same
      have d31 : Dp K (upd H30 t31 (.tup ([V.str "b", V.int (6)] : List V))) (.ref t31) (.tuple [.str "b", .int ((6))]) := .tup (SqT.of upd_same) (.cons (.str _) (.cons (.int _) .nil))
      generalize upd H30 t31 (.tup ([V.str "b", V.int (6)] : List V)) = H31 at s31 q31 d31 ⊢
      refine ⟨(by show 3 ≤ sizeLine; decide), fun t32 n32 => ?_⟩
      have s32 := same_upd n32 (o := .tup ([V.ref t29, V.ref t30, V.ref t31] : List V))
      have q32 : SqT K (upd H31 t32 (.tup ([V.ref t29, V.ref t30, V.ref t31] : List V))) t32 [V.ref t29, V.ref t30, V.ref t31] := SqT.of upd_same
      have u32 : UA K (upd H31 t32 (.tup ([V.ref t29, V.ref t30, V.ref t31] : List V))) t32 VA6 := ⟨[t29, t30, t31], SqT.of upd_same, (.cons (same_sqt s32 (same_sqt (s30.trans s31) q29)) (.cons (same_sqt s32 (same_sqt s31 q30)) (.cons (same_sqt s32 q31) .nil)))⟩
      generalize upd H31 t32 (.tup ([V.ref t29, V.ref t30, V.ref t31] : List V)) = H32 at s32 q32 u32 ⊢
      refine ⟨rfl, rfl, made_of (us := VA6) (fun _ => rfl) u32 g_VA6_0_even_1 fun p33 H33 s33 l33 => ?_⟩
      refine nil_go ?_
      refine go_firstdN l33 g_VA6_0_even_1 (by rcases hz with rfl | rfl | rfl | rfl | rfl | rfl <;> kernel_rfl) fun H34 s34 => ?_
      refine ⟨S, _, _, rfl, rfl, ((((((s29.trans s30).trans s31).trans s32).trans s33).trans s34) _ _ hS), by rw [List.length_replicate]; exact Nat.le_of_ble_eq_true rfl, ?_⟩
      exact ⟨a_units_here, a_down, a_near_here, a_sixty, S, rfl, Same.updN (sB.trans (((((s29.trans s30).trans s31).trans s32).trans s33).trans s34)) nS, nS, by rw [upd_same]; rfl, UA.updL ((((((s29.trans s30).trans s31).trans s32).trans s33).trans s34) _ _ hS) (UA.same (((((s29.trans s30).trans s31).trans s32).trans s33).trans s34) ua_units_here), LadAt.updL ((((((s29.trans s30).trans s31).trans s32).trans s33).trans s34) _ _ hS) (LadAt.same (((((s29.trans s30).trans s31).trans s32).trans s33).trans s34) la_down), LadAt.updL ((((((s29.trans s30).trans s31).trans s32).trans s33).trans s34) _ _ hS) (LadAt.same (((((s29.trans s30).trans s31).trans s32).trans s33).trans s34) la_near_here), LadAt.updL ((((((s29.trans s30).trans s31).trans s32).trans s33).trans s34) _ _ hS) (LadAt.same (((((s29.trans s30).trans s31).trans s32).trans s33).trans s34) la_sixty)⟩
    rintro σ' H0 ⟨a_units_here, a_down, a_near_here, a_sixty, S, rfl, sB, nS, hS, ua_units_here, la_down, la_near_here, la_sixty⟩
    refine ⟨fun σ' H' => ∃ (a_units_here : Addr) (a_down : Addr) (a_near_here : Addr) (a_sixty : Addr) (S : Addr), σ' = [some (.str z), some (.ref a_units_here), some (.ref a_down), some (.ref a_near_here), some (.ref a_sixty), some (.ref S), none] ∧ Same H H' ∧ H S = none ∧ H' S = some (.lst (List.replicate 12 (V.bl true))) ∧ UA K H' a_units_here (UZ z) ∧ LadAt K L.C H' a_down (UZ z) 1 "down" true 1 ∧ LadAt K L.C H' a_near_here (UZ z) 1 "near" true 1 ∧ LadAt K L.C H' a_sixty V60 0 "near" true 1, ?_, ?_⟩
    · refine ⟨_, rfl, .inl ⟨rfl, _, SqL.of hS⟩, ?_⟩
      refine ⟨(by show 2 ≤ sizeLine; decide), fun t35 n35 => ?_⟩
      have s35 := same_upd n35 (o := .tup ([V.str "", V.int (1)] : List V))
      have q35 : SqT K (upd H0 t35 (.tup ([V.str "", V.int (1)] : List V))) t35 [V.str "", V.int (1)] := SqT.of upd_same
      have d35 : Dp K (upd H0 t35 (.tup ([V.str "", V.int (1)] : List V))) (.ref t35) (.tuple [.str "", .int ((1))]) := .tup (SqT.of upd_same) (.cons (.str _) (.cons (.int _) .nil))
      generalize upd H0 t35 (.tup ([V.str "", V.int (1)] : List V)) = H35 at s35 q35 d35 ⊢
      refine ⟨(by show 2 ≤ sizeLine; decide), fun t36 n36 => ?_⟩
      have s36 := same_upd n36 (o := .tup ([V.str "a", V.int (2)] : List V))
      have q36 : SqT K (upd H35 t36 (.tup ([V.str "a", V.int (2)] : List V))) t36 [V.str "a", V.int (2)] := SqT.of upd_same
      have d36 : Dp K (upd H35 t36 (.tup ([V.str "a", V.int (2)] : List V))) (.ref t36) (.tuple [.str "a", .int ((2))]) := .tup (SqT.of upd_same) (.cons (.str _) (.cons (.int _) .nil))
      generalize upd H35 t36 (.tup ([V.str "a", V.int (2)] : List V)) = H36 at s36 q36 d36 ⊢
      refine ⟨(by show 2 ≤ sizeLine; decide), fun t37 n37 => ?_⟩
      have s37 := same_upd n37 (o := .tup ([V.str "b", V.int (8)] : List V))
      have q37 : SqT K (upd H36 t37 (.tup ([V.str "b", V.int (8)] : List V))) t37 [V.str "b", V.int (8)] := SqT.of upd_same
      have d37 : Dp K (upd H36 t37 (.tup ([V.str "b", V.int (8)] : List V))) (.ref t37) (.tuple [.str "b", .int ((8))]) := .tup (SqT.of upd_same) (.cons (.str _) (.cons (.int _) .nil))
      generalize upd H36 t37 (.tup ([V.str "b", V.int (8)] : List V)) = H37 at s37 q37 d37 ⊢
      refine ⟨(by show 3 ≤ sizeLine; decide), fun t38 n38 => ?_⟩
      have s38 := same_upd n38 (o := .tup ([V.ref t35, V.ref t36, V.ref t37] : List V))
      have q38 : SqT K (upd H37 t38 (.tup ([V.ref t35, V.ref t36, V.ref t37] : List V))) t38 [V.ref t35, V.ref t36, V.ref t37] := SqT.of upd_same
      have u38 : UA K (upd H37 t38 (.tup ([V.ref t35, V.ref t36, V.ref t37] : List V))) t38 VA8 := ⟨[t35, t36, t37], SqT.of upd_same, (.cons (same_sqt s38 (same_sqt (s36.trans s37) q35)) (.cons (same_sqt s38 (same_sqt s37 q36)) (.cons (same_sqt s38 q37) .nil)))⟩
      generalize upd H37 t38 (.tup ([V.ref t35, V.ref t36, V.ref t37] : List V)) = H38 at s38 q38 u38 ⊢
      refine ⟨rfl, rfl, made_of (us := VA8) (fun _ => rfl) u38 g_VA8_0_even_1 fun p39 H39 s39 l39 => ?_⟩
      refine nil_go ?_
      refine go_firstd 1 (7) l39 g_VA8_0_even_1 (by rcases hz with rfl | rfl | rfl | rfl | rfl | rfl <;> kernel_rfl) (by rcases hz with rfl | rfl | rfl | rfl | rfl | rfl <;> kernel_rfl) (by rcases hz with rfl | rfl | rfl | rfl | rfl | rfl <;> kernel_rfl) fun H40 s40 => ?_
      refine tC_go ?_
      refine eqT rfl (by rcases hz with rfl | rfl | rfl | rfl | rfl | rfl <;> kernel_rfl) ?_
      refine ⟨S, _, _, rfl, rfl, ((((((s35.trans s36).trans s37).trans s38).trans s39).trans s40) _ _ hS), by rw [List.length_replicate]; exact Nat.le_of_ble_eq_true rfl, ?_⟩
      exact ⟨a_units_here, a_down, a_near_here, a_sixty, S, rfl, Same.updN (sB.trans (((((s35.trans s36).trans s37).trans s38).trans s39).trans s40)) nS, nS, by rw [upd_same]; rfl, UA.updL ((((((s35.trans s36).trans s37).trans s38).trans s39).trans s40) _ _ hS) (UA.same (((((s35.trans s36).trans s37).trans s38).trans s39).trans s40) ua_units_here), LadAt.updL ((((((s35.trans s36).trans s37).trans s38).trans s39).trans s40) _ _ hS) (LadAt.same (((((s35.trans s36).trans s37).trans s38).trans s39).trans s40) la_down), LadAt.updL ((((((s35.trans s36).trans s37).trans s38).trans s39).trans s40) _ _ hS) (LadAt.same (((((s35.trans s36).trans s37).trans s38).trans s39).trans s40) la_near_here), LadAt.updL ((((((s35.trans s36).trans s37).trans s38).trans s39).trans s40) _ _ hS) (LadAt.same (((((s35.trans s36).trans s37).trans s38).trans s39).trans s40) la_sixty)⟩
    rintro σ' H0 ⟨a_units_here, a_down, a_near_here, a_sixty, S, rfl, sB, nS, hS, ua_units_here, la_down, la_near_here, la_sixty⟩
    refine ⟨fun σ' H' => ∃ (a_units_here : Addr) (a_down : Addr) (a_near_here : Addr) (a_sixty : Addr) (S : Addr), σ' = [some (.str z), some (.ref a_units_here), some (.ref a_down), some (.ref a_near_here), some (.ref a_sixty), some (.ref S), none] ∧ Same H H' ∧ H S = none ∧ H' S = some (.lst (List.replicate 13 (V.bl true))) ∧ UA K H' a_units_here (UZ z) ∧ LadAt K L.C H' a_down (UZ z) 1 "down" true 1 ∧ LadAt K L.C H' a_near_here (UZ z) 1 "near" true 1 ∧ LadAt K L.C H' a_sixty V60 0 "near" true 1, ?_, ?_⟩
    · refine ⟨_, rfl, .inl ⟨rfl, _, SqL.of hS⟩, ?_⟩
      refine ⟨_, rfl, ?_⟩
      refine ⟨_, rfl, ?_⟩
      refine nil_go ?_
      refine go_firstt (A := (⟨(UZ z), 1, "down", true, 1⟩ : Lad)) (B := (⟨(UZ z), 1, "near", true, 1⟩ : Lad)) (1050) la_down la_near_here (g_UZ_1_down_1 hz) (g_UZ_1_near_1 hz) (by rcases hz with rfl | rfl | rfl | rfl | rfl | rfl <;> kernel_rfl) (by rcases hz with rfl | rfl | rfl | rfl | rfl | rfl <;> kernel_rfl) (by rcases hz with rfl | rfl | rfl | rfl | rfl | rfl <;> kernel_rfl) (by rcases hz with rfl | rfl | rfl | rfl | rfl | rfl <;> kernel_rfl) fun r41 H41 s41 d41 => ?_
      refine ⟨(by show 2 ≤ sizeLine; decide), fun t42 n42 => ?_⟩
      have s42 := same_upd n42 (o := .tup ([V.int (1049), V.int (1050)] : List V))
      have q42 : SqT K (upd H41 t42 (.tup ([V.int (1049), V.int (1050)] : List V))) t42 [V.int (1049), V.int (1050)] := SqT.of upd_same
      have d42 : Dp K (upd H41 t42 (.tup ([V.int (1049), V.int (1050)] : List V))) (.ref t42) (.tuple [.int ((1049)), .int ((1050))]) := .tup (SqT.of upd_same) (.cons (.int _) (.cons (.int _) .nil))
      generalize upd H41 t42 (.tup ([V.int (1049), V.int (1050)] : List V)) = H42 at s42 q42 d42 ⊢
      refine eqDT (dp_same s42 _ _ d41) d42 (by rcases hz with rfl | rfl | rfl | rfl | rfl | rfl <;> kernel_rfl) (by rcases hz with rfl | rfl | rfl | rfl | rfl | rfl <;> kernel_rfl) (by rcases hz with rfl | rfl | rfl | rfl | rfl | rfl <;> kernel_rfl) ?_
      refine ⟨_, rfl, ?_⟩
      refine iteY7 rfl ?_
      refine ⟨_, rfl, ?_⟩
      refine ⟨_, rfl, ?_⟩
      refine nil_go ?_
      refine go_firstt (A := (⟨(UZ z), 1, "near", true, 1⟩ : Lad)) (B := (⟨(UZ z), 1, "down", true, 1⟩ : Lad)) (1100) (LadAt.same (s41.trans s42) la_near_here) (LadAt.same (s41.trans s42) la_down) (g_UZ_1_near_1 hz) (g_UZ_1_down_1 hz) (by rcases hz with rfl | rfl | rfl | rfl | rfl | rfl <;> kernel_rfl) (by rcases hz with rfl | rfl | rfl | rfl | rfl | rfl <;> kernel_rfl) (by rcases hz with rfl | rfl | rfl | rfl | rfl | rfl <;> kernel_rfl) (by rcases hz with rfl | rfl | rfl | rfl | rfl | rfl <;> kernel_rfl) fun r43 H43 s43 d43 => ?_
      refine ⟨(by show 2 ≤ sizeLine; decide), fun t44 n44 => ?_⟩
      have s44 := same_upd n44 (o := .tup ([V.int (1099), V.int (1100)] : List V))
      have q44 : SqT K (upd H43 t44 (.tup ([V.int (1099), V.int (1100)] : List V))) t44 [V.int (1099), V.int (1100)] := SqT.of upd_same
      have d44 : Dp K (upd H43 t44 (.tup ([V.int (1099), V.int (1100)] : List V))) (.ref t44) (.tuple [.int ((1099)), .int ((1100))]) := .tup (SqT.of upd_same) (.cons (.int _) (.cons (.int _) .nil))
      generalize upd H43 t44 (.tup ([V.int (1099), V.int (1100)] : List V)) = H44 at s44 q44 d44 ⊢
      refine eqDT (dp_same s44 _ _ d43) d44 (by rcases hz with rfl | rfl | rfl | rfl | rfl | rfl <;> kernel_rfl) (by rcases hz with rfl | rfl | rfl | rfl | rfl | rfl <;> kernel_rfl) (by rcases hz with rfl | rfl | rfl | rfl | rfl | rfl <;> kernel_rfl) ?_
      refine ⟨S, _, _, rfl, rfl, ((((s41.trans s42).trans s43).trans s44) _ _ hS), by rw [List.length_replicate]; exact Nat.le_of_ble_eq_true rfl, ?_⟩
      exact ⟨a_units_here, a_down, a_near_here, a_sixty, S, rfl, Same.updN (sB.trans (((s41.trans s42).trans s43).trans s44)) nS, nS, by rw [upd_same]; rfl, UA.updL ((((s41.trans s42).trans s43).trans s44) _ _ hS) (UA.same (((s41.trans s42).trans s43).trans s44) ua_units_here), LadAt.updL ((((s41.trans s42).trans s43).trans s44) _ _ hS) (LadAt.same (((s41.trans s42).trans s43).trans s44) la_down), LadAt.updL ((((s41.trans s42).trans s43).trans s44) _ _ hS) (LadAt.same (((s41.trans s42).trans s43).trans s44) la_near_here), LadAt.updL ((((s41.trans s42).trans s43).trans s44) _ _ hS) (LadAt.same (((s41.trans s42).trans s43).trans s44) la_sixty)⟩
    rintro σ' H0 ⟨a_units_here, a_down, a_near_here, a_sixty, S, rfl, sB, nS, hS, ua_units_here, la_down, la_near_here, la_sixty⟩
    refine ⟨fun σ' H' => ∃ (a_units_here : Addr) (a_down : Addr) (a_near_here : Addr) (a_sixty : Addr) (a_ones_here : Addr) (S : Addr), σ' = [some (.str z), some (.ref a_units_here), some (.ref a_down), some (.ref a_near_here), some (.ref a_sixty), some (.ref S), some (.ref a_ones_here)] ∧ Same H H' ∧ H S = none ∧ H' S = some (.lst (List.replicate 13 (V.bl true))) ∧ UA K H' a_units_here (UZ z) ∧ LadAt K L.C H' a_down (UZ z) 1 "down" true 1 ∧ LadAt K L.C H' a_near_here (UZ z) 1 "near" true 1 ∧ LadAt K L.C H' a_sixty V60 0 "near" true 1 ∧ LadAt K L.C H' a_ones_here V1 0 "up" true 1, ?_, ?_⟩
    · refine ⟨(by show 2 ≤ sizeLine; decide), fun t45 n45 => ?_⟩
      have s45 := same_upd n45 (o := .tup ([V.str "n", V.int (1)] : List V))
      have q45 : SqT K (upd H0 t45 (.tup ([V.str "n", V.int (1)] : List V))) t45 [V.str "n", V.int (1)] := SqT.of upd_same
      have d45 : Dp K (upd H0 t45 (.tup ([V.str "n", V.int (1)] : List V))) (.ref t45) (.tuple [.str "n", .int ((1))]) := .tup (SqT.of upd_same) (.cons (.str _) (.cons (.int _) .nil))
      generalize upd H0 t45 (.tup ([V.str "n", V.int (1)] : List V)) = H45 at s45 q45 d45 ⊢
      refine ⟨(by show 1 ≤ sizeLine; decide), fun t46 n46 => ?_⟩
      have s46 := same_upd n46 (o := .tup ([V.ref t45] : List V))
      have q46 : SqT K (upd H45 t46 (.tup ([V.ref t45] : List V))) t46 [V.ref t45] := SqT.of upd_same
      have u46 : UA K (upd H45 t46 (.tup ([V.ref t45] : List V))) t46 V1 := ⟨[t45], SqT.of upd_same, (.cons (same_sqt s46 q45) .nil)⟩
      generalize upd H45 t46 (.tup ([V.ref t45] : List V)) = H46 at s46 q46 u46 ⊢
      refine made_of (us := V1) (fun _ => rfl) u46 g_V1_0_up_1 fun p47 H47 s47 l47 => ?_
      exact ⟨a_units_here, a_down, a_near_here, a_sixty, p47, S, rfl, (sB.trans ((s45.trans s46).trans s47)), nS, ((s45.trans s46).trans s47) _ _ hS, (UA.same ((s45.trans s46).trans s47) ua_units_here), (LadAt.same ((s45.trans s46).trans s47) la_down), (LadAt.same ((s45.trans s46).trans s47) la_near_here), (LadAt.same ((s45.trans s46).trans s47) la_sixty), l47⟩
    rintro σ' H0 ⟨a_units_here, a_down, a_near_here, a_sixty, a_ones_here, S, rfl, sB, nS, hS, ua_units_here, la_down, la_near_here, la_sixty, la_ones_here⟩
    refine ⟨fun σ' H' => ∃ (a_units_here : Addr) (a_down : Addr) (a_near_here : Addr) (a_sixty : Addr) (a_ones_here : Addr) (S : Addr), σ' = [some (.str z), some (.ref a_units_here), some (.ref a_down), some (.ref a_near_here), some (.ref a_sixty), some (.ref S), some (.ref a_ones_here)] ∧ Same H H' ∧ H S = none ∧ H' S = some (.lst (List.replicate 14 (V.bl true))) ∧ UA K H' a_units_here (UZ z) ∧ LadAt K L.C H' a_down (UZ z) 1 "down" true 1 ∧ LadAt K L.C H' a_near_here (UZ z) 1 "near" true 1 ∧ LadAt K L.C H' a_sixty V60 0 "near" true 1 ∧ LadAt K L.C H' a_ones_here V1 0 "up" true 1, ?_, ?_⟩
    · refine ⟨_, rfl, .inl ⟨rfl, _, SqL.of hS⟩, ?_⟩
      refine ⟨_, rfl, ?_⟩
      refine ⟨_, rfl, ?_⟩
      refine nil_go ?_
      refine go_tells (A := (⟨V1, 0, "up", true, 1⟩ : Lad)) (B := (⟨(UZ z), 1, "near", true, 1⟩ : Lad)) la_ones_here la_near_here g_V1_0_up_1 (g_UZ_1_near_1 hz) (by rcases hz with rfl | rfl | rfl | rfl | rfl | rfl <;> kernel_rfl) fun H48 s48 => ?_
      refine ⟨_, rfl, ?_⟩
      refine iteY7 rfl ?_
      refine ⟨_, rfl, ?_⟩
      refine ⟨_, rfl, ?_⟩
      refine nil_go ?_
      refine go_firstt (A := (⟨(UZ z), 1, "near", true, 1⟩ : Lad)) (B := (⟨V1, 0, "up", true, 1⟩ : Lad)) (1001) (LadAt.same s48 la_near_here) (LadAt.same s48 la_ones_here) (g_UZ_1_near_1 hz) g_V1_0_up_1 (by rcases hz with rfl | rfl | rfl | rfl | rfl | rfl <;> kernel_rfl) (by rcases hz with rfl | rfl | rfl | rfl | rfl | rfl <;> kernel_rfl) (by rcases hz with rfl | rfl | rfl | rfl | rfl | rfl <;> kernel_rfl) (by rcases hz with rfl | rfl | rfl | rfl | rfl | rfl <;> kernel_rfl) fun r49 H49 s49 d49 => ?_
      refine ⟨(by show 2 ≤ sizeLine; decide), fun t50 n50 => ?_⟩
      have s50 := same_upd n50 (o := .tup ([V.int (1000), V.int (1001)] : List V))
      have q50 : SqT K (upd H49 t50 (.tup ([V.int (1000), V.int (1001)] : List V))) t50 [V.int (1000), V.int (1001)] := SqT.of upd_same
      have d50 : Dp K (upd H49 t50 (.tup ([V.int (1000), V.int (1001)] : List V))) (.ref t50) (.tuple [.int ((1000)), .int ((1001))]) := .tup (SqT.of upd_same) (.cons (.int _) (.cons (.int _) .nil))
      generalize upd H49 t50 (.tup ([V.int (1000), V.int (1001)] : List V)) = H50 at s50 q50 d50 ⊢
      refine eqDT (dp_same s50 _ _ d49) d50 (by rcases hz with rfl | rfl | rfl | rfl | rfl | rfl <;> kernel_rfl) (by rcases hz with rfl | rfl | rfl | rfl | rfl | rfl <;> kernel_rfl) (by rcases hz with rfl | rfl | rfl | rfl | rfl | rfl <;> kernel_rfl) ?_
      refine ⟨S, _, _, rfl, rfl, (((s48.trans s49).trans s50) _ _ hS), by rw [List.length_replicate]; exact Nat.le_of_ble_eq_true rfl, ?_⟩
      exact ⟨a_units_here, a_down, a_near_here, a_sixty, a_ones_here, S, rfl, Same.updN (sB.trans ((s48.trans s49).trans s50)) nS, nS, by rw [upd_same]; rfl, UA.updL (((s48.trans s49).trans s50) _ _ hS) (UA.same ((s48.trans s49).trans s50) ua_units_here), LadAt.updL (((s48.trans s49).trans s50) _ _ hS) (LadAt.same ((s48.trans s49).trans s50) la_down), LadAt.updL (((s48.trans s49).trans s50) _ _ hS) (LadAt.same ((s48.trans s49).trans s50) la_near_here), LadAt.updL (((s48.trans s49).trans s50) _ _ hS) (LadAt.same ((s48.trans s49).trans s50) la_sixty), LadAt.updL (((s48.trans s49).trans s50) _ _ hS) (LadAt.same ((s48.trans s49).trans s50) la_ones_here)⟩
    rintro σ' H0 ⟨a_units_here, a_down, a_near_here, a_sixty, a_ones_here, S, rfl, sB, nS, hS, ua_units_here, la_down, la_near_here, la_sixty, la_ones_here⟩
    refine ⟨fun σ' H' => ∃ (a_units_here : Addr) (a_down : Addr) (a_near_here : Addr) (a_sixty : Addr) (a_ones_here : Addr) (S : Addr), σ' = [some (.str z), some (.ref a_units_here), some (.ref a_down), some (.ref a_near_here), some (.ref a_sixty), some (.ref S), some (.ref a_ones_here)] ∧ Same H H' ∧ H S = none ∧ H' S = some (.lst (List.replicate 15 (V.bl true))) ∧ UA K H' a_units_here (UZ z) ∧ LadAt K L.C H' a_down (UZ z) 1 "down" true 1 ∧ LadAt K L.C H' a_near_here (UZ z) 1 "near" true 1 ∧ LadAt K L.C H' a_sixty V60 0 "near" true 1 ∧ LadAt K L.C H' a_ones_here V1 0 "up" true 1, ?_, ?_⟩
    · refine ⟨_, rfl, .inl ⟨rfl, _, SqL.of hS⟩, ?_⟩
      refine ⟨_, rfl, ?_⟩
      refine ⟨_, rfl, ?_⟩
      refine ⟨_, _, rfl, rfl, fit_z hz (by decide +kernel), ?_⟩
      refine ⟨(by show 2 ≤ sizeLine; decide), fun t51 n51 => ?_⟩
      have s51 := same_upd n51 (o := .tup ([V.ref a_down, V.str (("1.0" : Str) ++ z)] : List V))
      have q51 : SqT K (upd H0 t51 (.tup ([V.ref a_down, V.str (("1.0" : Str) ++ z)] : List V))) t51 [V.ref a_down, V.str (("1.0" : Str) ++ z)] := SqT.of upd_same
      have g51 : SgtAt K L.C (upd H0 t51 (.tup ([V.ref a_down, V.str (("1.0" : Str) ++ z)] : List V))) t51 (⟨(UZ z), 1, "down", true, 1, (1, 10)⟩ : Sgt) := sgt_of (x := (("1.0" : Str) ++ z)) (SqT.of upd_same) (by rcases hz with rfl | rfl | rfl | rfl | rfl | rfl <;> kernel_rfl) (LadAt.same s51 la_down)
      generalize upd H0 t51 (.tup ([V.ref a_down, V.str (("1.0" : Str) ++ z)] : List V)) = H51 at s51 q51 g51 ⊢
      refine ⟨_, rfl, ?_⟩
      refine ⟨_, rfl, ?_⟩
      refine ⟨_, _, rfl, rfl, fit_z hz (by decide +kernel), ?_⟩
      refine ⟨(by show 2 ≤ sizeLine; decide), fun t52 n52 => ?_⟩
      have s52 := same_upd n52 (o := .tup ([V.ref a_near_here, V.str (("1.1" : Str) ++ z)] : List V))
      have q52 : SqT K (upd H51 t52 (.tup ([V.ref a_near_here, V.str (("1.1" : Str) ++ z)] : List V))) t52 [V.ref a_near_here, V.str (("1.1" : Str) ++ z)] := SqT.of upd_same
      have g52 : SgtAt K L.C (upd H51 t52 (.tup ([V.ref a_near_here, V.str (("1.1" : Str) ++ z)] : List V))) t52 (⟨(UZ z), 1, "near", true, 1, (1, 11)⟩ : Sgt) := sgt_of (x := (("1.1" : Str) ++ z)) (SqT.of upd_same) (by rcases hz with rfl | rfl | rfl | rfl | rfl | rfl <;> kernel_rfl) (LadAt.same s52 (LadAt.same s51 la_near_here))
      generalize upd H51 t52 (.tup ([V.ref a_near_here, V.str (("1.1" : Str) ++ z)] : List V)) = H52 at s52 q52 g52 ⊢
      refine ⟨(by show 2 ≤ sizeLine; decide), fun t53 n53 => ?_⟩
      have s53 := same_upd n53 (o := .tup ([V.ref t51, V.ref t52] : List V))
      have q53 : SqT K (upd H52 t53 (.tup ([V.ref t51, V.ref t52] : List V))) t53 [V.ref t51, V.ref t52] := SqT.of upd_same
      have g53 : SgsAt K L.C (upd H52 t53 (.tup ([V.ref t51, V.ref t52] : List V))) t53 [(⟨(UZ z), 1, "down", true, 1, (1, 10)⟩ : Sgt), (⟨(UZ z), 1, "near", true, 1, (1, 11)⟩ : Sgt)] := ⟨[t51, t52], SqT.of upd_same, (.cons (SgtAt.same s53 (SgtAt.same s52 g51)) (.cons (SgtAt.same s53 g52) .nil))⟩
      generalize upd H52 t53 (.tup ([V.ref t51, V.ref t52] : List V)) = H53 at s53 q53 g53 ⊢
      refine nil_go ?_
      refine go_nums2 _ _ (1050) (1099) g53 ⟨(g_UZ_1_down_1 hz), ko_one (by rcases hz with rfl | rfl | rfl | rfl | rfl | rfl <;> kernel_rfl)⟩ ⟨(g_UZ_1_near_1 hz), ko_one (by rcases hz with rfl | rfl | rfl | rfl | rfl | rfl <;> kernel_rfl)⟩ (by rcases hz with rfl | rfl | rfl | rfl | rfl | rfl <;> kernel_rfl) (by rcases hz with rfl | rfl | rfl | rfl | rfl | rfl <;> kernel_rfl) (by rcases hz with rfl | rfl | rfl | rfl | rfl | rfl <;> kernel_rfl) fun r54 H54 s54 d54 => ?_
      refine ⟨(by show 2 ≤ sizeLine; decide), fun t55 n55 => ?_⟩
      have s55 := same_upd n55 (o := .tup ([V.int (1050), V.int (1099)] : List V))
      have q55 : SqT K (upd H54 t55 (.tup ([V.int (1050), V.int (1099)] : List V))) t55 [V.int (1050), V.int (1099)] := SqT.of upd_same
      have d55 : Dp K (upd H54 t55 (.tup ([V.int (1050), V.int (1099)] : List V))) (.ref t55) (.tuple [.int ((1050)), .int ((1099))]) := .tup (SqT.of upd_same) (.cons (.int _) (.cons (.int _) .nil))
      generalize upd H54 t55 (.tup ([V.int (1050), V.int (1099)] : List V)) = H55 at s55 q55 d55 ⊢
      refine eqDT (dp_same s55 _ _ d54) d55 (by rcases hz with rfl | rfl | rfl | rfl | rfl | rfl <;> kernel_rfl) (by rcases hz with rfl | rfl | rfl | rfl | rfl | rfl <;> kernel_rfl) (by rcases hz with rfl | rfl | rfl | rfl | rfl | rfl <;> kernel_rfl) ?_
      refine ⟨S, _, _, rfl, rfl, (((((s51.trans s52).trans s53).trans s54).trans s55) _ _ hS), by rw [List.length_replicate]; exact Nat.le_of_ble_eq_true rfl, ?_⟩
      exact ⟨a_units_here, a_down, a_near_here, a_sixty, a_ones_here, S, rfl, Same.updN (sB.trans ((((s51.trans s52).trans s53).trans s54).trans s55)) nS, nS, by rw [upd_same]; rfl, UA.updL (((((s51.trans s52).trans s53).trans s54).trans s55) _ _ hS) (UA.same ((((s51.trans s52).trans s53).trans s54).trans s55) ua_units_here), LadAt.updL (((((s51.trans s52).trans s53).trans s54).trans s55) _ _ hS) (LadAt.same ((((s51.trans s52).trans s53).trans s54).trans s55) la_down), LadAt.updL (((((s51.trans s52).trans s53).trans s54).trans s55) _ _ hS) (LadAt.same ((((s51.trans s52).trans s53).trans s54).trans s55) la_near_here), LadAt.updL (((((s51.trans s52).trans s53).trans s54).trans s55) _ _ hS) (LadAt.same ((((s51.trans s52).trans s53).trans s54).trans s55) la_sixty), LadAt.updL (((((s51.trans s52).trans s53).trans s54).trans s55) _ _ hS) (LadAt.same ((((s51.trans s52).trans s53).trans s54).trans s55) la_ones_here)⟩
    rintro σ' H0 ⟨a_units_here, a_down, a_near_here, a_sixty, a_ones_here, S, rfl, sB, nS, hS, ua_units_here, la_down, la_near_here, la_sixty, la_ones_here⟩
    refine ⟨fun σ' H' => ∃ (a_units_here : Addr) (a_down : Addr) (a_near_here : Addr) (a_sixty : Addr) (a_ones_here : Addr) (S : Addr), σ' = [some (.str z), some (.ref a_units_here), some (.ref a_down), some (.ref a_near_here), some (.ref a_sixty), some (.ref S), some (.ref a_ones_here)] ∧ Same H H' ∧ H S = none ∧ H' S = some (.lst (List.replicate 16 (V.bl true))) ∧ UA K H' a_units_here (UZ z) ∧ LadAt K L.C H' a_down (UZ z) 1 "down" true 1 ∧ LadAt K L.C H' a_near_here (UZ z) 1 "near" true 1 ∧ LadAt K L.C H' a_sixty V60 0 "near" true 1 ∧ LadAt K L.C H' a_ones_here V1 0 "up" true 1, ?_, ?_⟩
    · refine ⟨_, rfl, .inl ⟨rfl, _, SqL.of hS⟩, ?_⟩
      refine ⟨_, rfl, ?_⟩
      refine ⟨(by show 2 ≤ sizeLine; decide), fun t56 n56 => ?_⟩
      have s56 := same_upd n56 (o := .tup ([V.ref a_down, V.str "999"] : List V))
      have q56 : SqT K (upd H0 t56 (.tup ([V.ref a_down, V.str "999"] : List V))) t56 [V.ref a_down, V.str "999"] := SqT.of upd_same
      have g56 : SgtAt K L.C (upd H0 t56 (.tup ([V.ref a_down, V.str "999"] : List V))) t56 (⟨(UZ z), 1, "down", true, 1, (0, 999)⟩ : Sgt) := sgt_of (x := "999") (SqT.of upd_same) (by rcases hz with rfl | rfl | rfl | rfl | rfl | rfl <;> kernel_rfl) (LadAt.same s56 la_down)
      generalize upd H0 t56 (.tup ([V.ref a_down, V.str "999"] : List V)) = H56 at s56 q56 g56 ⊢
      refine ⟨_, rfl, ?_⟩
      refine ⟨(by show 2 ≤ sizeLine; decide), fun t57 n57 => ?_⟩
      have s57 := same_upd n57 (o := .tup ([V.ref a_near_here, V.str "999"] : List V))
      have q57 : SqT K (upd H56 t57 (.tup ([V.ref a_near_here, V.str "999"] : List V))) t57 [V.ref a_near_here, V.str "999"] := SqT.of upd_same
      have g57 : SgtAt K L.C (upd H56 t57 (.tup ([V.ref a_near_here, V.str "999"] : List V))) t57 (⟨(UZ z), 1, "near", true, 1, (0, 999)⟩ : Sgt) := sgt_of (x := "999") (SqT.of upd_same) (by rcases hz with rfl | rfl | rfl | rfl | rfl | rfl <;> kernel_rfl) (LadAt.same s57 (LadAt.same s56 la_near_here))
      generalize upd H56 t57 (.tup ([V.ref a_near_here, V.str "999"] : List V)) = H57 at s57 q57 g57 ⊢
      refine ⟨(by show 2 ≤ sizeLine; decide), fun t58 n58 => ?_⟩
      have s58 := same_upd n58 (o := .tup ([V.ref t56, V.ref t57] : List V))
      have q58 : SqT K (upd H57 t58 (.tup ([V.ref t56, V.ref t57] : List V))) t58 [V.ref t56, V.ref t57] := SqT.of upd_same
      have g58 : SgsAt K L.C (upd H57 t58 (.tup ([V.ref t56, V.ref t57] : List V))) t58 [(⟨(UZ z), 1, "down", true, 1, (0, 999)⟩ : Sgt), (⟨(UZ z), 1, "near", true, 1, (0, 999)⟩ : Sgt)] := ⟨[t56, t57], SqT.of upd_same, (.cons (SgtAt.same s58 (SgtAt.same s57 g56)) (.cons (SgtAt.same s58 g57) .nil))⟩
      generalize upd H57 t58 (.tup ([V.ref t56, V.ref t57] : List V)) = H58 at s58 q58 g58 ⊢
      refine nil_go ?_
      refine go_needed0 _ _ (999) (999) g58 ⟨(g_UZ_1_down_1 hz), ko_one (by rcases hz with rfl | rfl | rfl | rfl | rfl | rfl <;> kernel_rfl)⟩ ⟨(g_UZ_1_near_1 hz), ko_one (by rcases hz with rfl | rfl | rfl | rfl | rfl | rfl <;> kernel_rfl)⟩ (by rcases hz with rfl | rfl | rfl | rfl | rfl | rfl <;> kernel_rfl) (by rcases hz with rfl | rfl | rfl | rfl | rfl | rfl <;> kernel_rfl) (by rcases hz with rfl | rfl | rfl | rfl | rfl | rfl <;> kernel_rfl) (by rcases hz with rfl | rfl | rfl | rfl | rfl | rfl <;> kernel_rfl) (by rcases hz with rfl | rfl | rfl | rfl | rfl | rfl <;> kernel_rfl) fun r59 H59 s59 d59 => ?_
      refine ⟨(by show 0 ≤ sizeLine; decide), fun t60 n60 => ?_⟩
      have s60 := same_upd n60 (o := .tup ([] : List V))
      have q60 : SqT K (upd H59 t60 (.tup ([] : List V))) t60 [] := SqT.of upd_same
      have d60 : Dp K (upd H59 t60 (.tup ([] : List V))) (.ref t60) (.tuple []) := .tup (SqT.of upd_same) .nil
      generalize upd H59 t60 (.tup ([] : List V)) = H60 at s60 q60 d60 ⊢
      refine eqDT (dp_same s60 _ _ d59) d60 (by rcases hz with rfl | rfl | rfl | rfl | rfl | rfl <;> kernel_rfl) (by rcases hz with rfl | rfl | rfl | rfl | rfl | rfl <;> kernel_rfl) (by rcases hz with rfl | rfl | rfl | rfl | rfl | rfl <;> kernel_rfl) ?_
      refine ⟨S, _, _, rfl, rfl, (((((s56.trans s57).trans s58).trans s59).trans s60) _ _ hS), by rw [List.length_replicate]; exact Nat.le_of_ble_eq_true rfl, ?_⟩
      exact ⟨a_units_here, a_down, a_near_here, a_sixty, a_ones_here, S, rfl, Same.updN (sB.trans ((((s56.trans s57).trans s58).trans s59).trans s60)) nS, nS, by rw [upd_same]; rfl, UA.updL (((((s56.trans s57).trans s58).trans s59).trans s60) _ _ hS) (UA.same ((((s56.trans s57).trans s58).trans s59).trans s60) ua_units_here), LadAt.updL (((((s56.trans s57).trans s58).trans s59).trans s60) _ _ hS) (LadAt.same ((((s56.trans s57).trans s58).trans s59).trans s60) la_down), LadAt.updL (((((s56.trans s57).trans s58).trans s59).trans s60) _ _ hS) (LadAt.same ((((s56.trans s57).trans s58).trans s59).trans s60) la_near_here), LadAt.updL (((((s56.trans s57).trans s58).trans s59).trans s60) _ _ hS) (LadAt.same ((((s56.trans s57).trans s58).trans s59).trans s60) la_sixty), LadAt.updL (((((s56.trans s57).trans s58).trans s59).trans s60) _ _ hS) (LadAt.same ((((s56.trans s57).trans s58).trans s59).trans s60) la_ones_here)⟩
    rintro σ' H0 ⟨a_units_here, a_down, a_near_here, a_sixty, a_ones_here, S, rfl, sB, nS, hS, ua_units_here, la_down, la_near_here, la_sixty, la_ones_here⟩
    refine ⟨fun σ' H' => ∃ (a_units_here : Addr) (a_down : Addr) (a_near_here : Addr) (a_sixty : Addr) (a_ones_here : Addr) (S : Addr), σ' = [some (.str z), some (.ref a_units_here), some (.ref a_down), some (.ref a_near_here), some (.ref a_sixty), some (.ref S), some (.ref a_ones_here)] ∧ Same H H' ∧ H S = none ∧ H' S = some (.lst (List.replicate 17 (V.bl true))) ∧ UA K H' a_units_here (UZ z) ∧ LadAt K L.C H' a_down (UZ z) 1 "down" true 1 ∧ LadAt K L.C H' a_near_here (UZ z) 1 "near" true 1 ∧ LadAt K L.C H' a_sixty V60 0 "near" true 1 ∧ LadAt K L.C H' a_ones_here V1 0 "up" true 1, ?_, ?_⟩
    · refine ⟨_, rfl, .inl ⟨rfl, _, SqL.of hS⟩, ?_⟩
      refine ⟨_, rfl, ?_⟩
      refine con_go ?_
      refine ⟨_, rfl, ?_⟩
      refine nil_go ?_
      refine go_figsin (A := (⟨(UZ z), 1, "down", true, 1⟩ : Lad)) (B := (⟨V60, 0, "near", true, 1⟩ : Lad)) (0, 999) "17m" "17m" la_down la_sixty (g_UZ_1_down_1 hz) g_V60_0_near_1 (by rcases hz with rfl | rfl | rfl | rfl | rfl | rfl <;> kernel_rfl) (by rcases hz with rfl | rfl | rfl | rfl | rfl | rfl <;> kernel_rfl) (by rcases hz with rfl | rfl | rfl | rfl | rfl | rfl <;> kernel_rfl) (by rcases hz with rfl | rfl | rfl | rfl | rfl | rfl <;> kernel_rfl) (by rcases hz with rfl | rfl | rfl | rfl | rfl | rfl <;> kernel_rfl) fun r61 H61 s61 d61 => ?_
      refine ⟨(by show 2 ≤ sizeLine; decide), fun t62 n62 => ?_⟩
      have s62 := same_upd n62 (o := .tup ([V.str "17m", V.str "17m"] : List V))
      have q62 : SqT K (upd H61 t62 (.tup ([V.str "17m", V.str "17m"] : List V))) t62 [V.str "17m", V.str "17m"] := SqT.of upd_same
      have d62 : Dp K (upd H61 t62 (.tup ([V.str "17m", V.str "17m"] : List V))) (.ref t62) (.tuple [.str "17m", .str "17m"]) := .tup (SqT.of upd_same) (.cons (.str _) (.cons (.str _) .nil))
      generalize upd H61 t62 (.tup ([V.str "17m", V.str "17m"] : List V)) = H62 at s62 q62 d62 ⊢
      refine eqDT (dp_same s62 _ _ d61) d62 (by rcases hz with rfl | rfl | rfl | rfl | rfl | rfl <;> kernel_rfl) (by rcases hz with rfl | rfl | rfl | rfl | rfl | rfl <;> kernel_rfl) (by rcases hz with rfl | rfl | rfl | rfl | rfl | rfl <;> kernel_rfl) ?_
      refine ⟨S, _, _, rfl, rfl, ((s61.trans s62) _ _ hS), by rw [List.length_replicate]; exact Nat.le_of_ble_eq_true rfl, ?_⟩
      exact ⟨a_units_here, a_down, a_near_here, a_sixty, a_ones_here, S, rfl, Same.updN (sB.trans (s61.trans s62)) nS, nS, by rw [upd_same]; rfl, UA.updL ((s61.trans s62) _ _ hS) (UA.same (s61.trans s62) ua_units_here), LadAt.updL ((s61.trans s62) _ _ hS) (LadAt.same (s61.trans s62) la_down), LadAt.updL ((s61.trans s62) _ _ hS) (LadAt.same (s61.trans s62) la_near_here), LadAt.updL ((s61.trans s62) _ _ hS) (LadAt.same (s61.trans s62) la_sixty), LadAt.updL ((s61.trans s62) _ _ hS) (LadAt.same (s61.trans s62) la_ones_here)⟩
    rintro σ' H0 ⟨a_units_here, a_down, a_near_here, a_sixty, a_ones_here, S, rfl, sB, nS, hS, ua_units_here, la_down, la_near_here, la_sixty, la_ones_here⟩
    refine ⟨fun σ' H' => ∃ (a_units_here : Addr) (a_down : Addr) (a_near_here : Addr) (a_sixty : Addr) (a_ones_here : Addr) (S : Addr), σ' = [some (.str z), some (.ref a_units_here), some (.ref a_down), some (.ref a_near_here), some (.ref a_sixty), some (.ref S), some (.ref a_ones_here)] ∧ Same H H' ∧ H S = none ∧ H' S = some (.lst (List.replicate 18 (V.bl true))) ∧ UA K H' a_units_here (UZ z) ∧ LadAt K L.C H' a_down (UZ z) 1 "down" true 1 ∧ LadAt K L.C H' a_near_here (UZ z) 1 "near" true 1 ∧ LadAt K L.C H' a_sixty V60 0 "near" true 1 ∧ LadAt K L.C H' a_ones_here V1 0 "up" true 1, ?_, ?_⟩
    · refine ⟨_, rfl, .inl ⟨rfl, _, SqL.of hS⟩, ?_⟩
      refine ⟨_, rfl, ?_⟩
      refine con_go ?_
      refine con_go ?_
      refine nil_go ?_
      refine go_forms _ _ (62) la_sixty g_V60_0_near_1 (by rcases hz with rfl | rfl | rfl | rfl | rfl | rfl <;> kernel_rfl) (by rcases hz with rfl | rfl | rfl | rfl | rfl | rfl <;> kernel_rfl) fun H63 s63 => ?_
      refine tC_go ?_
      refine eqT rfl (by rcases hz with rfl | rfl | rfl | rfl | rfl | rfl <;> kernel_rfl) ?_
      refine ⟨_, rfl, ?_⟩
      refine iteY7 rfl ?_
      refine ⟨_, rfl, ?_⟩
      refine con_go ?_
      refine nil_go ?_
      refine go_figat _ (60) (1, 1) "1m" (LadAt.same s63 la_sixty) g_V60_0_near_1 (by rcases hz with rfl | rfl | rfl | rfl | rfl | rfl <;> kernel_rfl) (by rcases hz with rfl | rfl | rfl | rfl | rfl | rfl <;> kernel_rfl) (by rcases hz with rfl | rfl | rfl | rfl | rfl | rfl <;> kernel_rfl) (by rcases hz with rfl | rfl | rfl | rfl | rfl | rfl <;> kernel_rfl) (by rcases hz with rfl | rfl | rfl | rfl | rfl | rfl <;> kernel_rfl) fun H64 s64 => ?_
      refine tC_go ?_
      refine eqT rfl (by rcases hz with rfl | rfl | rfl | rfl | rfl | rfl <;> kernel_rfl) ?_
      refine ⟨_, rfl, ?_⟩
      refine iteY7 rfl ?_
      refine ⟨_, rfl, ?_⟩
      refine con_go ?_
      refine nil_go ?_
      refine go_placeof (1, 2) (61) (LadAt.same (s63.trans s64) la_sixty) g_V60_0_near_1 (by rcases hz with rfl | rfl | rfl | rfl | rfl | rfl <;> kernel_rfl) (by rcases hz with rfl | rfl | rfl | rfl | rfl | rfl <;> kernel_rfl) (by rcases hz with rfl | rfl | rfl | rfl | rfl | rfl <;> kernel_rfl) (by rcases hz with rfl | rfl | rfl | rfl | rfl | rfl <;> kernel_rfl) fun H65 s65 => ?_
      refine tC_go ?_
      refine eqT rfl (by rcases hz with rfl | rfl | rfl | rfl | rfl | rfl <;> kernel_rfl) ?_
      refine ⟨S, _, _, rfl, rfl, (((s63.trans s64).trans s65) _ _ hS), by rw [List.length_replicate]; exact Nat.le_of_ble_eq_true rfl, ?_⟩
      exact ⟨a_units_here, a_down, a_near_here, a_sixty, a_ones_here, S, rfl, Same.updN (sB.trans ((s63.trans s64).trans s65)) nS, nS, by rw [upd_same]; rfl, UA.updL (((s63.trans s64).trans s65) _ _ hS) (UA.same ((s63.trans s64).trans s65) ua_units_here), LadAt.updL (((s63.trans s64).trans s65) _ _ hS) (LadAt.same ((s63.trans s64).trans s65) la_down), LadAt.updL (((s63.trans s64).trans s65) _ _ hS) (LadAt.same ((s63.trans s64).trans s65) la_near_here), LadAt.updL (((s63.trans s64).trans s65) _ _ hS) (LadAt.same ((s63.trans s64).trans s65) la_sixty), LadAt.updL (((s63.trans s64).trans s65) _ _ hS) (LadAt.same ((s63.trans s64).trans s65) la_ones_here)⟩
    rintro σ' H0 ⟨a_units_here, a_down, a_near_here, a_sixty, a_ones_here, S, rfl, sB, nS, hS, ua_units_here, la_down, la_near_here, la_sixty, la_ones_here⟩
    refine ⟨fun σ' H' => ∃ (a_units_here : Addr) (a_down : Addr) (a_near_here : Addr) (a_sixty : Addr) (a_ones_here : Addr) (S : Addr), σ' = [some (.str z), some (.ref a_units_here), some (.ref a_down), some (.ref a_near_here), some (.ref a_sixty), some (.ref S), some (.ref a_ones_here)] ∧ Same H H' ∧ H S = none ∧ H' S = some (.lst (List.replicate 19 (V.bl true))) ∧ UA K H' a_units_here (UZ z) ∧ LadAt K L.C H' a_down (UZ z) 1 "down" true 1 ∧ LadAt K L.C H' a_near_here (UZ z) 1 "near" true 1 ∧ LadAt K L.C H' a_sixty V60 0 "near" true 1 ∧ LadAt K L.C H' a_ones_here V1 0 "up" true 1, ?_, ?_⟩
    · refine ⟨_, rfl, .inl ⟨rfl, _, SqL.of hS⟩, ?_⟩
      refine ⟨_, rfl, ?_⟩
      refine con_go ?_
      refine nil_go ?_
      refine go_worth (2, 3) 300000 la_near_here (g_UZ_1_near_1 hz) (by rcases hz with rfl | rfl | rfl | rfl | rfl | rfl <;> kernel_rfl) (by rcases hz with rfl | rfl | rfl | rfl | rfl | rfl <;> kernel_rfl) (by rcases hz with rfl | rfl | rfl | rfl | rfl | rfl <;> kernel_rfl) fun H66 s66 => ?_
      refine tC_go ?_
      refine eqT rfl (by rcases hz with rfl | rfl | rfl | rfl | rfl | rfl <;> kernel_rfl) ?_
      refine ⟨_, rfl, ?_⟩
      refine iteY7 rfl ?_
      refine ⟨_, rfl, ?_⟩
      refine con_go ?_
      refine nil_go ?_
      refine go_isshown (2, 3) false (LadAt.same s66 la_near_here) (g_UZ_1_near_1 hz) (by rcases hz with rfl | rfl | rfl | rfl | rfl | rfl <;> kernel_rfl) (by rcases hz with rfl | rfl | rfl | rfl | rfl | rfl <;> kernel_rfl) (by rcases hz with rfl | rfl | rfl | rfl | rfl | rfl <;> kernel_rfl) fun H67 s67 => ?_
      refine tC_go ?_
      refine ⟨_, _, rfl, rfl, ?_⟩
      refine ⟨S, _, _, rfl, rfl, ((s66.trans s67) _ _ hS), by rw [List.length_replicate]; exact Nat.le_of_ble_eq_true rfl, ?_⟩
      exact ⟨a_units_here, a_down, a_near_here, a_sixty, a_ones_here, S, rfl, Same.updN (sB.trans (s66.trans s67)) nS, nS, by rw [upd_same]; rfl, UA.updL ((s66.trans s67) _ _ hS) (UA.same (s66.trans s67) ua_units_here), LadAt.updL ((s66.trans s67) _ _ hS) (LadAt.same (s66.trans s67) la_down), LadAt.updL ((s66.trans s67) _ _ hS) (LadAt.same (s66.trans s67) la_near_here), LadAt.updL ((s66.trans s67) _ _ hS) (LadAt.same (s66.trans s67) la_sixty), LadAt.updL ((s66.trans s67) _ _ hS) (LadAt.same (s66.trans s67) la_ones_here)⟩
    rintro σ' H0 ⟨a_units_here, a_down, a_near_here, a_sixty, a_ones_here, S, rfl, sB, nS, hS, ua_units_here, la_down, la_near_here, la_sixty, la_ones_here⟩
    refine ⟨_, rfl, ?_⟩
    refine ⟨(by show 1 ≤ sizeLine; decide), fun L0 nL0 => ?_⟩
    have sL := same_upd nL0 (o := .lst [V.bl true])
    have hL1 : (upd H0 L0 (.lst [V.bl true])) L0 = some (.lst [V.bl true]) := upd_same
    generalize upd H0 L0 (.lst [V.bl true]) = H1 at sL hL1 ⊢
    refine ⟨_, rfl, S, _, rfl, .inl (SqL.of (sL _ _ hS)), ?_⟩
    show rRep (.ref L0) (.int 19) H1 _
    refine ⟨L0, _, _, rfl, rfl, hL1, by decide, by decide, (by show 1 * 19 ≤ sizeLine; decide), fun P0 nP => ?_⟩
    have sP := same_upd nP (o := .lst (List.replicate (Int.toNat 19) [V.bl true]).flatten)
    have dP : Dp K (upd H1 P0 (.lst (List.replicate (Int.toNat 19) [V.bl true]).flatten)) (.ref P0) (.list [.bool true, .bool true, .bool true, .bool true, .bool true, .bool true, .bool true, .bool true, .bool true, .bool true, .bool true, .bool true, .bool true, .bool true, .bool true, .bool true, .bool true, .bool true, .bool true]) := .lst (SqL.of upd_same) (.cons (.bl _) (.cons (.bl _) (.cons (.bl _) (.cons (.bl _) (.cons (.bl _) (.cons (.bl _) (.cons (.bl _) (.cons (.bl _) (.cons (.bl _) (.cons (.bl _) (.cons (.bl _) (.cons (.bl _) (.cons (.bl _) (.cons (.bl _) (.cons (.bl _) (.cons (.bl _) (.cons (.bl _) (.cons (.bl _) (.cons (.bl _) .nil)))))))))))))))))))
    refine eqDT (d := .list [.bool true, .bool true, .bool true, .bool true, .bool true, .bool true, .bool true, .bool true, .bool true, .bool true, .bool true, .bool true, .bool true, .bool true, .bool true, .bool true, .bool true, .bool true, .bool true]) (.lst (SqL.of ((sL.trans sP) _ _ hS)) (.cons (.bl _) (.cons (.bl _) (.cons (.bl _) (.cons (.bl _) (.cons (.bl _) (.cons (.bl _) (.cons (.bl _) (.cons (.bl _) (.cons (.bl _) (.cons (.bl _) (.cons (.bl _) (.cons (.bl _) (.cons (.bl _) (.cons (.bl _) (.cons (.bl _) (.cons (.bl _) (.cons (.bl _) (.cons (.bl _) (.cons (.bl _) .nil)))))))))))))))))))) dP rfl rfl (by kernel_rfl) ?_
    exact q _ (sB.trans (sL.trans sP))

theorem scRight : FnScope ["_law_spring_here", "_law_name_here"] ["_law_spring_here"] (defScope sRight) := ⟨rfl, rfl, rfl, by decide +kernel, rfl, by decide +kernel, by decide +kernel⟩
theorem ok_right {C : Addr} (d : Dd K mg "_law_right" sRight ["_law_spring_here"]) (dS : Dd K mg "_law_some_of" sSome ["_law_spring_here", "_law_things"]) (dG : Dd K mg "_law_gulp" sGulp ["_law_spring_here", "_law_many"]) (dF1 : Dd K mg "_law_first_right" sFirst35 ["_law_name_here"]) (dF2 : Dd K mg "_law_second_right" sSecond35 ["_law_name_here"]) (B : Bt mg)
    (GF1 : FnOk P w K mg base CX0 9 dF1.f dF1.fd ["_law_name_here"] (spName35 K C)) (GF2 : FnOk P w K mg base CX0 9 dF2.f dF2.fd ["_law_name_here"] (spName35 K C)) :
    FnOk P w K mg base CX0 10 d.f d.fd ["_law_spring_here"] spRight := by
  have GS : FnOk P w K mg base CX0 3 dS.f dS.fd ["_law_spring_here", "_law_things"] (spSome K) := ok_some dS.F dG.F dG.b dG.g B
  refine d.F.ok scRight (fun vs H Q E h => ?_) (fun cdv A outer s H vs Q E hr0 h => ?_)
  · obtain ⟨_, rfl, _⟩ := h
    rfl
  · obtain ⟨a, rfl, hS, q⟩ := h
    have hr : Room 9 _ := hr0.mono (by decide)
    have hr3 : Room 3 _ := hr0.mono (by decide)
    have nd := scRight.nd
    refine ⟨_, (Evl.pss_cut (ps_set (i := 1) nd rfl (.inl rfl) (pe_call GS hr3 (by rfl) dS.g dS.F.kp dS.b .nil pass0 (pa_cons (pv 0) (pa_cons (pe_lst (pa_cons pe_str (pa_cons pe_str (pa_cons pe_str (pa_cons pe_str (pa_cons pe_str (pa_cons pe_str pa_nil))))))) pa_nil))))
  (pss_one (ps_ret (pe_and (pe_call GF1 hr (by rfl) dF1.g dF1.F.kp dF1.b .nil pass0 (pa_cons (pv 1) pa_nil)) (pe_one (pe_call GF2 hr (by rfl) dF2.g dF2.F.kp dF2.b .nil pass0 (pa_cons (pv 1) pa_nil))))))), ?_⟩
    refine ⟨fun σ' H' => ∃ z : Str, σ' = [some (.ref a), some (.str z)] ∧ Six z ∧ But a H H', ?_, ?_⟩
    · refine ⟨_, rfl, (by show 6 ≤ sizeLine; decide), fun T nT => ?_⟩
      have sT := same_upd nT (o := .lst [V.str "K", V.str "k", V.str "t", V.str "Tsd", V.str "th", V.str "q"])
      refine nil_go ?_
      refine ⟨a, T, _, rfl, hS.same sT, .inl (SqL.of upd_same), fun e => ?_, List.cons_ne_nil _ _, by show 6 < 1000; decide, fun v H' hv _ b => ?_⟩
      · obtain ⟨_, _, _, h⟩ := hS
        rw [← e, nT] at h
        cases h
      · have hb := (Same.but sT).trans b
        simp only [List.mem_cons, List.not_mem_nil, or_false] at hv
        rcases hv with rfl | rfl | rfl | rfl | rfl | rfl
        · exact ⟨_, rfl, .inl rfl, hb⟩
        · exact ⟨_, rfl, .inr (.inl rfl), hb⟩
        · exact ⟨_, rfl, .inr (.inr (.inl rfl)), hb⟩
        · exact ⟨_, rfl, .inr (.inr (.inr (.inl rfl))), hb⟩
        · exact ⟨_, rfl, .inr (.inr (.inr (.inr (.inl rfl)))), hb⟩
        · exact ⟨_, rfl, .inr (.inr (.inr (.inr (.inr rfl)))), hb⟩
    rintro σ' H1 ⟨z, rfl, hz, b⟩
    refine ⟨_, rfl, z, rfl, hz, fun H2 s2 => ⟨_, rfl, iteY7 rfl ?_⟩⟩
    exact ⟨_, rfl, z, rfl, hz, fun H3 s3 => q _ (b.trans (Same.but (s2.trans s3)))⟩
end
end My

namespace My
open PySem PySem.Spec PyProof.Rows L2
def mkD {K : PySem.W.Frag} {mg : Str → Option Value} {h : Heap} {x : Str} {st : Stmt} {ps : List Str} {f : Addr} {oc : Value} {od an : Option Addr} {sl : Array (Option Value)} {kV dc pm cd ct : Value} (X : K.In h) (G : h.Ns mainGlobals mg)
    (b : ∀ (kV doc pm : Value) (an : Option Addr) (cdv ct : Value) (us : List Value), us.length = ps.length → bindArgs (PySem.W.fnOf x x (defArgs st) (defBody st) (defScope st) .none kV doc pm an cdv ct) ⟨us, []⟩ = pure (ps.zip us))
    (a : PySem.W.nsIn K mainGlobals x = some (some (.ref f))) (l : K.lookup f = some ⟨oc, od, .func (PySem.W.fnOf x x (defArgs st) (defBody st) (defScope st) .none kV dc pm an cd ct), sl⟩) (c : PySem.W.codeIn K cd x = true) (k : PySem.W.keepIn K (.ref f) = true) : Dd K mg x st ps :=
  ⟨f, _, fun_mk l c k, (fun_mk l c k).binds b, PySem.W.mg_of X G a⟩
def mkL {K : PySem.W.Frag} {mg : Str → Option Value} {h : Heap} {C f : Addr} {oc : Value} {od an : Option Addr} {sl : Array (Option Value)} {kV dc pm cd ct : Value} (X : K.In h) (G : h.Ns mainGlobals mg)
    (aC : PySem.W.nsIn K mainGlobals "Ladder" = some (some (.ref C))) (a : PySem.W.findIn K (.ref C) "__init__" = some (some (.ref f))) (i : PySem.W.isFn K (.ref f) = true)
    (l : K.lookup f = some ⟨oc, od, .func (PySem.W.fnOf "__init__" "Ladder.__init__" (defArgs sLInit) (defBody sLInit) (defScope sLInit) .none kV dc pm an cd ct), sl⟩) (c : PySem.W.codeIn K cd "Ladder.__init__" = true) (k : PySem.W.keepIn K (.ref f) = true)
    (pg : PySem.W.plainGet K C Str.empty = true) (hd : PySem.W.hasDictIn K C = true) (po : PySem.W.plainOver K C = true) (sa : PySem.W.findIn K (.ref C) "__setattr__" = some (some (.builtin "object.__setattr__"))) (mk : PySem.W.makesIn K C = true) (kc : PySem.W.keepIn K (.ref C) = true)
    (n1 : PySem.W.findIn K (.ref C) "units" = some none) (n2 : PySem.W.findIn K (.ref C) "decimals" = some none) (n3 : PySem.W.findIn K (.ref C) "rounding" = some none) (n4 : PySem.W.findIn K (.ref C) "carry" = some none) (n5 : PySem.W.findIn K (.ref C) "least" = some none) (n6 : PySem.W.findIn K (.ref C) "told" = some none) (n7 : PySem.W.findIn K (.ref C) "steps" = some none) (n8 : PySem.W.findIn K (.ref C) "thresholds" = some none)
    (i1 : PySem.W.findIn K (.ref C) "__class__" = some (some (.builtin "object.__class__"))) (i2 : PySem.W.specialIn K (.builtin "object.__class__") "__get__" = some (some (.builtin "getset_descriptor.__get__"))) (i3 : PySem.W.takesIn K (.builtin "object.__class__") = some true)
    (i4 : PySem.W.mroIn K C (.type "object") = some true) : { L : LadC K mg // LadI K L.C } :=
  ⟨⟨C, f, _, fun_mk l c k, ⟨mk, a, i, kc⟩, PySem.W.mg_of X G aC, ⟨pg, hd, po, sa⟩, n1, n2, n3, n4, n5, n6, n7, n8⟩, ⟨i1, i2, i3, i4, (by unfold PySem.W.kitOne; rw [if_pos (beq_self_eq_true _)])⟩⟩
theorem mkParts {K : PySem.W.Frag} {mg : Str → Option Value} {h : Heap} {a : Addr} {dd : Option Addr} {sl : Array (Option Value)} {n : Nat} {t1 t2 t3 t4 : Tok} (X : K.In h) (G : h.Ns mainGlobals mg) (ha : PySem.W.nsIn K mainGlobals "PARTS" = some (some (.ref a)))
    (l : K.lookup a = some ⟨.type "tuple", dd, .seq #[.int 1 t1, .int 10 t2, .int 100 t3, .int 1000 t4] n, sl⟩) : ∃ a, mg "PARTS" = some (.ref a) ∧ ∀ H, SqT K H a [.int 1, .int 10, .int 100, .int 1000] :=
  ⟨a, PySem.W.mg_of X G ha, fun H => .inr ⟨_, _, _, l, rfl, rfl, (by show 4 ≤ sizeLine; decide), .cons ⟨_, rfl⟩ (.cons ⟨_, rfl⟩ (.cons ⟨_, rfl⟩ (.cons ⟨_, rfl⟩ .nil)))⟩⟩
theorem mkRounds {K : PySem.W.Frag} {mg : Str → Option Value} {h : Heap} {a : Addr} {dd : Option Addr} {sl : Array (Option Value)} {n : Nat} {t1 t2 t3 t4 : Tok} (X : K.In h) (G : h.Ns mainGlobals mg) (ha : PySem.W.nsIn K mainGlobals "ROUNDINGS" = some (some (.ref a)))
    (l : K.lookup a = some ⟨.type "tuple", dd, .seq #[.str "down" t1, .str "up" t2, .str "near" t3, .str "even" t4] n, sl⟩) : ∃ a, mg "ROUNDINGS" = some (.ref a) ∧ ∀ H, SqT K H a [.str "down", .str "up", .str "near", .str "even"] :=
  ⟨a, PySem.W.mg_of X G ha, fun H => .inr ⟨_, _, _, l, rfl, rfl, (by show 4 ≤ sizeLine; decide), .cons ⟨_, rfl⟩ (.cons ⟨_, rfl⟩ (.cons ⟨_, rfl⟩ (.cons ⟨_, rfl⟩ .nil)))⟩⟩
theorem mkG {K : PySem.W.Frag} {mg : Str → Option Value} {h : Heap} {x : Str} {v u : Value} (X : K.In h) (G : h.Ns mainGlobals mg) (a : PySem.W.nsIn K mainGlobals x = some (some v)) (e : v = u) : mg x = some u := e ▸ PySem.W.mg_of X G a
theorem mkN {K : PySem.W.Frag} {mg : Str → Option Value} {h : Heap} {x : Str} (X : K.In h) (G : h.Ns mainGlobals mg) (a : PySem.W.nsIn K mainGlobals x = some none) : mg x = none := PySem.W.mg_none_of X G a
def mkLD {K : PySem.W.Frag} {mg : Str → Option Value} {h : Heap} {C f : Addr} {oc : Value} {od an : Option Addr} {sl : Array (Option Value)} {Dk : Addr} {dc pm cd ct uc ul : Value} (X : K.In h) (G : h.Ns mainGlobals mg)
    (aC : PySem.W.nsIn K mainGlobals "Ladder" = some (some (.ref C))) (a : PySem.W.findIn K (.ref C) "__init__" = some (some (.ref f))) (i : PySem.W.isFn K (.ref f) = true)
    (l : K.lookup f = some ⟨oc, od, .func (PySem.W.fnOf "__init__" "Ladder.__init__" (defArgs sLInit) (defBody sLInit) (defScope sLInit) .none (.ref Dk) dc pm an cd ct), sl⟩) (c : PySem.W.codeIn K cd "Ladder.__init__" = true) (k : PySem.W.keepIn K (.ref f) = true)
    (pg : PySem.W.plainGet K C Str.empty = true) (hd : PySem.W.hasDictIn K C = true) (po : PySem.W.plainOver K C = true) (sa : PySem.W.findIn K (.ref C) "__setattr__" = some (some (.builtin "object.__setattr__"))) (mk : PySem.W.makesIn K C = true) (kc : PySem.W.keepIn K (.ref C) = true)
    (n1 : PySem.W.findIn K (.ref C) "units" = some none) (n2 : PySem.W.findIn K (.ref C) "decimals" = some none) (n3 : PySem.W.findIn K (.ref C) "rounding" = some none) (n4 : PySem.W.findIn K (.ref C) "carry" = some none) (n5 : PySem.W.findIn K (.ref C) "least" = some none) (n6 : PySem.W.findIn K (.ref C) "told" = some none) (n7 : PySem.W.findIn K (.ref C) "steps" = some none) (n8 : PySem.W.findIn K (.ref C) "thresholds" = some none)
    (i1 : PySem.W.findIn K (.ref C) "__class__" = some (some (.builtin "object.__class__"))) (i2 : PySem.W.specialIn K (.builtin "object.__class__") "__get__" = some (some (.builtin "getset_descriptor.__get__"))) (i3 : PySem.W.takesIn K (.builtin "object.__class__") = some true)
    (i4 : PySem.W.mroIn K C (.type "object") = some true) (u1 : PySem.W.nsIn K Dk "carry" = some (some uc)) (r1 : RelV (.bl true) uc) (u2 : PySem.W.nsIn K Dk "least" = some (some ul)) (r2 : RelV (.int 1) ul) : { L : LadC K mg // LadI K L.C ∧ LadD K L.f L.fd } :=
  ⟨(mkL X G aC a i l c k pg hd po sa mk kc n1 n2 n3 n4 n5 n6 n7 n8 i1 i2 i3 i4).1, (mkL X G aC a i l c k pg hd po sa mk kc n1 n2 n3 n4 n5 n6 n7 n8 i1 i2 i3 i4).2, ⟨⟨_, _, _, _, _, _, _, _, _, _, rfl, l, c, .inl ⟨rfl, rfl⟩, .inr ⟨Dk, rfl, fun q hq => by
    rcases List.mem_cons.mp hq with e | hq
    · rw [e]
      exact ⟨uc, u1, r1⟩
    · rcases List.mem_cons.mp hq with e | hq
      · rw [e]
        exact ⟨ul, u2, r2⟩
      · cases hq⟩⟩, k⟩⟩
/-- all together -/
theorem all_mk {l : PySem.W.OpenLaw} {w : World} {K : PySem.W.Frag} {h : Heap} {mg : Str → Option Value} {fa : Addr} (X : K.In h) (G : h.Ns mainGlobals mg) (hfa : mg "law" = some (.ref fa))
    {fl : Addr} {oc : Value} {od an : Option Addr} {sl : Array (Option Value)} {kV dc pm cd ct : Value}
    (la : PySem.W.nsIn K mainGlobals "law" = some (some (.ref fl))) (ll : K.lookup fl = some ⟨oc, od, .func (PySem.W.fnOf "law" "law" (defArgs sLaw) (defBody sLaw) (defScope sLaw) .none kV dc pm an cd ct), sl⟩) (lc : PySem.W.codeIn K cd "law" = true) (lk : PySem.W.keepIn K (.ref fl) = true)
    (B : Bt mg) (Gk : Gc K mg) (L : { L : LadC K mg // LadI K L.C ∧ LadD K L.f L.fd }) (gM : ∃ t, mg "MOST_DIGITS" = some (.int 24 t)) (b_sum : mg "sum" = none) (c_MOST_SIGHTS : ∃ t, mg "MOST_SIGHTS" = some (.int 4 t)) (c_MOST_PLACE : ∃ t, mg "MOST_PLACE" = some (.int 1000000000 t)) (c_ENOUGH_CHANGES_alike : ∃ t, mg "ENOUGH_CHANGES_alike" = some (.int 3 t)) (c_ENOUGH_CHANGES_tells : ∃ t, mg "ENOUGH_CHANGES_tells" = some (.int 6 t))
    (dInteger : Dd K mg "is_integer" sInteger ["value"])
    (dWithin : Dd K mg "is_within" sWithin ["value", "low", "high"])
    (dUnit : Dd K mg "is_unit" sUnit ["unit"])
    (dUName : Dd K mg "is_unit_name" sUName ["name"])
    (dFits : Dd K mg "fits_behind" sFits ["before", "unit"])
    (dCUnits : Dd K mg "check_units" sCUnits ["units"])
    (dCDec : Dd K mg "check_decimals" sCDec ["units", "decimals"])
    (dCRnd : Dd K mg "check_rounding" sCRnd ["rounding"])
    (dPlaced : Dd K mg "placed" sPlaced ["ladder", "number"])
    (dRounded : Dd K mg "rounded" sRounded ["number", "step", "rounding"])
    (dGoes : Dd K mg "goes_up" sGoes ["below", "rest", "step", "rounding"])
    (dCar : Dd K mg "is_carried" sCar ["ladder", "place", "mark"])
    (dWritten : Dd K mg "written" sWritten ["ladder", "place", "mark"])
    (dFigOf : Dd K mg "figure_of" sFigOf ["ladder", "number"])
    (dShow : Dd K mg "show" sShow ["ladder", "number"])
    (dCLad : Dd K mg "check_ladder" sCLad ["ladder"])
    (dCNum : Dd K mg "check_number" sCNum ["number"])
    (dWorth : Dd K mg "worth" sWorth ["ladder", "text"])
    (dPFig : Dd K mg "parts_of_figure" sPFig ["ladder", "text"])
    (dPartsOf : Dd K mg "parts_of" sPartsOf ["ladder", "text"])
    (dPlaceU : Dd K mg "place_of_unit" sPlaceU ["ladder", "name"])
    (dIsMark : Dd K mg "is_mark" sIsMark ["digits"])
    (dFirstR : Dd K mg "first_rounded" sFirstR ["mark", "step", "rounding"])
    (dStartOf : Dd K mg "start_of" sStartOf ["ladder", "place"])
    (dNums : Dd K mg "numbers_shown" sNums ["ladder", "place", "mark"])
    (dHidden : Dd K mg "hidden" sHidden ["ladder", "number"])
    (dRangeOf : Dd K mg "range_of" sRangeOf ["ladder", "text"])
    (dRShown : Dd K mg "range_of_shown" sRShown ["ladder", "text"])
    (dNextF : Dd K mg "next_figure" sNextF ["ladder", "text"])
    (dPrevF : Dd K mg "previous_figure" sPrevF ["ladder", "text"])
    (dFirstMark : Dd K mg "first_mark" sFirstMark ["ladder", "place"])
    (dLastMark : Dd K mg "last_mark" sLastMark ["ladder", "place"])
    (dFiguresB : Dd K mg "figures_before" sFiguresB ["ladder", "number"])
    (dFiguresBU : Dd K mg "figures_before_unit" sFiguresBU ["ladder", "unit"])
    (dPlaceOf : Dd K mg "place_of" sPlaceOf ["ladder", "text"])
    (dFigureAt : Dd K mg "figure_at" sFigureAt ["ladder", "place"])
    (dForms : Dd K mg "forms" sForms ["ladder", "low", "high"])
    (dIsReached : Dd K mg "is_reached" sReached ["ladder", "place", "mark"])
    (dIsShown : Dd K mg "is_shown" sIsShown ["ladder", "text"])
    (dTell : Dd K mg "telling_ranges" sTell ["ladder", "unit", "last"])
    (dMany : Dd K mg "many_numbers" sMany ["ends"])
    (dWidest : Dd K mg "widest" sWidest ["ladder", "number"])
    (dStarts : Dd K mg "starts_of" sStarts ["ladder"])
    (dNextC : Dd K mg "next_changes" sNextC ["ladder", "number", "many"])
    (dPoss : Dd K mg "possible_first_ones" sPoss ["ladder", "other"])
    (dFirstU : Dd K mg "first_unlike" sFirstU ["ladder", "other"])
    (dFirstD : Dd K mg "first_drift" sFirstD ["ladder"])
    (dIsChg : Dd K mg "is_change" sIsChg ["ladder", "number"])
    (dPossC : Dd K mg "possible_changes" sPossC ["ladder", "other"])
    (dFirstT : Dd K mg "first_untold" sFirstT ["ladder", "other"])
    (dTells : Dd K mg "tells" sTells ["ladder", "other"])
    (dIsSight : Dd K mg "is_sight" sIsSight ["sight"])
    (dCSights : Dd K mg "check_sights" sCSights ["sights"])
    (dCommonR : Dd K mg "common_range" sCommonR ["sights"])
    (dNumsOf : Dd K mg "numbers_of" sNumsOf ["sights"])
    (dNeeded : Dd K mg "needed" sNeeded ["sights"])
    (dFigsIn : Dd K mg "figures_in" sFigsIn ["ladder", "text", "other"])
    (dSpring : Dd K mg "_law_spring" sSpring ["_law_script", "_law_k"])
    (dGulp : Dd K mg "_law_gulp" sGulp ["_law_spring_here", "_law_many"])
    (dSome : Dd K mg "_law_some_of" sSome ["_law_spring_here", "_law_things"])
    (dF1 : Dd K mg "_law_first_right" sFirst35 ["_law_name_here"])
    (dF2 : Dd K mg "_law_second_right" sSecond35 ["_law_name_here"])
    (dRight : Dd K mg "_law_right" sRight ["_law_spring_here"]) :
    ∃ fd : FuncData, (∀ (s : Shared) (v : Value), BindsTo s fd ⟨[v], []⟩ [("_law_script", v)]) ∧ ∀ base : Heap, K.In base → base.Ns mainGlobals mg → FnOk l.prog w K mg base CX0 11 fa fd ["_law_script"] (spLaw K) := by
  have e := hfa.symm.trans (PySem.W.mg_of X G la)
  cases e
  obtain ⟨L, I, LD⟩ := L
  refine ⟨_, fun s v => .of_eq rfl, fun base _ _ => ok_law (kR := 8) (fun_mk (st := sLaw) ll lc lk) dSpring.F dSpring.b dSpring.g dRight.F.kp ?_ dRight.b dRight.g B⟩
  have GC := ok_clad (P := l.prog) (w := w) (base := base) dCLad L I B
  have GPO := ok_partsof (P := l.prog) (w := w) (base := base) dPartsOf dPlaceU dIsMark dWritten L B Gk gM
  have GF := ok_pfig (P := l.prog) (w := w) (base := base) dPFig dPartsOf GPO
  have GNu := ok_nums (P := l.prog) (w := w) (base := base) dNums dStartOf dFirstR L B
  have GLI := ok_linit (P := l.prog) (w := w) (base := base) L dCUnits dUnit dUName ⟨dWithin, dInteger⟩ dFits dCDec dCRnd B Gk
  have GPl := ok_placed (P := l.prog) (w := w) (base := base) dPlaced dRounded dGoes dCar L B
  have GFo := ok_figof (P := l.prog) (w := w) (base := base) dFigOf dPlaced dRounded dGoes dCar dWritten L B
  have GSh := ok_show (P := l.prog) (w := w) (base := base) dShow dFigOf dCLad dCNum ⟨dWithin, dInteger⟩ dPlaced dRounded dGoes dCar dWritten L I B Gk
  have GWo := ok_worth (P := l.prog) (w := w) (base := base) dWorth dPFig dPartsOf dPlaceU dIsMark dWritten dCLad L I B Gk gM
  have GRO := ok_rangeof (P := l.prog) (w := w) (base := base) dRangeOf dPFig dCLad dNums GF GC GNu
  have GRS := ok_rshown (P := l.prog) (w := w) (base := base) dRShown dRangeOf GRO
  have GIs := ok_isshown (P := l.prog) (w := w) (base := base) dIsShown dCLad dPFig dIsReached GC GF (ok_reached dIsReached dPlaced L rfl B GPl)
  have GHi := ok_hidden (P := l.prog) (w := w) (base := base) dHidden dCLad dCNum ⟨dWithin, dInteger⟩ dPlaced dRounded dGoes dCar dNums dStartOf dFirstR L I B Gk
  have GNx := ok_nextf (P := l.prog) (w := w) (base := base) dNextF dRShown dFigOf GRS GFo
  have GFM := ok_firstmark (P := l.prog) (w := w) (base := base) dFirstMark L
  have GLM := ok_lastmark (P := l.prog) (w := w) (base := base) dLastMark dStartOf dFirstR dRounded dGoes L B
  have GBU := ok_figbu (P := l.prog) (w := w) (base := base) dFiguresBU dLastMark dFirstMark B b_sum GLM GFM
  have GB := ok_figb (P := l.prog) (w := w) (base := base) dFiguresB dFiguresBU dFirstMark dPlaced GBU GFM GPl
  have GPf := ok_placeof (P := l.prog) (w := w) (base := base) dPlaceOf dRShown dFiguresB GRS GB
  have GFa := ok_figat (P := l.prog) (w := w) (base := base) dFigureAt dFiguresBU dFirstMark dCLad ⟨dWithin, dInteger⟩ dWritten L rfl B c_MOST_PLACE GBU GFM GC (ok_written dWritten L B)
  have GFs := ok_forms (P := l.prog) (w := w) (base := base) dForms dCLad dCNum dFiguresB GC (ok_cnum dCNum ⟨dWithin, dInteger⟩ B Gk) GB
  have GS := ok_startof (P := l.prog) (w := w) (base := base) dStartOf dFirstR L
  have GSt := ok_starts (P := l.prog) (w := w) (base := base) dStarts dStartOf L rfl B GS
  have GN := ok_nextc (P := l.prog) (w := w) (base := base) dNextC dFirstR dPlaced L rfl B (ok_firstr dFirstR) GPl
  have GP := ok_poss (P := l.prog) (w := w) (base := base) dPoss dStarts dNextC c_ENOUGH_CHANGES_alike GSt GN
  have GU := ok_firstu (P := l.prog) (w := w) (base := base) dFirstU dPoss dCLad dFigOf B GP GC GFo
  have GFd := ok_firstd (P := l.prog) (w := w) (base := base) dFirstD dCLad dLastMark dStartOf dNums L B GC GLM GS GNu
  have GI := ok_ischg (P := l.prog) (w := w) (base := base) dIsChg dFigOf GFo
  have GPC := ok_possc (P := l.prog) (w := w) (base := base) dPossC dStarts dNextC c_ENOUGH_CHANGES_tells GSt GN
  have GFt := ok_firstt (P := l.prog) (w := w) (base := base) dFirstT dPossC dCLad dIsChg B GPC GC GI
  have GCS := ok_csights (P := l.prog) (w := w) (base := base) dCSights dIsSight B c_MOST_SIGHTS (ok_issight dIsSight dPartsOf L I B GPO)
  have GNo := ok_numsof (P := l.prog) (w := w) (base := base) dNumsOf dCSights dCommonR GCS (ok_commonr dCommonR dRangeOf B GRO)
  have GPv := ok_prevf (P := l.prog) (w := w) (base := base) dPrevF dRShown dFigOf GRS GFo
  have GTl := ok_tell (P := l.prog) (w := w) (base := base) dTell dFirstMark dNums B GFM GNu
  have GWi := ok_wide (P := l.prog) (w := w) (base := base) dWidest dCLad dCNum dPlaced dLastMark dTell dMany B GC (ok_cnum dCNum ⟨dWithin, dInteger⟩ B Gk) GPl GLM GTl
  have GTe := ok_tells (P := l.prog) (w := w) (base := base) dTells dFirstT GFt
  have GCR := ok_commonr (P := l.prog) (w := w) (base := base) dCommonR dRangeOf B GRO
  have GNe := ok_needed (P := l.prog) (w := w) (base := base) dNeeded dCSights dCommonR B GCS GCR
  have GFg := ok_figsin (P := l.prog) (w := w) (base := base) dFigsIn dRangeOf dCLad dFigOf GRO GC GFo
  have GF1 := ok_first35 (P := l.prog) (w := w) (base := base) dF1 L LD dShow dRangeOf dHidden dNextF dPrevF dWidest B GLI GSh GRO GHi GNx GPv GWi
  have GF2 := ok_second35 (P := l.prog) (w := w) (base := base) dF2 L LD dShow dWorth dRangeOf dIsShown dPlaceOf dFigureAt dForms dFirstU dFirstD dFirstT dNumsOf dTells dNeeded dFigsIn B GLI GSh GWo GRO GIs GPf GFa GFs GU GFd GFt GNo GTe GNe GFg
  exact ok_right dRight dSome dGulp dF1 dF2 B GF1 GF2
end My

open PySem PySem.W PyProof.Rows
set_option maxRecDepth 100000 in
set_option maxHeartbeats 0 in
theorem PySem.Challenge.cw_shortfigures_k35_known_ladders_holds : PySem.Challenge.rw_shortfigures_k35_known_ladders.Holds := by
  w_on; o_law; k_head; (case hw => w_witness2)
  k_fill
  refine L2.walk_of (l := PySem.Challenge.rw_shortfigures_k35_known_ladders) (n := 63) (k := 11) (x := "_law_script") (CX := fun _ => L2.CX0) (sp := fun w => My.spLaw _) rfl (by decide) rfl ⟨rfl, by decide, by decide⟩ (fun w h Y => PySem.W.kIn_of Y) ?F (fun _ _ a ns hl _ hS => ⟨a, ns, rfl, hS, hl, fun _ => rfl⟩) (fun _ _ _ _ _ h => h)
  case F =>
    intro w mg fa h KX G hmg
    refine' My.all_mk KX G hmg ?la ?ll ?lc ?lk ⟨My.mkN KX G ?b0, My.mkN KX G ?b1, My.mkN KX G ?b2, My.mkN KX G ?b3, My.mkN KX G ?b4, My.mkN KX G ?b5, My.mkN KX G ?b6, My.mkN KX G ?b7, My.mkN KX G ?b8, My.mkN KX G ?b9, My.mkN KX G ?b10, My.mkN KX G ?b11, My.mkN KX G ?b12⟩ ⟨⟨_, My.mkG KX G ?g1 ?e1⟩, ⟨_, My.mkG KX G ?g2 ?e2⟩, ⟨_, My.mkG KX G ?g3 ?e3⟩, ⟨_, My.mkG KX G ?g4 ?e4⟩, ⟨_, My.mkG KX G ?g5 ?e5⟩, ⟨_, My.mkG KX G ?g6 ?e6⟩, My.mkParts KX G ?g7 ?g8, My.mkRounds KX G ?g9 ?g10⟩
      (My.mkLD KX G ?LaC ?La ?Li ?Ll ?Lc ?Lk ?Lpg ?Lhd ?Lpo ?Lsa ?Lmk ?Lkc ?Ln1 ?Ln2 ?Ln3 ?Ln4 ?Ln5 ?Ln6 ?Ln7 ?Ln8 ?Li1 ?Li2 ?Li3 ?Li4 ?Lu1 ?Lr1 ?Lu2 ?Lr2)
      ⟨_, My.mkG KX G ?gm ?em⟩
      (My.mkN KX G ?b_sum)
      ⟨_, My.mkG KX G ?c_MOST_SIGHTS ?ce_MOST_SIGHTS⟩
      ⟨_, My.mkG KX G ?c_MOST_PLACE ?ce_MOST_PLACE⟩
      ⟨_, My.mkG KX G ?c_ENOUGH_CHANGES_alike ?ce_ENOUGH_CHANGES_alike⟩
      ⟨_, My.mkG KX G ?c_ENOUGH_CHANGES_tells ?ce_ENOUGH_CHANGES_tells⟩
      (My.mkD (x := "is_integer") (st := My.sInteger) (ps := ["value"]) KX G (fun _ _ _ _ _ _ us hl => match us, hl with | [_], _ => rfl) ?adInteger ?ldInteger ?cdInteger ?kdInteger)
      (My.mkD (x := "is_within") (st := My.sWithin) (ps := ["value", "low", "high"]) KX G (fun _ _ _ _ _ _ us hl => match us, hl with | [_, _, _], _ => rfl) ?adWithin ?ldWithin ?cdWithin ?kdWithin)
      (My.mkD (x := "is_unit") (st := My.sUnit) (ps := ["unit"]) KX G (fun _ _ _ _ _ _ us hl => match us, hl with | [_], _ => rfl) ?adUnit ?ldUnit ?cdUnit ?kdUnit)
      (My.mkD (x := "is_unit_name") (st := My.sUName) (ps := ["name"]) KX G (fun _ _ _ _ _ _ us hl => match us, hl with | [_], _ => rfl) ?adUName ?ldUName ?cdUName ?kdUName)
      (My.mkD (x := "fits_behind") (st := My.sFits) (ps := ["before", "unit"]) KX G (fun _ _ _ _ _ _ us hl => match us, hl with | [_, _], _ => rfl) ?adFits ?ldFits ?cdFits ?kdFits)
      (My.mkD (x := "check_units") (st := My.sCUnits) (ps := ["units"]) KX G (fun _ _ _ _ _ _ us hl => match us, hl with | [_], _ => rfl) ?adCUnits ?ldCUnits ?cdCUnits ?kdCUnits)
      (My.mkD (x := "check_decimals") (st := My.sCDec) (ps := ["units", "decimals"]) KX G (fun _ _ _ _ _ _ us hl => match us, hl with | [_, _], _ => rfl) ?adCDec ?ldCDec ?cdCDec ?kdCDec)
      (My.mkD (x := "check_rounding") (st := My.sCRnd) (ps := ["rounding"]) KX G (fun _ _ _ _ _ _ us hl => match us, hl with | [_], _ => rfl) ?adCRnd ?ldCRnd ?cdCRnd ?kdCRnd)
      (My.mkD (x := "placed") (st := My.sPlaced) (ps := ["ladder", "number"]) KX G (fun _ _ _ _ _ _ us hl => match us, hl with | [_, _], _ => rfl) ?adPlaced ?ldPlaced ?cdPlaced ?kdPlaced)
      (My.mkD (x := "rounded") (st := My.sRounded) (ps := ["number", "step", "rounding"]) KX G (fun _ _ _ _ _ _ us hl => match us, hl with | [_, _, _], _ => rfl) ?adRounded ?ldRounded ?cdRounded ?kdRounded)
      (My.mkD (x := "goes_up") (st := My.sGoes) (ps := ["below", "rest", "step", "rounding"]) KX G (fun _ _ _ _ _ _ us hl => match us, hl with | [_, _, _, _], _ => rfl) ?adGoes ?ldGoes ?cdGoes ?kdGoes)
      (My.mkD (x := "is_carried") (st := My.sCar) (ps := ["ladder", "place", "mark"]) KX G (fun _ _ _ _ _ _ us hl => match us, hl with | [_, _, _], _ => rfl) ?adCar ?ldCar ?cdCar ?kdCar)
      (My.mkD (x := "written") (st := My.sWritten) (ps := ["ladder", "place", "mark"]) KX G (fun _ _ _ _ _ _ us hl => match us, hl with | [_, _, _], _ => rfl) ?adWritten ?ldWritten ?cdWritten ?kdWritten)
      (My.mkD (x := "figure_of") (st := My.sFigOf) (ps := ["ladder", "number"]) KX G (fun _ _ _ _ _ _ us hl => match us, hl with | [_, _], _ => rfl) ?adFigOf ?ldFigOf ?cdFigOf ?kdFigOf)
      (My.mkD (x := "show") (st := My.sShow) (ps := ["ladder", "number"]) KX G (fun _ _ _ _ _ _ us hl => match us, hl with | [_, _], _ => rfl) ?adShow ?ldShow ?cdShow ?kdShow)
      (My.mkD (x := "check_ladder") (st := My.sCLad) (ps := ["ladder"]) KX G (fun _ _ _ _ _ _ us hl => match us, hl with | [_], _ => rfl) ?adCLad ?ldCLad ?cdCLad ?kdCLad)
      (My.mkD (x := "check_number") (st := My.sCNum) (ps := ["number"]) KX G (fun _ _ _ _ _ _ us hl => match us, hl with | [_], _ => rfl) ?adCNum ?ldCNum ?cdCNum ?kdCNum)
      (My.mkD (x := "worth") (st := My.sWorth) (ps := ["ladder", "text"]) KX G (fun _ _ _ _ _ _ us hl => match us, hl with | [_, _], _ => rfl) ?adWorth ?ldWorth ?cdWorth ?kdWorth)
      (My.mkD (x := "parts_of_figure") (st := My.sPFig) (ps := ["ladder", "text"]) KX G (fun _ _ _ _ _ _ us hl => match us, hl with | [_, _], _ => rfl) ?adPFig ?ldPFig ?cdPFig ?kdPFig)
      (My.mkD (x := "parts_of") (st := My.sPartsOf) (ps := ["ladder", "text"]) KX G (fun _ _ _ _ _ _ us hl => match us, hl with | [_, _], _ => rfl) ?adPartsOf ?ldPartsOf ?cdPartsOf ?kdPartsOf)
      (My.mkD (x := "place_of_unit") (st := My.sPlaceU) (ps := ["ladder", "name"]) KX G (fun _ _ _ _ _ _ us hl => match us, hl with | [_, _], _ => rfl) ?adPlaceU ?ldPlaceU ?cdPlaceU ?kdPlaceU)
      (My.mkD (x := "is_mark") (st := My.sIsMark) (ps := ["digits"]) KX G (fun _ _ _ _ _ _ us hl => match us, hl with | [_], _ => rfl) ?adIsMark ?ldIsMark ?cdIsMark ?kdIsMark)
      (My.mkD (x := "first_rounded") (st := My.sFirstR) (ps := ["mark", "step", "rounding"]) KX G (fun _ _ _ _ _ _ us hl => match us, hl with | [_, _, _], _ => rfl) ?adFirstR ?ldFirstR ?cdFirstR ?kdFirstR)
      (My.mkD (x := "start_of") (st := My.sStartOf) (ps := ["ladder", "place"]) KX G (fun _ _ _ _ _ _ us hl => match us, hl with | [_, _], _ => rfl) ?adStartOf ?ldStartOf ?cdStartOf ?kdStartOf)
      (My.mkD (x := "numbers_shown") (st := My.sNums) (ps := ["ladder", "place", "mark"]) KX G (fun _ _ _ _ _ _ us hl => match us, hl with | [_, _, _], _ => rfl) ?adNums ?ldNums ?cdNums ?kdNums)
      (My.mkD (x := "hidden") (st := My.sHidden) (ps := ["ladder", "number"]) KX G (fun _ _ _ _ _ _ us hl => match us, hl with | [_, _], _ => rfl) ?adHidden ?ldHidden ?cdHidden ?kdHidden)
      (My.mkD (x := "range_of") (st := My.sRangeOf) (ps := ["ladder", "text"]) KX G (fun _ _ _ _ _ _ us hl => match us, hl with | [_, _], _ => rfl) ?adRangeOf ?ldRangeOf ?cdRangeOf ?kdRangeOf)
      (My.mkD (x := "range_of_shown") (st := My.sRShown) (ps := ["ladder", "text"]) KX G (fun _ _ _ _ _ _ us hl => match us, hl with | [_, _], _ => rfl) ?adRShown ?ldRShown ?cdRShown ?kdRShown)
      (My.mkD (x := "next_figure") (st := My.sNextF) (ps := ["ladder", "text"]) KX G (fun _ _ _ _ _ _ us hl => match us, hl with | [_, _], _ => rfl) ?adNextF ?ldNextF ?cdNextF ?kdNextF)
      (My.mkD (x := "previous_figure") (st := My.sPrevF) (ps := ["ladder", "text"]) KX G (fun _ _ _ _ _ _ us hl => match us, hl with | [_, _], _ => rfl) ?adPrevF ?ldPrevF ?cdPrevF ?kdPrevF)
      (My.mkD (x := "first_mark") (st := My.sFirstMark) (ps := ["ladder", "place"]) KX G (fun _ _ _ _ _ _ us hl => match us, hl with | [_, _], _ => rfl) ?adFirstMark ?ldFirstMark ?cdFirstMark ?kdFirstMark)
      (My.mkD (x := "last_mark") (st := My.sLastMark) (ps := ["ladder", "place"]) KX G (fun _ _ _ _ _ _ us hl => match us, hl with | [_, _], _ => rfl) ?adLastMark ?ldLastMark ?cdLastMark ?kdLastMark)
      (My.mkD (x := "figures_before") (st := My.sFiguresB) (ps := ["ladder", "number"]) KX G (fun _ _ _ _ _ _ us hl => match us, hl with | [_, _], _ => rfl) ?adFiguresB ?ldFiguresB ?cdFiguresB ?kdFiguresB)
      (My.mkD (x := "figures_before_unit") (st := My.sFiguresBU) (ps := ["ladder", "unit"]) KX G (fun _ _ _ _ _ _ us hl => match us, hl with | [_, _], _ => rfl) ?adFiguresBU ?ldFiguresBU ?cdFiguresBU ?kdFiguresBU)
      (My.mkD (x := "place_of") (st := My.sPlaceOf) (ps := ["ladder", "text"]) KX G (fun _ _ _ _ _ _ us hl => match us, hl with | [_, _], _ => rfl) ?adPlaceOf ?ldPlaceOf ?cdPlaceOf ?kdPlaceOf)
      (My.mkD (x := "figure_at") (st := My.sFigureAt) (ps := ["ladder", "place"]) KX G (fun _ _ _ _ _ _ us hl => match us, hl with | [_, _], _ => rfl) ?adFigureAt ?ldFigureAt ?cdFigureAt ?kdFigureAt)
      (My.mkD (x := "forms") (st := My.sForms) (ps := ["ladder", "low", "high"]) KX G (fun _ _ _ _ _ _ us hl => match us, hl with | [_, _, _], _ => rfl) ?adForms ?ldForms ?cdForms ?kdForms)
      (My.mkD (x := "is_reached") (st := My.sReached) (ps := ["ladder", "place", "mark"]) KX G (fun _ _ _ _ _ _ us hl => match us, hl with | [_, _, _], _ => rfl) ?adIsReached ?ldIsReached ?cdIsReached ?kdIsReached)
      (My.mkD (x := "is_shown") (st := My.sIsShown) (ps := ["ladder", "text"]) KX G (fun _ _ _ _ _ _ us hl => match us, hl with | [_, _], _ => rfl) ?adIsShown ?ldIsShown ?cdIsShown ?kdIsShown)
      (My.mkD (x := "telling_ranges") (st := My.sTell) (ps := ["ladder", "unit", "last"]) KX G (fun _ _ _ _ _ _ us hl => match us, hl with | [_, _, _], _ => rfl) ?adTell ?ldTell ?cdTell ?kdTell)
      (My.mkD (x := "many_numbers") (st := My.sMany) (ps := ["ends"]) KX G (fun _ _ _ _ _ _ us hl => match us, hl with | [_], _ => rfl) ?adMany ?ldMany ?cdMany ?kdMany)
      (My.mkD (x := "widest") (st := My.sWidest) (ps := ["ladder", "number"]) KX G (fun _ _ _ _ _ _ us hl => match us, hl with | [_, _], _ => rfl) ?adWidest ?ldWidest ?cdWidest ?kdWidest)
      (My.mkD (x := "starts_of") (st := My.sStarts) (ps := ["ladder"]) KX G (fun _ _ _ _ _ _ us hl => match us, hl with | [_], _ => rfl) ?adStarts ?ldStarts ?cdStarts ?kdStarts)
      (My.mkD (x := "next_changes") (st := My.sNextC) (ps := ["ladder", "number", "many"]) KX G (fun _ _ _ _ _ _ us hl => match us, hl with | [_, _, _], _ => rfl) ?adNextC ?ldNextC ?cdNextC ?kdNextC)
      (My.mkD (x := "possible_first_ones") (st := My.sPoss) (ps := ["ladder", "other"]) KX G (fun _ _ _ _ _ _ us hl => match us, hl with | [_, _], _ => rfl) ?adPoss ?ldPoss ?cdPoss ?kdPoss)
      (My.mkD (x := "first_unlike") (st := My.sFirstU) (ps := ["ladder", "other"]) KX G (fun _ _ _ _ _ _ us hl => match us, hl with | [_, _], _ => rfl) ?adFirstU ?ldFirstU ?cdFirstU ?kdFirstU)
      (My.mkD (x := "first_drift") (st := My.sFirstD) (ps := ["ladder"]) KX G (fun _ _ _ _ _ _ us hl => match us, hl with | [_], _ => rfl) ?adFirstD ?ldFirstD ?cdFirstD ?kdFirstD)
      (My.mkD (x := "is_change") (st := My.sIsChg) (ps := ["ladder", "number"]) KX G (fun _ _ _ _ _ _ us hl => match us, hl with | [_, _], _ => rfl) ?adIsChg ?ldIsChg ?cdIsChg ?kdIsChg)
      (My.mkD (x := "possible_changes") (st := My.sPossC) (ps := ["ladder", "other"]) KX G (fun _ _ _ _ _ _ us hl => match us, hl with | [_, _], _ => rfl) ?adPossC ?ldPossC ?cdPossC ?kdPossC)
      (My.mkD (x := "first_untold") (st := My.sFirstT) (ps := ["ladder", "other"]) KX G (fun _ _ _ _ _ _ us hl => match us, hl with | [_, _], _ => rfl) ?adFirstT ?ldFirstT ?cdFirstT ?kdFirstT)
      (My.mkD (x := "tells") (st := My.sTells) (ps := ["ladder", "other"]) KX G (fun _ _ _ _ _ _ us hl => match us, hl with | [_, _], _ => rfl) ?adTells ?ldTells ?cdTells ?kdTells)
      (My.mkD (x := "is_sight") (st := My.sIsSight) (ps := ["sight"]) KX G (fun _ _ _ _ _ _ us hl => match us, hl with | [_], _ => rfl) ?adIsSight ?ldIsSight ?cdIsSight ?kdIsSight)
      (My.mkD (x := "check_sights") (st := My.sCSights) (ps := ["sights"]) KX G (fun _ _ _ _ _ _ us hl => match us, hl with | [_], _ => rfl) ?adCSights ?ldCSights ?cdCSights ?kdCSights)
      (My.mkD (x := "common_range") (st := My.sCommonR) (ps := ["sights"]) KX G (fun _ _ _ _ _ _ us hl => match us, hl with | [_], _ => rfl) ?adCommonR ?ldCommonR ?cdCommonR ?kdCommonR)
      (My.mkD (x := "numbers_of") (st := My.sNumsOf) (ps := ["sights"]) KX G (fun _ _ _ _ _ _ us hl => match us, hl with | [_], _ => rfl) ?adNumsOf ?ldNumsOf ?cdNumsOf ?kdNumsOf)
      (My.mkD (x := "needed") (st := My.sNeeded) (ps := ["sights"]) KX G (fun _ _ _ _ _ _ us hl => match us, hl with | [_], _ => rfl) ?adNeeded ?ldNeeded ?cdNeeded ?kdNeeded)
      (My.mkD (x := "figures_in") (st := My.sFigsIn) (ps := ["ladder", "text", "other"]) KX G (fun _ _ _ _ _ _ us hl => match us, hl with | [_, _, _], _ => rfl) ?adFigsIn ?ldFigsIn ?cdFigsIn ?kdFigsIn)
      (My.mkD (x := "_law_spring") (st := My.sSpring) (ps := ["_law_script", "_law_k"]) KX G (fun _ _ _ _ _ _ us hl => match us, hl with | [_, _], _ => rfl) ?adSpring ?ldSpring ?cdSpring ?kdSpring)
      (My.mkD (x := "_law_gulp") (st := My.sGulp) (ps := ["_law_spring_here", "_law_many"]) KX G (fun _ _ _ _ _ _ us hl => match us, hl with | [_, _], _ => rfl) ?adGulp ?ldGulp ?cdGulp ?kdGulp)
      (My.mkD (x := "_law_some_of") (st := My.sSome) (ps := ["_law_spring_here", "_law_things"]) KX G (fun _ _ _ _ _ _ us hl => match us, hl with | [_, _], _ => rfl) ?adSome ?ldSome ?cdSome ?kdSome)
      (My.mkD (x := "_law_first_right") (st := My.sFirst35) (ps := ["_law_name_here"]) KX G (fun _ _ _ _ _ _ us hl => match us, hl with | [_], _ => rfl) ?adF1 ?ldF1 ?cdF1 ?kdF1)
      (My.mkD (x := "_law_second_right") (st := My.sSecond35) (ps := ["_law_name_here"]) KX G (fun _ _ _ _ _ _ us hl => match us, hl with | [_], _ => rfl) ?adF2 ?ldF2 ?cdF2 ?kdF2)
      (My.mkD (x := "_law_right") (st := My.sRight) (ps := ["_law_spring_here"]) KX G (fun _ _ _ _ _ _ us hl => match us, hl with | [_], _ => rfl) ?adRight ?ldRight ?cdRight ?kdRight)
    (case la => k_is); (case ll => k_is); (case lc => k_is); (case lk => k_is)
    (case b0 => k_is); (case b1 => k_is); (case b2 => k_is); (case b3 => k_is); (case b4 => k_is); (case b5 => k_is); (case b6 => k_is); (case b7 => k_is); (case b8 => k_is); (case b9 => k_is); (case b10 => k_is); (case b11 => k_is); (case b12 => k_is)
    (case g1 => k_is); (case g2 => k_is); (case g3 => k_is); (case g4 => k_is); (case g5 => k_is); (case g6 => k_is); (case g7 => k_is); (case g8 => k_is); (case g9 => k_is); (case g10 => k_is)
    (case e1 => exact rfl); (case e2 => exact rfl); (case e3 => exact rfl); (case e4 => exact rfl); (case e5 => exact rfl); (case e6 => exact rfl)
    (case LaC => k_is); (case La => k_is); (case Li => k_is); (case Ll => k_is); (case Lc => k_is); (case Lk => k_is); (case Lpg => k_is); (case Lhd => k_is); (case Lpo => k_is); (case Lsa => k_is); (case Lmk => k_is); (case Lkc => k_is); (case Ln1 => k_is); (case Ln2 => k_is); (case Ln3 => k_is); (case Ln4 => k_is); (case Ln5 => k_is); (case Ln6 => k_is); (case Ln7 => k_is); (case Ln8 => k_is); (case Li1 => k_is); (case Li2 => k_is); (case Li3 => k_is); (case Li4 => k_is)
    (case Lu1 => k_is); (case Lr1 => first | exact rfl | exact ⟨_, rfl⟩ | constructor); (case Lu2 => k_is); (case Lr2 => first | exact rfl | exact ⟨_, rfl⟩ | constructor)
    (case gm => k_is); (case em => exact rfl)
    (case b_sum => k_is)
    (case c_MOST_SIGHTS => k_is); (case ce_MOST_SIGHTS => exact rfl)
    (case c_MOST_PLACE => k_is); (case ce_MOST_PLACE => exact rfl)
    (case c_ENOUGH_CHANGES_alike => k_is); (case ce_ENOUGH_CHANGES_alike => exact rfl)
    (case c_ENOUGH_CHANGES_tells => k_is); (case ce_ENOUGH_CHANGES_tells => exact rfl)
    (case adInteger => k_is); (case ldInteger => k_is); (case cdInteger => k_is); (case kdInteger => k_is)
    (case adWithin => k_is); (case ldWithin => k_is); (case cdWithin => k_is); (case kdWithin => k_is)
    (case adUnit => k_is); (case ldUnit => k_is); (case cdUnit => k_is); (case kdUnit => k_is)
    (case adUName => k_is); (case ldUName => k_is); (case cdUName => k_is); (case kdUName => k_is)
    (case adFits => k_is); (case ldFits => k_is); (case cdFits => k_is); (case kdFits => k_is)
    (case adCUnits => k_is); (case ldCUnits => k_is); (case cdCUnits => k_is); (case kdCUnits => k_is)
    (case adCDec => k_is); (case ldCDec => k_is); (case cdCDec => k_is); (case kdCDec => k_is)
    (case adCRnd => k_is); (case ldCRnd => k_is); (case cdCRnd => k_is); (case kdCRnd => k_is)
    (case adPlaced => k_is); (case ldPlaced => k_is); (case cdPlaced => k_is); (case kdPlaced => k_is)
    (case adRounded => k_is); (case ldRounded => k_is); (case cdRounded => k_is); (case kdRounded => k_is)
    (case adGoes => k_is); (case ldGoes => k_is); (case cdGoes => k_is); (case kdGoes => k_is)
    (case adCar => k_is); (case ldCar => k_is); (case cdCar => k_is); (case kdCar => k_is)
    (case adWritten => k_is); (case ldWritten => k_is); (case cdWritten => k_is); (case kdWritten => k_is)
    (case adFigOf => k_is); (case ldFigOf => k_is); (case cdFigOf => k_is); (case kdFigOf => k_is)
    (case adShow => k_is); (case ldShow => k_is); (case cdShow => k_is); (case kdShow => k_is)
    (case adCLad => k_is); (case ldCLad => k_is); (case cdCLad => k_is); (case kdCLad => k_is)
    (case adCNum => k_is); (case ldCNum => k_is); (case cdCNum => k_is); (case kdCNum => k_is)
    (case adWorth => k_is); (case ldWorth => k_is); (case cdWorth => k_is); (case kdWorth => k_is)
    (case adPFig => k_is); (case ldPFig => k_is); (case cdPFig => k_is); (case kdPFig => k_is)
    (case adPartsOf => k_is); (case ldPartsOf => k_is); (case cdPartsOf => k_is); (case kdPartsOf => k_is)
    (case adPlaceU => k_is); (case ldPlaceU => k_is); (case cdPlaceU => k_is); (case kdPlaceU => k_is)
    (case adIsMark => k_is); (case ldIsMark => k_is); (case cdIsMark => k_is); (case kdIsMark => k_is)
    (case adFirstR => k_is); (case ldFirstR => k_is); (case cdFirstR => k_is); (case kdFirstR => k_is)
    (case adStartOf => k_is); (case ldStartOf => k_is); (case cdStartOf => k_is); (case kdStartOf => k_is)
    (case adNums => k_is); (case ldNums => k_is); (case cdNums => k_is); (case kdNums => k_is)
    (case adHidden => k_is); (case ldHidden => k_is); (case cdHidden => k_is); (case kdHidden => k_is)
    (case adRangeOf => k_is); (case ldRangeOf => k_is); (case cdRangeOf => k_is); (case kdRangeOf => k_is)
    (case adRShown => k_is); (case ldRShown => k_is); (case cdRShown => k_is); (case kdRShown => k_is)
    (case adNextF => k_is); (case ldNextF => k_is); (case cdNextF => k_is); (case kdNextF => k_is)
    (case adPrevF => k_is); (case ldPrevF => k_is); (case cdPrevF => k_is); (case kdPrevF => k_is)
    (case adFirstMark => k_is); (case ldFirstMark => k_is); (case cdFirstMark => k_is); (case kdFirstMark => k_is)
    (case adLastMark => k_is); (case ldLastMark => k_is); (case cdLastMark => k_is); (case kdLastMark => k_is)
    (case adFiguresB => k_is); (case ldFiguresB => k_is); (case cdFiguresB => k_is); (case kdFiguresB => k_is)
    (case adFiguresBU => k_is); (case ldFiguresBU => k_is); (case cdFiguresBU => k_is); (case kdFiguresBU => k_is)
    (case adPlaceOf => k_is); (case ldPlaceOf => k_is); (case cdPlaceOf => k_is); (case kdPlaceOf => k_is)
    (case adFigureAt => k_is); (case ldFigureAt => k_is); (case cdFigureAt => k_is); (case kdFigureAt => k_is)
    (case adForms => k_is); (case ldForms => k_is); (case cdForms => k_is); (case kdForms => k_is)
    (case adIsReached => k_is); (case ldIsReached => k_is); (case cdIsReached => k_is); (case kdIsReached => k_is)
    (case adIsShown => k_is); (case ldIsShown => k_is); (case cdIsShown => k_is); (case kdIsShown => k_is)
    (case adTell => k_is); (case ldTell => k_is); (case cdTell => k_is); (case kdTell => k_is)
    (case adMany => k_is); (case ldMany => k_is); (case cdMany => k_is); (case kdMany => k_is)
    (case adWidest => k_is); (case ldWidest => k_is); (case cdWidest => k_is); (case kdWidest => k_is)
    (case adStarts => k_is); (case ldStarts => k_is); (case cdStarts => k_is); (case kdStarts => k_is)
    (case adNextC => k_is); (case ldNextC => k_is); (case cdNextC => k_is); (case kdNextC => k_is)
    (case adPoss => k_is); (case ldPoss => k_is); (case cdPoss => k_is); (case kdPoss => k_is)
    (case adFirstU => k_is); (case ldFirstU => k_is); (case cdFirstU => k_is); (case kdFirstU => k_is)
    (case adFirstD => k_is); (case ldFirstD => k_is); (case cdFirstD => k_is); (case kdFirstD => k_is)
    (case adIsChg => k_is); (case ldIsChg => k_is); (case cdIsChg => k_is); (case kdIsChg => k_is)
    (case adPossC => k_is); (case ldPossC => k_is); (case cdPossC => k_is); (case kdPossC => k_is)
    (case adFirstT => k_is); (case ldFirstT => k_is); (case cdFirstT => k_is); (case kdFirstT => k_is)
    (case adTells => k_is); (case ldTells => k_is); (case cdTells => k_is); (case kdTells => k_is)
    (case adIsSight => k_is); (case ldIsSight => k_is); (case cdIsSight => k_is); (case kdIsSight => k_is)
    (case adCSights => k_is); (case ldCSights => k_is); (case cdCSights => k_is); (case kdCSights => k_is)
    (case adCommonR => k_is); (case ldCommonR => k_is); (case cdCommonR => k_is); (case kdCommonR => k_is)
    (case adNumsOf => k_is); (case ldNumsOf => k_is); (case cdNumsOf => k_is); (case kdNumsOf => k_is)
    (case adNeeded => k_is); (case ldNeeded => k_is); (case cdNeeded => k_is); (case kdNeeded => k_is)
    (case adFigsIn => k_is); (case ldFigsIn => k_is); (case cdFigsIn => k_is); (case kdFigsIn => k_is)
    (case adSpring => k_is); (case ldSpring => k_is); (case cdSpring => k_is); (case kdSpring => k_is)
    (case adGulp => k_is); (case ldGulp => k_is); (case cdGulp => k_is); (case kdGulp => k_is)
    (case adSome => k_is); (case ldSome => k_is); (case cdSome => k_is); (case kdSome => k_is)
    (case adF1 => k_is); (case ldF1 => k_is); (case cdF1 => k_is); (case kdF1 => k_is)
    (case adF2 => k_is); (case ldF2 => k_is); (case cdF2 => k_is); (case kdF2 => k_is)
    (case adRight => k_is); (case ldRight => k_is); (case cdRight => k_is); (case kdRight => k_is)
