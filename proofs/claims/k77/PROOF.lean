import PyProof.Rows.All
import Wide.All
import OpenK.AllK
import Wide.FinOn
import HandS.ForMost
import HandS.Wide
import HandS.TupLe
import HandS.Codes
import PySem.Challenge.RW_smallchange_k77_uses_of_great_amounts
set_option maxHeartbeats 4000000
namespace Sm
/-! the arithmetic -/
theorem lt_of_dm {d a b : Int} (hd : 0 < d) (h : d * a < d * b + d) : a ≤ b := by
  have h2 : d * a < d * (b + 1) := by rw [Int.mul_add, Int.mul_one]; exact h
  have := Int.lt_of_mul_lt_mul_left h2 (Int.le_of_lt hd)
  omega
theorem div_lo {a d : Int} (hd : 0 < d) : d * (a / d) ≤ a := by
  have := Int.mul_ediv_add_emod a d
  have := Int.emod_nonneg a (show d ≠ 0 by omega)
  omega
theorem div_hi {a d : Int} (hd : 0 < d) : a < d * (a / d) + d := by
  have := Int.mul_ediv_add_emod a d
  have := Int.emod_lt_of_pos a hd
  omega
theorem div_uniq {a d q : Int} (hd : 0 < d) (h1 : d * q ≤ a) (h2 : a < d * q + d) : a / d = q := by
  have l := div_lo (a := a) hd
  have u := div_hi (a := a) hd
  have x : a / d ≤ q := lt_of_dm hd (by omega)
  have y : q ≤ a / d := lt_of_dm hd (by omega)
  omega
/-- what is given, rounded by the mode m (0 down, 1 up, 2 near), for e = num * x -/
def Gm (m : Nat) (e d : Int) : Int := if m = 0 then e / d else if m = 1 then (e + d - 1) / d else (2 * e + d) / (2 * d)
theorem g_lo {d e : Int} : Gm 0 e d = e / d := rfl
theorem g_up {d e : Int} : Gm 1 e d = (e + d - 1) / d := rfl
theorem g_ne {d e : Int} : Gm 2 e d = (2 * e + d) / (2 * d) := rfl
theorem G0 {d e : Int} (hd : 0 < d) : d * Gm 0 e d ≤ e ∧ e < d * Gm 0 e d + d := ⟨div_lo hd, div_hi hd⟩
theorem G1 {d e : Int} (hd : 0 < d) : e ≤ d * Gm 1 e d ∧ d * Gm 1 e d < e + d := by
  have a := div_lo (a := e + d - 1) hd
  have b := div_hi (a := e + d - 1) hd
  rw [g_up]
  omega
theorem G2 {d e : Int} (hd : 0 < d) : 2 * (d * Gm 2 e d) ≤ 2 * e + d ∧ 2 * e + d < 2 * (d * Gm 2 e d) + 2 * d := by
  have a := div_lo (a := 2 * e + d) (d := 2 * d) (by omega)
  have b := div_hi (a := 2 * e + d) (d := 2 * d) (by omega)
  rw [g_ne]
  rw [Int.mul_assoc] at a b
  omega
theorem G0u {d e q : Int} (hd : 0 < d) (h1 : d * q ≤ e) (h2 : e < d * q + d) : Gm 0 e d = q := div_uniq hd h1 h2
theorem G1u {d e q : Int} (hd : 0 < d) (h1 : e ≤ d * q) (h2 : d * q < e + d) : Gm 1 e d = q := by
  rw [g_up]; exact div_uniq hd (by omega) (by omega)
theorem G2u {d e q : Int} (hd : 0 < d) (h1 : 2 * (d * q) ≤ 2 * e + d) (h2 : 2 * e + d < 2 * (d * q) + 2 * d) : Gm 2 e d = q := by
  rw [g_ne]; exact div_uniq (by omega) (by rw [Int.mul_assoc]; omega) (by rw [Int.mul_assoc]; omega)
/-- a turn more -/
theorem G_turn {m : Nat} {d e k : Int} (hm : m ≤ 2) (hd : 0 < d) : Gm m (e + d * k) d = Gm m e d + k := by
  have z : d * (Gm m e d + k) = d * Gm m e d + d * k := Int.mul_add _ _ _
  obtain rfl | rfl | rfl : m = 0 ∨ m = 1 ∨ m = 2 := by omega
  · have := G0 (e := e) hd
    exact G0u hd (by omega) (by omega)
  · have := G1 (e := e) hd
    exact G1u hd (by omega) (by omega)
  · have := G2 (e := e) hd
    exact G2u hd (by omega) (by omega)
/-- the law's own way -/
def LG (m : Nat) (e d : Int) : Int := if m = 0 then e / d else if m = 1 then e / d + (if 0 < e % d then 1 else 0) else e / d + (if d ≤ 2 * (e % d) then 1 else 0)
theorem LG_eq {m : Nat} {d e : Int} (hm : m ≤ 2) (hd : 0 < d) : Gm m e d = LG m e d := by
  have h := Int.mul_ediv_add_emod e d
  have h0 := Int.emod_nonneg e (show d ≠ 0 by omega)
  have h1 := Int.emod_lt_of_pos e hd
  obtain rfl | rfl | rfl : m = 0 ∨ m = 1 ∨ m = 2 := by omega
  · rfl
  · show _ = e / d + (if 0 < e % d then 1 else 0)
    have z : d * (e / d + 1) = d * (e / d) + d := by rw [Int.mul_add, Int.mul_one]
    split
    · exact G1u hd (by omega) (by omega)
    · rw [Int.add_zero]; exact G1u hd (by omega) (by omega)
  · show _ = e / d + (if d ≤ 2 * (e % d) then 1 else 0)
    have z : d * (e / d + 1) = d * (e / d) + d := by rw [Int.mul_add, Int.mul_one]
    split
    · exact G2u hd (by omega) (by omega)
    · rw [Int.add_zero]; exact G2u hd (by omega) (by omega)
theorem G_order {d e : Int} (hd : 0 < d) : d * Gm 0 e d ≤ e ∧ e ≤ d * Gm 1 e d ∧ Gm 0 e d ≤ Gm 2 e d ∧ Gm 2 e d ≤ Gm 1 e d ∧ Gm 1 e d - Gm 0 e d ≤ 1 ∧ 2 * (d * Gm 2 e d - e) ≤ d ∧ -d ≤ 2 * (d * Gm 2 e d - e) := by
  have a := G0 (e := e) hd
  have b := G1 (e := e) hd
  have c := G2 (e := e) hd
  have z : d * (Gm 0 e d + 1) = d * Gm 0 e d + d := by rw [Int.mul_add, Int.mul_one]
  refine ⟨a.1, b.1, lt_of_dm hd (by omega), lt_of_dm hd (by omega), ?_, by omega, by omega⟩
  have : Gm 1 e d ≤ Gm 0 e d + 1 := lt_of_dm hd (by omega)
  omega
theorem G_both {m : Nat} {d e f : Int} (hm : m ≤ 2) (hd : 0 < d) : (m = 0 → Gm m e d + Gm m f d ≤ Gm m (e + f) d) ∧ (m = 1 → Gm m (e + f) d ≤ Gm m e d + Gm m f d) ∧
    Gm m (e + f) d - (Gm m e d + Gm m f d) ≤ 1 ∧ -1 ≤ Gm m (e + f) d - (Gm m e d + Gm m f d) := by
  have z : d * (Gm m e d + Gm m f d) = d * Gm m e d + d * Gm m f d := Int.mul_add _ _ _
  have z1 : d * (Gm m e d + Gm m f d + 1) = d * Gm m e d + d * Gm m f d + d := by rw [Int.mul_add, Int.mul_one, z]
  have z2 : d * (Gm m (e + f) d + 1) = d * Gm m (e + f) d + d := by rw [Int.mul_add, Int.mul_one]
  obtain rfl | rfl | rfl : m = 0 ∨ m = 1 ∨ m = 2 := by omega
  · have a := G0 (e := e) hd
    have b := G0 (e := f) hd
    have c := G0 (e := e + f) hd
    have h1 : Gm 0 e d + Gm 0 f d ≤ Gm 0 (e + f) d := lt_of_dm hd (by omega)
    have h2 : Gm 0 (e + f) d ≤ Gm 0 e d + Gm 0 f d + 1 := lt_of_dm hd (by omega)
    refine ⟨fun _ => h1, fun q => by omega, by omega, by omega⟩
  · have a := G1 (e := e) hd
    have b := G1 (e := f) hd
    have c := G1 (e := e + f) hd
    have h1 : Gm 1 (e + f) d ≤ Gm 1 e d + Gm 1 f d := lt_of_dm hd (by omega)
    have h2 : Gm 1 e d + Gm 1 f d ≤ Gm 1 (e + f) d + 1 := lt_of_dm hd (by omega)
    refine ⟨fun q => by omega, fun _ => h1, by omega, by omega⟩
  · have a := G2 (e := e) hd
    have b := G2 (e := f) hd
    have c := G2 (e := e + f) hd
    have h1 : Gm 2 (e + f) d ≤ Gm 2 e d + Gm 2 f d + 1 := lt_of_dm hd (by omega)
    have h2 : Gm 2 e d + Gm 2 f d ≤ Gm 2 (e + f) d + 1 := lt_of_dm hd (by omega)
    refine ⟨fun q => by omega, fun q => by omega, by omega, by omega⟩
/-- the least common multiple, by steps -/
theorem mult_end {a b k : Int} (hb : 0 < b) (h : ∀ j : Int, 0 < j → j < k → ¬ (j * a) % b = 0) (h0 : 0 < k) : k ≤ b := by
  rcases Int.lt_or_le b k with q | q
  · exact absurd (Int.mul_emod_right b a) (h b hb q)
  · exact q
end Sm

set_option Elab.async false
set_option linter.all false
set_option maxRecDepth 100000
set_option maxHeartbeats 4000000
namespace Sm
open PySem PySem.Spec PyProof.Rows L2
def topS (i : Nat) : Stmt := PySem.Challenge.pw_smallchange_k77_uses_of_great_amounts.main.body.getD i (.Pass ⟨0, 0, 0, 0⟩)
structure Txt (mg : Str → Option Value) : Prop where
  n_abs : mg "abs" = none
  n_int : mg "int" = none
  n_len : mg "len" = none
  n_range : mg "range" = none
section
variable {P : Program} {w : World} {K : PySem.W.Frag} {mg : Str → Option Value} {base : Heap}
def Df (K : PySem.W.Frag) (mg : Str → Option Value) (x : Str) (st : Stmt) (ps : List Str) : Prop :=
  ∃ (f : Addr) (fd : FuncData), Fun K x x st f fd ∧ mg x = some (.ref f) ∧ Binds K fd ps []
def Cal (P : Program) (w : World) (K : PySem.W.Frag) (mg : Str → Option Value) (base : Heap) (x : Str) (ps : List Str) (k : Nat) (sp : Sp) : Prop :=
  ∃ (f : Addr) (fd : FuncData), FnOk P w K mg base CX0 k f fd ps sp ∧ mg x = some (.ref f) ∧ PySem.W.keepIn K (.ref f) = true ∧ Binds K fd ps []
theorem Df.cal {x : Str} {st : Stmt} {N ps : List Str} {k : Nat} {sp : Sp} (D : Df K mg x st ps) (S : FnScope N ps (defScope st)) (len : ∀ vs H Q E, sp vs H Q E → vs.length = ps.length)
    (hbody : ∀ (f : Addr) (cdv : Value) (A : Around) (outer : List Env) (s : Shared) (H : Hp) (vs : List V) (Q : VK) (E : XK), Room k (A.deeper (envOfC x (defScope st) s.heap.objs.size f cdv)) → sp vs H Q E →
      ∃ t, PSs (cxOf CX0 P w K mg base N x (defScope st) f cdv A outer s H E).nox (defBody st) t ∧ t { nx := fun _ H' => Q .non H', rt := Q } (start N vs) H) : Cal P w K mg base x ps (k + 1) sp := by
  obtain ⟨f, fd, F, m, b⟩ := D
  exact ⟨f, fd, F.ok S len (fun cdv A outer s H vs Q E hr h => hbody f cdv A outer s H vs Q E hr h), m, F.kp, b⟩
theorem same_upd {H : Hp} {p : Addr} {o : HO} (h : H p = none) : Same H (upd H p o) := fun b x e => by
  rw [upd_ne (ne_of_none e h)]
  exact e
theorem iteP {p A B : Prop} [Decidable p] (h : p) (a : A) : if decide p = true then A else B := by
  rw [decide_eq_true h]
  exact iteT a
theorem iteN {p A B : Prop} [Decidable p] (h : ¬ p) (b : B) : if decide p = true then A else B := by
  rw [decide_eq_false h]
  exact iteF b
theorem iteNP {p A B : Prop} [Decidable p] (h : p) (b : B) : if (!decide p) = true then A else B := by
  rw [decide_eq_true h]
  exact iteF b
theorem iteNN {p A B : Prop} [Decidable p] (h : ¬ p) (a : A) : if (!decide p) = true then A else B := by
  rw [decide_eq_false h]
  exact iteT a
theorem ite3 {p A B : Prop} [Decidable p] (h1 : p → A) (h2 : ¬ p → B) : if decide p = true then A else B := by
  by_cases h : p
  · exact iteP h (h1 h)
  · exact iteN h (h2 h)
theorem fmod_pos {a b : Int} (h : 0 < b) : a.fmod b = a % b := Int.fmod_eq_emod_of_nonneg a (by omega)
/-! ### desks -/
def hs (m : Nat) : Str := if m = 0 then "down" else if m = 1 then "up" else "near"
theorem hs_down {m : Nat} (h : m ≤ 2) : V.str (hs m) = V.str "down" ↔ m = 0 := by
  obtain rfl | rfl | rfl : m = 0 ∨ m = 1 ∨ m = 2 := by omega
  all_goals decide +kernel
theorem hs_up {m : Nat} (h : m ≤ 2) : V.str (hs m) = V.str "up" ↔ m = 1 := by
  obtain rfl | rfl | rfl : m = 0 ∨ m = 1 ∨ m = 2 := by omega
  all_goals decide +kernel
abbrev deskV (m : Nat) (num den least step : Int) : List V := [.int 0, .int 1, .int num, .int den, .str (hs m), .int least, .int step, .non]
structure DeskOk (m : Nat) (num den least step : Int) : Prop where
  hm : m ≤ 2
  n0 : 0 ≤ num
  n1 : num ≤ 30
  d0 : 1 ≤ den
  d1 : den ≤ 30
  l0 : 1 ≤ least
  l1 : least ≤ 30
  s0 : 1 ≤ step
  s1 : step ≤ 30
theorem DeskOk.div {m : Nat} {num den least step x : Int} (o : DeskOk m num den least step) : CDivW x den := by
  have := o.d0
  have := o.d1
  exact wide_div (b := 10) (by omega) (by omega) (by decide) (by decide)
theorem DeskOk.div2 {m : Nat} {num den least step x : Int} (o : DeskOk m num den least step) : CDivW x (2 * den) := by
  have := o.d0
  have := o.d1
  exact wide_div (b := 10) (by omega) (by omega) (by decide) (by decide)
/-- the desk at d, and an amount that it takes -/
def sp_takes (K : PySem.W.Frag) : Sp := fun vs H Q _ => ∃ (d : Addr) (x : Int) (m : Nat) (num den least step : Int), vs = [.ref d, .int x] ∧ H d = some (.tup (deskV m num den least step)) ∧ DeskOk m num den least step ∧ least ≤ x ∧ x % step = 0 ∧
  ∀ H', Same H H' → Q (.bl true) H'
def sp_gives (K : PySem.W.Frag) : Sp := fun vs H Q _ => ∃ (d : Addr) (x : Int) (m : Nat) (num den least step : Int), vs = [.ref d, .int x] ∧ H d = some (.tup (deskV m num den least step)) ∧ DeskOk m num den least step ∧ least ≤ x ∧ x % step = 0 ∧
  ∀ H', Same H H' → Q (.int (Gm m (num * x) den)) H'
def sp_l_gives (K : PySem.W.Frag) : Sp := fun vs H Q _ => ∃ (d : Addr) (x : Int) (m : Nat) (num den least step : Int), vs = [.ref d, .int x] ∧ H d = some (.tup (deskV m num den least step)) ∧ DeskOk m num den least step ∧ least ≤ x ∧ x % step = 0 ∧
  Q (.int (LG m (num * x) den)) H
def sp_l_multiple (K : PySem.W.Frag) : Sp := fun vs H Q _ => ∃ (a b : Int), vs = [.int a, .int b] ∧ 1 ≤ a ∧ a ≤ 30 ∧ 1 ≤ b ∧ b ≤ 30 ∧ ∀ m : Int, 0 < m → m ≤ 900 → m % a = 0 → m % b = 0 → Q (.int m) H
abbrev s_takes : Stmt := topS 1
abbrev N_takes : List Str := ["desk", "x", "least", "step", "most"]
theorem sc_takes : FnScope N_takes ["desk", "x"] (defScope s_takes) := ⟨rfl, rfl, rfl, by decide +kernel, rfl, by decide +kernel, by decide +kernel⟩
theorem ok_takes (T : Txt mg) (D : Df K mg "takes" s_takes ["desk", "x"]) : Cal P w K mg base "takes" ["desk", "x"] 1 (sp_takes K) := by
  refine D.cal sc_takes (fun vs H Q E h => ?_) (fun f cdv A outer s H vs Q E hr h => ?_)
  · obtain ⟨d, x, m, num, den, least, step, rfl, _⟩ := h
    rfl
  obtain ⟨d, x, m, num, den, least, step, rfl, hd, o, hx, hx0, k⟩ := h
  refine ⟨_, (pss_cons (ps_asg (pe_slice sl_tup (pv 0) (po_some pe_int) po_none) (pg_tup (by rfl) (pgs_cons (pg_name (i := 2) sc_takes.nd rfl (Or.inl rfl)) (pgs_cons (pg_name (i := 3) sc_takes.nd rfl (Or.inl rfl)) (pgs_cons (pg_name (i := 4) sc_takes.nd rfl (Or.inl rfl)) pgs_nil)))))
    (pss_one (ps_ret (pe_and (pe_cmpR op_ge (pv 1) (pv 2) (nomark _)) (pe_and (pe_cmpR op_eq (pe_op op_modN (pv 1) (pv 3)) pe_int (nomark _)) (pe_one (pe_or (pe_cmpR op_isN (pv 4) pe_non (nomark _)) (pe_one (pe_cmpR op_le (pv 1) (pv 4) (nomark _)))))))))), ?_⟩
  refine ⟨_, rfl, _, rfl, d, _, rfl, SqT.of hd, (by show ¬ (5 = 0 ∧ 8 = 8); decide), fun p np => ?_⟩
  have s1 := same_upd (o := .tup (cutV (deskV m num den least step) (some 5) none)) np
  refine ⟨_, _, rfl, SqT.of upd_same, rfl, _, _, rfl, _, _, rfl, _, _, rfl, rfl, ?_⟩
  refine ⟨_, rfl, _, rfl, _, _, rfl, rfl, _, rfl, ?_⟩
  have := o.s0
  refine iteP hx ⟨_, rfl, _, rfl, _, _, rfl, rfl, (by omega), rfl, _, rfl, ?_⟩
  refine iteP (show V.int (x.fmod step) = V.int 0 by rw [fmod_pos (by omega), hx0]) ?_
  exact ⟨_, rfl, rfl, _, rfl, iteP rfl (k _ s1)⟩
abbrev s_gives : Stmt := topS 2
abbrev N_gives : List Str := ["desk", "x", "num", "den", "how"]
theorem sc_gives : FnScope N_gives ["desk", "x"] (defScope s_gives) := ⟨rfl, rfl, rfl, by decide +kernel, rfl, by decide +kernel, by decide +kernel⟩
theorem ok_gives (T : Txt mg) (D : Df K mg "gives" s_gives ["desk", "x"]) (C_takes : Cal P w K mg base "takes" ["desk", "x"] 1 (sp_takes K)) : Cal P w K mg base "gives" ["desk", "x"] 2 (sp_gives K) := by
  obtain ⟨f_takes, fd_takes, G_takes, m_takes, k_takes, b_takes⟩ := C_takes
  refine D.cal sc_gives (fun vs H Q E h => ?_) (fun f cdv A outer s H vs Q E hr h => ?_)
  · obtain ⟨d, x, m, num, den, least, step, rfl, _⟩ := h
    rfl
  obtain ⟨d, x, m, num, den, least, step, rfl, hd, o, hx, hx0, k⟩ := h
  refine ⟨_, (pss_cons (ps_if (pt_not (pt_val (pe_call G_takes (hr.mono (by decide)) (by rfl) m_takes k_takes b_takes .nil pass0 (pa_cons (pv 0) (pa_cons (pv 1) pa_nil))))) (pss_one (ps_ret pe_non)) pss_nil)
    (pss_cons (ps_asg (pe_slice sl_tup (pv 0) (po_some pe_int) (po_some pe_int)) (pg_tup (by rfl) (pgs_cons (pg_name (i := 2) sc_gives.nd rfl (Or.inl rfl)) (pgs_cons (pg_name (i := 3) sc_gives.nd rfl (Or.inl rfl)) (pgs_cons (pg_name (i := 4) sc_gives.nd rfl (Or.inl rfl)) pgs_nil)))))
    (pss_cons (ps_if (pt_cmpR op_eq (pv 4) pe_str (nomark _)) (pss_one (ps_ret (pe_op op_fdivW (pe_op op_mul (pv 2) (pv 1)) (pv 3)))) pss_nil)
    (pss_cons (ps_if (pt_cmpR op_eq (pv 4) pe_str (nomark _)) (pss_one (ps_ret (pe_op op_fdivW (pe_op op_sub (pe_op op_add (pe_op op_mul (pv 2) (pv 1)) (pv 3)) pe_int) (pv 3)))) pss_nil)
    (pss_one (ps_ret (pe_op op_fdivW (pe_op op_add (pe_op op_mul (pe_op op_mul pe_int (pv 2)) (pv 1)) (pv 3)) (pe_op op_mul pe_int (pv 3))))))))), ?_⟩
  have n0 := o.n0
  have n1 := o.n1
  have d0 := o.d0
  have d1 := o.d1
  refine ⟨_, rfl, _, rfl, d, x, m, num, den, least, step, rfl, hd, o, hx, hx0, fun H1 s1 => ⟨_, rfl, iteF ?_⟩⟩
  have hd1 := s1 _ _ hd
  refine ⟨_, rfl, _, rfl, _, rfl, d, _, rfl, SqT.of hd1, (by show ¬ (2 = 0 ∧ 5 = 8); decide), fun p np => ?_⟩
  have s2 := s1.trans (same_upd (o := .tup (cutV (deskV m num den least step) (some 2) (some 5))) np)
  refine ⟨_, _, rfl, SqT.of upd_same, rfl, _, _, rfl, _, _, rfl, _, _, rfl, rfl, ?_⟩
  refine ⟨_, rfl, rfl, _, rfl, ?_⟩
  refine ite3 (fun e => ?_) (fun e => ?_)
  · refine ⟨_, rfl, _, rfl, _, _, rfl, rfl, .inl ⟨by omega, by omega⟩, _, rfl, _, _, rfl, rfl, o.div, ?_⟩
    have e := (hs_down o.hm).mp e
    subst e
    exact k _ s2
  have e : ¬ m = 0 := fun q => e ((hs_down o.hm).mpr q)
  refine ⟨_, rfl, rfl, _, rfl, ?_⟩
  refine ite3 (fun e1 => ?_) (fun e1 => ?_)
  · refine ⟨_, rfl, _, rfl, _, _, rfl, rfl, .inl ⟨by omega, by omega⟩, _, rfl, _, _, rfl, rfl, _, _, rfl, rfl, _, rfl, _, _, rfl, rfl, o.div, ?_⟩
    have e1 := (hs_up o.hm).mp e1
    subst e1
    exact k _ s2
  have e1 : ¬ m = 1 := fun q => e1 ((hs_up o.hm).mpr q)
  refine ⟨_, rfl, _, _, rfl, rfl, .inl ⟨by omega, by omega⟩, _, rfl, _, _, rfl, rfl, .inl ⟨by omega, by omega⟩, _, rfl, _, _, rfl, rfl, _, rfl, _, _, rfl, rfl, .inl ⟨by omega, by omega⟩, _, _, rfl, rfl, o.div2, ?_⟩
  have e2 : m = 2 := by have := o.hm; omega
  subst e2
  have e3 : (2 * num * x + den) / (2 * den) = Gm 2 (num * x) den := by rw [g_ne, Int.mul_assoc]
  have k := k _ s2
  rw [← e3] at k
  exact k
abbrev s_l_gives : Stmt := topS 7
abbrev N_l_gives : List Str := ["_law_desk", "_law_x", "_law_a", "_law_b", "_law_num", "_law_den", "_law_how", "_law_least", "_law_step", "_law_upto", "_law_whole", "_law_rest"]
theorem sc_l_gives : FnScope N_l_gives ["_law_desk", "_law_x"] (defScope s_l_gives) := ⟨rfl, rfl, rfl, by decide +kernel, rfl, by decide +kernel, by decide +kernel⟩
theorem ok_l_gives (T : Txt mg) (D : Df K mg "_law_gives" s_l_gives ["_law_desk", "_law_x"]) : Cal P w K mg base "_law_gives" ["_law_desk", "_law_x"] 1 (sp_l_gives K) := by
  refine D.cal sc_l_gives (fun vs H Q E h => ?_) (fun f cdv A outer s H vs Q E hr h => ?_)
  · obtain ⟨d, x, m, num, den, least, step, rfl, _⟩ := h
    rfl
  obtain ⟨d, x, m, num, den, least, step, rfl, hd, o, hx, hx0, k⟩ := h
  refine ⟨_, (pss_cons (ps_asg (pv 0) (pg_tup (by rfl) (pgs_cons (pg_name (i := 2) sc_l_gives.nd rfl (Or.inl rfl)) (pgs_cons (pg_name (i := 3) sc_l_gives.nd rfl (Or.inl rfl)) (pgs_cons (pg_name (i := 4) sc_l_gives.nd rfl (Or.inl rfl)) (pgs_cons (pg_name (i := 5) sc_l_gives.nd rfl (Or.inl rfl)) (pgs_cons (pg_name (i := 6) sc_l_gives.nd rfl (Or.inl rfl)) (pgs_cons (pg_name (i := 7) sc_l_gives.nd rfl (Or.inl rfl)) (pgs_cons (pg_name (i := 8) sc_l_gives.nd rfl (Or.inl rfl)) (pgs_cons (pg_name (i := 9) sc_l_gives.nd rfl (Or.inl rfl)) pgs_nil))))))))))
    (pss_cons (ps_if (PW.pt (pw_or (pt_cmpR op_ne (pe_op op_modN (pe_callTy call_int1 (by rfl) T.n_int (by decide +kernel) (pa_cons (pv 1) pa_nil)) (pv 8)) pe_int (nomark _)) (pw_or (pt_cmpR op_lt (pv 1) (pv 7) (nomark _)) (pw_or1 (PW.pt (pw_and (pt_cmpR op_notN (pv 9) pe_non (nomark _)) (pw_and1 (pt_cmpR op_gt (pv 1) (pv 9) (nomark _))))))))) (pss_one (ps_ret pe_non)) pss_nil)
    (pss_cons (ps_par (i := 10) (j := 11) (by rfl) sc_l_gives.nd rfl rfl (by decide) rfl rfl (pa_cons (pe_op op_fdivW (pe_op op_mul (pv 4) (pv 1)) (pv 5)) (pa_cons (pe_op op_modN (pe_callTy call_int1 (by rfl) T.n_int (by decide +kernel) (pa_cons (pe_op op_mul (pv 4) (pv 1)) pa_nil)) (pv 5)) pa_nil)) (by rfl))
    (pss_cons (ps_if (pt_cmpR op_eq (pv 6) pe_str (nomark _)) (pss_one (ps_ret (pv 10))) pss_nil)
    (pss_one (ps_ret (pe_ifExp (pt_cmpR op_eq (pv 6) pe_str (nomark _)) (pe_op op_add (pv 10) (pe_callTy call_int1 (by rfl) T.n_int (by decide +kernel) (pa_cons (pe_cmpR op_gt (pv 11) pe_int (nomark _)) pa_nil))) (pe_op op_add (pv 10) (pe_callTy call_int1 (by rfl) T.n_int (by decide +kernel) (pa_cons (pe_cmpR op_ge (pe_op op_mul pe_int (pv 11)) (pv 5) (nomark _)) pa_nil)))))))))), ?_⟩
  have n0 := o.n0
  have n1 := o.n1
  have d0 := o.d0
  have d1 := o.d1
  have st0 := o.s0
  refine ⟨_, rfl, _, _, rfl, SqT.of hd, rfl, _, _, rfl, _, _, rfl, _, _, rfl, _, _, rfl, _, _, rfl, _, _, rfl, _, _, rfl, _, _, rfl, rfl, ?_⟩
  refine ⟨_, rfl, .inl ⟨_, rfl, _, rfl, _, _, rfl, rfl, (by omega), rfl, _, rfl, ?_⟩⟩
  refine iteNP (show V.int (x.fmod step) = V.int 0 by rw [fmod_pos (by omega), hx0]) ?_
  refine ⟨_, rfl, _, rfl, _, _, rfl, rfl, _, rfl, ?_⟩
  refine iteN (show ¬ x < least by omega) ?_
  refine ⟨_, rfl, rfl, _, rfl, iteNP rfl ?_⟩
  refine iteF ?_
  refine ⟨_, rfl, _, rfl, _, _, rfl, rfl, .inl ⟨by omega, by omega⟩, _, rfl, _, _, rfl, rfl, o.div, _, rfl, _, rfl, _, _, rfl, rfl, .inl ⟨by omega, by omega⟩, .inl ⟨_, rfl, _, rfl, _, _, rfl, rfl, (by omega), _, _, rfl, ?_⟩⟩
  have fm : (num * x).fmod den = num * x % den := fmod_pos (by omega)
  refine ⟨_, rfl, rfl, _, rfl, ?_⟩
  refine ite3 (fun e => ?_) (fun e => ?_)
  · have e := (hs_down o.hm).mp e
    subst e
    exact ⟨_, rfl, k⟩
  have e : ¬ m = 0 := fun q => e ((hs_down o.hm).mpr q)
  refine ⟨_, rfl, rfl, _, rfl, ?_⟩
  refine ite3 (fun e1 => ?_) (fun e1 => ?_)
  · have e1 := (hs_up o.hm).mp e1
    subst e1
    refine ⟨_, rfl, _, rfl, _, _, rfl, rfl, .inr ⟨_, rfl, _, _, rfl, rfl, ?_⟩⟩
    have e3 : num * x / den + (if decide (0 < (num * x).fmod den) = true then 1 else 0) = LG 1 (num * x) den := by
      rw [fm]
      show _ = num * x / den + (if 0 < num * x % den then 1 else 0)
      simp only [decide_eq_true_eq]
    rw [← e3] at k
    exact k
  have e1 : ¬ m = 1 := fun q => e1 ((hs_up o.hm).mpr q)
  have e2 : m = 2 := by have := o.hm; omega
  subst e2
  refine ⟨_, rfl, _, rfl, _, _, rfl, rfl, .inl ⟨by omega, by omega⟩, _, rfl, _, _, rfl, rfl, .inr ⟨_, rfl, _, _, rfl, rfl, ?_⟩⟩
  have e3 : num * x / den + (if decide (den ≤ 2 * (num * x).fmod den) = true then 1 else 0) = LG 2 (num * x) den := by
    rw [fm]
    show _ = num * x / den + (if den ≤ 2 * (num * x % den) then 1 else 0)
    simp only [decide_eq_true_eq]
  rw [← e3] at k
  exact k
abbrev s_l_multiple : Stmt := topS 8
abbrev N_l_multiple : List Str := ["_law_one_here", "_law_other", "_law_found"]
theorem sc_l_multiple : FnScope N_l_multiple ["_law_one_here", "_law_other"] (defScope s_l_multiple) := ⟨rfl, rfl, rfl, by decide +kernel, rfl, by decide +kernel, by decide +kernel⟩
theorem ok_l_multiple (T : Txt mg) (D : Df K mg "_law_multiple" s_l_multiple ["_law_one_here", "_law_other"]) : Cal P w K mg base "_law_multiple" ["_law_one_here", "_law_other"] 1 (sp_l_multiple K) := by
  refine D.cal sc_l_multiple (fun vs H Q E h => ?_) (fun f cdv A outer s H vs Q E hr h => ?_)
  · obtain ⟨a, b, rfl, _⟩ := h
    rfl
  obtain ⟨a, b, rfl, a0, a1, b0, b1, k⟩ := h
  refine ⟨_, (pss_cons (ps_set (i := 2) sc_l_multiple.nd rfl (Or.inl rfl) (pv 0))
    (pss_cons (ps_while PassesOwn.never (pt_cmpR op_ne (pe_op op_modN (pe_callTy call_int1 (by rfl) T.n_int (by decide +kernel) (pa_cons (pv 2) pa_nil)) (pv 1)) pe_int (nomark _))
      (pss_one (ps_set (i := 2) sc_l_multiple.nd rfl (Or.inl rfl) (pe_op op_add (pv 2) (pv 0)))))
    (pss_one (ps_ret (pv 2))))), ?_⟩
  refine ⟨_, rfl, while_by (fun σ H' => ∃ j : Int, σ = [some (.int a), some (.int b), some (.int (j * a))] ∧ H' = H ∧ 1 ≤ j ∧ j ≤ b ∧ ∀ i : Int, 0 < i → i < j → ¬ (i * a) % b = 0)
    (fun σ _ => match σ with | [_, _, some (.int y)] => (b * a - y).toNat | _ => 0) ⟨1, by rw [Int.one_mul]; rfl, rfl, by omega, by omega, fun i h1 h2 => by omega⟩ ?_ ?_⟩
  · rintro σ H' ⟨j, rfl, rfl, j0, j1, hj⟩
    refine ⟨_, rfl, .inl ⟨_, rfl, _, rfl, _, _, rfl, rfl, (by omega), rfl, _, rfl, ?_⟩⟩
    have fm : (j * a).fmod b = j * a % b := fmod_pos (by omega)
    by_cases e : j * a % b = 0
    · refine iteNP (show V.int ((j * a).fmod b) = V.int 0 by rw [fm, e]) ⟨_, rfl, k _ ?_ ?_ (Int.mul_emod_left j a) e⟩
      · exact Int.mul_pos (by omega) (by omega)
      · exact Int.le_trans (Int.mul_le_mul j1 (Int.le_refl a) (by omega) (by omega)) (Int.le_trans (Int.mul_le_mul b1 a1 (by omega) (by omega)) (by decide))
    · have jl : j < b := by
        rcases Int.lt_or_le j b with q | q
        · exact q
        · have : j = b := by omega
          subst this
          exact absurd (Int.mul_emod_right j a) e
      refine iteNN (show ¬ V.int ((j * a).fmod b) = V.int 0 from fun q => e (by rw [← fm]; exact V.int.inj q)) ⟨_, rfl, _, rfl, _, _, rfl, rfl, ⟨j + 1, ?_, rfl, by omega, by omega, fun i h1 h2 => ?_⟩, ?_⟩
      · rw [Int.add_mul, Int.one_mul]
        rfl
      · by_cases q : i = j
        · rw [q]; exact e
        · exact hj i h1 (by omega)
      · show (b * a - (j * a + a)).toNat < (b * a - j * a).toNat
        have : j * a + a ≤ b * a := by
          have := Int.mul_le_mul_of_nonneg_right (show j + 1 ≤ b by omega) (show 0 ≤ a by omega)
          rw [Int.add_mul, Int.one_mul] at this
          exact this
        omega
  · rintro σ H' Q1 Q2 hq ⟨v, e, h⟩
    refine ⟨v, e, ?_⟩
    rcases h with ⟨i, r, v1, e1, i1, j1, x1, y1, c, s1, c1, z1, h⟩ | ⟨i, r, v1, e1, i1, j1, x1, y1, c, s1, c1, z1, h⟩
    · exact .inl ⟨i, r, v1, e1, i1, j1, x1, y1, c, s1, c1, z1, hq _ _ h⟩
    · exact .inr ⟨i, r, v1, e1, i1, j1, x1, y1, c, s1, c1, z1, hq _ _ h⟩
end
end Sm

set_option Elab.async false
set_option linter.all false
set_option maxRecDepth 100000
set_option maxHeartbeats 4000000
namespace Sm
open PySem PySem.Spec PyProof.Rows L2
open C8 (pss_cut)
/-! ### the deck -/
structure Deck (H : Hp) (p l : Addr) (n : Int) : Prop where
  hp : H p = some (.lst [.ref l, .int n])
  hl : ∃ cells : List Int, H l = some (.lst (cells.map V.int)) ∧ ∀ c ∈ cells, 0 ≤ c
theorem deck_ne {l : Addr} {n : Int} {cells : List Int} : HO.lst [.ref l, .int n] ≠ HO.lst (cells.map V.int) := by
  intro q
  injection q with q
  cases cells with
  | nil => cases q
  | cons c r => cases (List.cons.inj q).1
/-- all but the deck is as it was -/
def Fr (p l : Addr) (H H' : Hp) : Prop := ∀ b o, b ≠ p → b ≠ l → H b = some o → H' b = some o
theorem Fr.trans {p l : Addr} {H H1 H2 : Hp} (a : Fr p l H H1) (b : Fr p l H1 H2) : Fr p l H H2 := fun c o h1 h2 h => b c o h1 h2 (a c o h1 h2 h)
theorem Same.fr {p l : Addr} {H H' : Hp} (s : Same H H') : Fr p l H H' := fun b o _ _ h => s b o h
theorem Deck.same {H H' : Hp} {p l : Addr} {n : Int} (D : Deck H p l n) (s : Same H H') : Deck H' p l n := by
  obtain ⟨cells, hl, hc⟩ := D.hl
  exact ⟨s _ _ D.hp, cells, s _ _ hl, hc⟩
theorem Fr.tup {H H' : Hp} {p l b : Addr} {n : Int} {xs : List V} (f : Fr p l H H') (D : Deck H p l n) (h : H b = some (.tup xs)) : H' b = some (.tup xs) := by
  obtain ⟨cells, hl, hc⟩ := D.hl
  exact f b _ (ne_of h D.hp (by intro q; cases q)) (ne_of h hl (by intro q; cases q)) h
def sp_l_deck (K : PySem.W.Frag) : Sp := fun vs H Q _ => ∃ (a : Addr) (ns : List Int), vs = [.ref a] ∧ SqL K H a (ns.map V.int) ∧ ns.length ≤ 63 ∧ ∀ H' p l, Same H H' → Deck H' p l 0 → Q (.ref p) H'
def sp_l_draw (K : PySem.W.Frag) : Sp := fun vs H Q _ => ∃ (p l : Addr) (n m : Int), vs = [.ref p, .int m] ∧ Deck H p l n ∧ 0 ≤ n ∧ n ≤ 1000000 ∧ 0 < m ∧ m ≤ 1000000000000000000000000000000000000000000000000000000000000 ∧
  ∀ r H', 0 ≤ r → r < m → Fr p l H H' → Deck H' p l (n + 1) → Q (.int r) H'
def sp_l_one (K : PySem.W.Frag) : Sp := fun vs H Q _ => ∃ (p l b : Addr) (n : Int) (xs : List V), vs = [.ref p, .ref b] ∧ Deck H p l n ∧ 0 ≤ n ∧ n ≤ 1000000 ∧ H b = some (.lst xs) ∧ b ≠ p ∧ b ≠ l ∧ 0 < xs.length ∧ xs.length ≤ 1000 ∧
  ∀ x H', x ∈ xs → Fr p l H H' → Deck H' p l (n + 1) → Q x H'
def sp_l_taken (K : PySem.W.Frag) : Sp := fun vs H Q _ => ∃ (p l d : Addr) (n top : Int) (m : Nat) (num den least step : Int), vs = [.ref p, .ref d, .int top] ∧ Deck H p l n ∧ 0 ≤ n ∧ n ≤ 1000000 ∧ H d = some (.tup (deskV m num den least step)) ∧ DeskOk m num den least step ∧
  0 < top ∧ top ≤ 10000000000000000000000000000 ∧ ∀ x H', least ≤ x → x % step = 0 → Fr p l H H' → Deck H' p l (n + 1) → Q (.int x) H'
section
variable {P : Program} {w : World} {K : PySem.W.Frag} {mg : Str → Option Value} {base : Heap}
abbrev s_l_deck : Stmt := topS 4
abbrev N_l_deck : List Str := ["_law_script", "_law_cell"]
theorem sc_l_deck : FnScope N_l_deck ["_law_script"] (defScope s_l_deck) := ⟨rfl, rfl, rfl, by decide +kernel, rfl, by decide +kernel, by decide +kernel⟩
theorem cut63 {ns : List Int} (h : ns.length ≤ 63) : cutV (ns.map V.int) none (some 63) = ns.map V.int := by
  unfold cutV
  rw [HT.sIx_none, show HT.sIx (ns.map V.int).length (ns.map V.int).length (some 63) = min 63 (ns.map V.int).length from HT.sIx_nat _ _ 63]
  rw [List.length_map, Nat.min_eq_right h, List.drop_zero]
  exact List.take_of_length_le (by rw [List.length_map]; omega)
def absI (n : Int) : Int := if n < 0 then -n else n
theorem absI_pos (n : Int) : 0 ≤ absI n := by
  unfold absI
  split <;> omega
theorem ok_l_deck (T : Txt mg) (D : Df K mg "_law_deck" s_l_deck ["_law_script"]) : Cal P w K mg base "_law_deck" ["_law_script"] 1 (sp_l_deck K) := by
  refine D.cal sc_l_deck (fun vs H Q E h => ?_) (fun f cdv A outer s H vs Q E hr h => ?_)
  · obtain ⟨a, ns, rfl, _⟩ := h
    rfl
  obtain ⟨a, ns, rfl, hS, hlen, k⟩ := h
  refine ⟨_, (pss_one (ps_ret (pe_lst (pa_cons (pe_lc (own := [("_law_cell", 1)]) (g := gName 1) (tt := tYes) rfl sc_l_deck.nd (pi_list (pe_slice sl_list (pv 0) po_none (po_some pe_int))) (blkOk_by (own := [("_law_cell", 1)]) (N := N_l_deck) (sc := defScope s_l_deck) (by decide +kernel)) (fun _ _ _ _ _ => pg_name (i := 1) sc_l_deck.nd rfl (Or.inl rfl)) (fun _ _ _ _ _ => pts_nil) (fun _ _ _ _ _ => (pe_callB call_abs (by rfl) T.n_abs (by decide +kernel) (pa_cons (pv 1) pa_nil)))) (pa_cons pe_int pa_nil))))), ?_⟩
  refine ⟨_, rfl, _, rfl, a, _, rfl, hS, fun c nc => ?_⟩
  rw [cut63 hlen]
  have s1 := same_upd (o := .lst (ns.map V.int)) nc
  refine ⟨c, rfl, ⟨_, SqL.of upd_same⟩, fun D nD => ?_⟩
  have s2 := s1.trans (same_upd (o := .lst []) nD)
  have hc2 : upd (upd H c (.lst (ns.map V.int))) D (.lst []) c = some (.lst (ns.map V.int)) := same_upd nD _ _ upd_same
  refine lc_list (K := K) (a := c) (xs := ns.map V.int) (fun i H' => Same H H' ∧ H' c = some (.lst (ns.map V.int)) ∧ c ≠ D ∧ H D = none ∧ H' D = some (.lst (((ns.take i).map absI).map V.int)))
    ⟨s2, hc2, ne_of_none upd_same nD, s1.free nD, upd_same⟩ (fun i H' _ h => SqL.of h.2.1) ?_ ?_
  · rintro i x H' hx ⟨sm, hc, ncD, nD0, hD⟩
    rw [List.getElem?_map] at hx
    cases e : ns[i]? with
    | none => rw [e] at hx; cases hx
    | some y =>
      rw [e] at hx
      have ex : x = .int y := (Option.some.inj hx).symm
      subst ex
      refine ⟨rfl, ?_⟩
      unfold tYes
      refine iteT ?_
      refine ⟨_, rfl, _, rfl, _, hD, ?_, ?_⟩
      · rw [List.length_map, List.length_map, List.length_take]
        exact Nat.lt_of_le_of_lt (Nat.min_le_right _ _) (small1000 (by omega))
      · refine ⟨fun b o e => ?_, ?_, ncD, nD0, ?_⟩
        · rw [upd_ne (ne_of_none e nD0)]
          exact sm _ _ e
        · rw [upd_ne ncD]
          exact hc
        · rw [upd_same, List.take_add_one, e, List.map_append, List.map_append]
          rfl
  · rintro H' ⟨sm, hc, ncD, nD0, hD⟩
    refine ⟨(by show 2 ≤ sizeLine; decide), fun p np => ?_⟩
    have s3 := sm.trans (same_upd (o := .lst [.ref D, .int 0]) np)
    refine k _ p D s3 ⟨upd_same, _, (same_upd np) _ _ hD, fun c hc => ?_⟩
    obtain ⟨y, _, rfl⟩ := List.mem_map.mp hc
    exact absI_pos y
abbrev s_l_draw : Stmt := topS 5
abbrev N_l_draw : List Str := ["_law_deck_here", "_law_many", "_law_cell", "_law_place", "_law_mixed"]
theorem sc_l_draw : FnScope N_l_draw ["_law_deck_here", "_law_many"] (defScope s_l_draw) := ⟨rfl, rfl, rfl, by decide +kernel, rfl, by decide +kernel, by decide +kernel⟩
theorem div_draw {c m : Int} (h0 : 0 < m) (h : m ≤ 1000000000000000000000000000000000000000000000000000000000000) : CDivW c m :=
  wide_div (b := 300) h0 (by omega) (by decide) (by decide)
theorem ok_l_draw (T : Txt mg) (D : Df K mg "_law_draw" s_l_draw ["_law_deck_here", "_law_many"]) : Cal P w K mg base "_law_draw" ["_law_deck_here", "_law_many"] 1 (sp_l_draw K) := by
  refine D.cal sc_l_draw (fun vs H Q E h => ?_) (fun f cdv A outer s H vs Q E hr h => ?_)
  · obtain ⟨p, l, n, m, rfl, _⟩ := h
    rfl
  obtain ⟨p, l, n, m, rfl, D, n0, n1, m0, m1, k⟩ := h
  obtain ⟨cells, hl, hc⟩ := D.hl
  have npl : p ≠ l := ne_of D.hp hl deck_ne
  refine ⟨_, (pss_cons (ps_asg (pe_op op_add (pe_ix ix_list (pv 0) pe_int (fun _ _ => rfl)) pe_int) (pg_sub (pv 0) pe_int set_list))
    (pss_cons (ps_asg (pe_tup (pa_cons pe_int (pa_cons (pe_un un_neg pe_int) pa_nil))) (pg_tup (by rfl) (pgs_cons (pg_name (i := 2) sc_l_draw.nd rfl (Or.inl rfl)) (pgs_cons (pg_name (i := 3) sc_l_draw.nd rfl (Or.inl rfl)) pgs_nil))))
    (pss_cut (ps_if (pt_cmpR op_gt (pe_callB call_len_seq (by rfl) T.n_len (by decide +kernel) (pa_cons (pe_ix ix_list (pv 0) pe_int (fun _ _ => rfl)) pa_nil)) pe_int (nomark _)) (pss_cons (ps_set (i := 3) sc_l_draw.nd rfl (Or.inl rfl) (pe_op op_modN (pe_callTy call_int1 (by rfl) T.n_int (by decide +kernel) (pa_cons (pe_ix ix_list (pv 0) pe_int (fun _ _ => rfl)) pa_nil)) (pe_callB call_len_seq (by rfl) T.n_len (by decide +kernel) (pa_cons (pe_ix ix_list (pv 0) pe_int (fun _ _ => rfl)) pa_nil))))
    (pss_one (ps_set (i := 2) sc_l_draw.nd rfl (Or.inl rfl) (pe_ix ix_list (pe_ix ix_list (pv 0) pe_int (fun _ _ => rfl)) (pv 3) (fun _ _ => rfl))))) pss_nil)
    (pss_cons (ps_if (pt_cmpR op_ge (pv 2) (pe_op op_pow pe_int pe_int) (nomark _)) (pss_cons (ps_asg (pe_op op_fdivW (pe_callTy call_int1 (by rfl) T.n_int (by decide +kernel) (pa_cons (pv 2) pa_nil)) (pv 1)) (pg_sub (pe_ix ix_list (pv 0) pe_int (fun _ _ => rfl)) (pv 3) set_list))
    (pss_one (ps_ret (pe_op op_modN (pe_callTy call_int1 (by rfl) T.n_int (by decide +kernel) (pa_cons (pv 2) pa_nil)) (pv 1))))) pss_nil)
    (pss_cons (ps_set (i := 4) sc_l_draw.nd rfl (Or.inl rfl) (pe_op op_add (pe_op op_add (pe_op op_modN (pe_callTy call_int1 (by rfl) T.n_int (by decide +kernel) (pa_cons (pv 2) pa_nil)) pe_int) (pe_op op_mul pe_int (pe_ix ix_list (pv 0) pe_int (fun _ _ => rfl)))) pe_int))
    (pss_one (ps_ret (pe_op op_modN (pe_callTy call_int1 (by rfl) T.n_int (by decide +kernel) (pa_cons (pe_op op_modN (pe_callTy call_int1 (by rfl) T.n_int (by decide +kernel) (pa_cons (pe_op op_pow (pv 4) pe_int) pa_nil)) pe_int) pa_nil)) (pv 1))))))))), ?_⟩
  refine ⟨_, rfl, _, _, _, _, rfl, rfl, SqL.of D.hp, atI_nat (j := 1) rfl, _, _, rfl, rfl, _, rfl, _, _, _, _, rfl, rfl, D.hp, rfl, ?_⟩
  generalize hH0 : upd H p (HO.lst (List.set [V.ref l, V.int n] (Int.toNat 1) ((fun i j => V.int (i + j)) n 1))) = H0
  have hH0 : upd H p (.lst [.ref l, .int (n + 1)]) = H0 := hH0
  have f0 : Fr p l H H0 := fun b o h1 _ h => by rw [← hH0, upd_ne h1]; exact h
  have hl0 : H0 l = some (.lst (cells.map V.int)) := by rw [← hH0, upd_ne npl.symm]; exact hl
  have hp0 : H0 p = some (.lst [.ref l, .int (n + 1)]) := by rw [← hH0, upd_same]
  refine ⟨_, rfl, (by show 2 ≤ sizeLine; decide), fun t nt => ?_⟩
  refine ⟨_, _, rfl, SqT.of upd_same, rfl, _, _, rfl, _, _, rfl, rfl, ?_⟩
  have st := same_upd (o := .tup [.int 0, .int (-1)]) nt
  have hp1 := st _ _ hp0
  have hl1 := st _ _ hl0
  have f1 := f0.trans (Same.fr (p := p) (l := l) st)
  generalize upd H0 t (HO.tup [V.int 0, V.int (-1)]) = H1 at hp1 hl1 f1 ⊢
  refine ⟨fun σ H' => ∃ c pl : Int, σ = [some (.ref p), some (.int m), some (.int c), some (.int pl), none] ∧ H' = H1 ∧ 0 ≤ c ∧ (1000000000000000000 ≤ c → 0 ≤ pl ∧ pl.toNat < cells.length ∧ pl < cells.length), ?_, ?_⟩
  · refine ⟨_, rfl, _, _, _, _, rfl, rfl, SqL.of hp1, atI_nat (j := 0) rfl, _, _, rfl, .inl (SqL.of hl1), _, _, rfl, rfl, _, rfl, ite3 (fun e => ?_) (fun e => ?_)⟩
    · rw [List.length_map] at e
      have fm : (n + 1).fmod cells.length = (n + 1) % cells.length := fmod_pos (by omega)
      have q0 : 0 ≤ (n + 1).fmod cells.length := by rw [fm]; exact Int.emod_nonneg _ (by omega)
      have q1 : (n + 1).fmod cells.length < cells.length := by rw [fm]; exact Int.emod_lt_of_pos _ (by omega)
      have q2 : ((n + 1).fmod cells.length).toNat < cells.length := by omega
      have q3 : (n + 1).fmod cells.length = (((n + 1).fmod cells.length).toNat : Int) := by omega
      have q4 : (cells.map V.int)[((n + 1).fmod cells.length).toNat]? = some (.int cells[((n + 1).fmod cells.length).toNat]) := by
        rw [List.getElem?_map, List.getElem?_eq_getElem q2]
        rfl
      have ln : ((cells.map V.int).length : Int) = cells.length := by rw [List.length_map]
      refine ⟨_, rfl, _, _, _, _, rfl, rfl, SqL.of hp1, atI_nat (j := 1) rfl, .inl ⟨_, rfl, _, rfl, _, _, _, _, rfl, rfl, SqL.of hp1, atI_nat (j := 0) rfl, _, _, rfl, .inl (SqL.of hl1), _, _, rfl, rfl, (by rw [ln]; omega), ?_⟩⟩
      have z : ∀ B : Int → Prop, B ((n + 1).fmod cells.length) → B ((n + 1).fmod ((cells.map V.int).length : Int)) := fun B h => by rw [ln]; exact h
      refine z (fun y => gName 3 (.int y) _ _ _) ?_
      refine ⟨_, rfl, _, _, _, _, rfl, rfl, SqL.of hp1, atI_nat (j := 0) rfl, _, rfl, _, _, _, _, rfl, rfl, SqL.of hl1, _root_.L2.at_of q3 q4, ?_⟩
      exact ⟨_, _, rfl, rfl, hc _ (List.getElem_mem q2), fun _ => ⟨q0, q2, q1⟩⟩
    · exact ⟨0, -1, rfl, rfl, Int.le_refl _, fun h => absurd h (by decide)⟩
  · rintro σ H' ⟨c, pl, rfl, rfl, c0, hpl⟩
    refine ⟨_, rfl, _, _, rfl, rfl, ⟨by decide, by decide, by decide⟩, _, _, rfl, rfl, _, rfl, ite3 (fun e => ?_) (fun e => ?_)⟩
    · have e : 1000000000000000000 ≤ c := e
      obtain ⟨p0, p1, p2⟩ := hpl e
      have ix : ixN (cells.map V.int).length pl = some pl.toNat := by
        unfold ixN
        rw [if_pos p0, if_pos (by rw [List.length_map]; exact p2)]
      refine ⟨_, rfl, .inl ⟨_, rfl, _, rfl, _, _, rfl, rfl, div_draw m0 m1, _, rfl, _, _, _, _, rfl, rfl, SqL.of hp1, atI_nat (j := 0) rfl, _, rfl, _, _, _, _, rfl, rfl, hl1, ix, ?_⟩⟩
      refine ⟨_, rfl, .inl ⟨_, rfl, _, rfl, _, _, rfl, rfl, (by omega), ?_⟩⟩
      have fm : c.fmod m = c % m := fmod_pos m0
      refine k _ _ (by rw [fm]; exact Int.emod_nonneg _ (by omega)) (by rw [fm]; exact Int.emod_lt_of_pos _ m0) (f1.trans fun b o _ h2 h => by rw [upd_ne h2]; exact h) ⟨by rw [upd_ne npl]; exact hp1, cells.set pl.toNat (c / m), by rw [upd_same, List.map_set], fun y hy => ?_⟩
      rcases List.mem_or_eq_of_mem_set hy with q | q
      · exact hc y q
      · rw [q]; exact Int.ediv_nonneg c0 (by omega)
    · refine ⟨_, rfl, .inl ⟨_, rfl, _, _, rfl, rfl, (show (2147483587 : Int) ≠ 0 by decide), _, rfl, _, _, _, _, rfl, rfl, SqL.of hp1, atI_nat (j := 1) rfl, _, _, rfl, rfl, .inl ⟨by decide, by decide⟩, _, _, rfl, rfl, _, _, rfl, rfl, ?_⟩⟩
      have fm : c.fmod 2147483587 = c % 2147483587 := fmod_pos (by decide)
      have h0 := Int.emod_nonneg c (show (2147483587 : Int) ≠ 0 by decide)
      have h1 := Int.emod_lt_of_pos c (show (0 : Int) < 2147483587 by decide)
      refine ⟨_, rfl, _, _, rfl, rfl, ⟨by decide, by decide, by rw [fm]; omega⟩, .inl ⟨_, rfl, _, _, rfl, rfl, (show (2147483647 : Int) ≠ 0 by decide), .inl ⟨_, rfl, _, rfl, _, _, rfl, rfl, (by omega), ?_⟩⟩⟩
      refine k _ _ ?_ ?_ f1 ⟨hp1, cells, hl1, hc⟩
      · rw [fmod_pos m0]; exact Int.emod_nonneg _ (by omega)
      · rw [fmod_pos m0]; exact Int.emod_lt_of_pos _ m0
abbrev s_l_one : Stmt := topS 6
abbrev N_l_one : List Str := ["_law_deck_here", "_law_items"]
theorem sc_l_one : FnScope N_l_one ["_law_deck_here", "_law_items"] (defScope s_l_one) := ⟨rfl, rfl, rfl, by decide +kernel, rfl, by decide +kernel, by decide +kernel⟩
theorem ok_l_one (T : Txt mg) (D : Df K mg "_law_one" s_l_one ["_law_deck_here", "_law_items"]) (C_l_draw : Cal P w K mg base "_law_draw" ["_law_deck_here", "_law_many"] 1 (sp_l_draw K)) : Cal P w K mg base "_law_one" ["_law_deck_here", "_law_items"] 2 (sp_l_one K) := by
  obtain ⟨f_l_draw, fd_l_draw, G_l_draw, m_l_draw, k_l_draw, b_l_draw⟩ := C_l_draw
  refine D.cal sc_l_one (fun vs H Q E h => ?_) (fun f cdv A outer s H vs Q E hr h => ?_)
  · obtain ⟨p, l, b, n, xs, rfl, _⟩ := h
    rfl
  obtain ⟨p, l, b, n, xs, rfl, D, n0, n1, hb, bp, bl, x0, x1, k⟩ := h
  refine ⟨_, (pss_one (ps_ret (pe_ix ix_list (pv 1) (pe_call G_l_draw (hr.mono (by decide)) (by rfl) m_l_draw k_l_draw b_l_draw .nil pass0 (pa_cons (pv 0) (pa_cons (pe_callB call_len_seq (by rfl) T.n_len (by decide +kernel) (pa_cons (pv 1) pa_nil)) pa_nil))) (fun _ _ => rfl)))), ?_⟩
  refine ⟨_, rfl, _, rfl, _, rfl, _, _, rfl, .inl (SqL.of hb), p, l, n, _, rfl, D, n0, n1, (by omega), (by omega), fun r H' r0 r1 f D' => ?_⟩
  have q : r.toNat < xs.length := by omega
  refine ⟨_, _, _, _, rfl, rfl, SqL.of (f b _ bp bl hb), _root_.L2.at_of (j := r.toNat) (by omega) (List.getElem?_eq_getElem q), ?_⟩
  exact k _ H' (List.getElem_mem q) f D'
abbrev s_l_taken : Stmt := topS 9
abbrev N_l_taken : List Str := ["_law_deck_here", "_law_desk", "_law_top", "_law_first"]
theorem sc_l_taken : FnScope N_l_taken ["_law_deck_here", "_law_desk", "_law_top"] (defScope s_l_taken) := ⟨rfl, rfl, rfl, by decide +kernel, rfl, by decide +kernel, by decide +kernel⟩
theorem ok_l_taken (T : Txt mg) (D : Df K mg "_law_taken" s_l_taken ["_law_deck_here", "_law_desk", "_law_top"]) (C_l_draw : Cal P w K mg base "_law_draw" ["_law_deck_here", "_law_many"] 1 (sp_l_draw K)) : Cal P w K mg base "_law_taken" ["_law_deck_here", "_law_desk", "_law_top"] 2 (sp_l_taken K) := by
  obtain ⟨f_l_draw, fd_l_draw, G_l_draw, m_l_draw, k_l_draw, b_l_draw⟩ := C_l_draw
  refine D.cal sc_l_taken (fun vs H Q E h => ?_) (fun f cdv A outer s H vs Q E hr h => ?_)
  · obtain ⟨p, l, d, n, top, m, num, den, least, step, rfl, _⟩ := h
    rfl
  obtain ⟨p, l, d, n, top, m, num, den, least, step, rfl, D, n0, n1, hd, o, t0, t1, k⟩ := h
  refine ⟨_, (pss_cons (ps_set (i := 3) sc_l_taken.nd rfl (Or.inl rfl) (pe_op op_fdivW (pe_op op_sub (pe_op op_add (pe_ix ix_tup (pv 1) pe_int (fun _ _ => rfl)) (pe_ix ix_tup (pv 1) pe_int (fun _ _ => rfl))) pe_int) (pe_ix ix_tup (pv 1) pe_int (fun _ _ => rfl))))
    (pss_one (ps_ret (pe_op op_mul (pe_ix ix_tup (pv 1) pe_int (fun _ _ => rfl)) (pe_op op_add (pv 3) (pe_call G_l_draw (hr.mono (by decide)) (by rfl) m_l_draw k_l_draw b_l_draw .nil pass0 (pa_cons (pv 0) (pa_cons (pv 2) pa_nil)))))))), ?_⟩
  have s0 := o.s0
  have s1 := o.s1
  have l0 := o.l0
  have l1 := o.l1
  refine ⟨_, rfl, _, _, _, _, rfl, rfl, SqT.of hd, atI_nat (j := 5) rfl, _, rfl, _, _, _, _, rfl, rfl, SqT.of hd, atI_nat (j := 6) rfl, _, _, rfl, rfl, _, _, rfl, rfl, _, rfl, _, _, _, _, rfl, rfl, SqT.of hd, atI_nat (j := 6) rfl, _, _, rfl, rfl, wide_div (b := 10) (by omega) (by omega) (by decide) (by decide), ?_⟩
  refine ⟨_, rfl, _, _, _, _, rfl, rfl, SqT.of hd, atI_nat (j := 6) rfl, _, rfl, _, rfl, _, rfl, p, l, n, top, rfl, D, n0, n1, t0, (by omega), fun r H' r0 r1 f D' => ?_⟩
  refine ⟨_, _, rfl, rfl, _, _, rfl, rfl, .inl ⟨by omega, by omega⟩, ?_⟩
  have a := div_hi (a := least + step - 1) (d := step) (by omega)
  have b : step * ((least + step - 1) / step + r) = step * ((least + step - 1) / step) + step * r := Int.mul_add _ _ _
  have c : 0 ≤ step * r := Int.mul_nonneg (by omega) r0
  exact k _ H' (by omega) (Int.mul_emod_right _ _) f D'
end
end Sm

set_option Elab.async false
set_option linter.all false
set_option maxRecDepth 100000
set_option maxHeartbeats 8000000
namespace Sm
open PySem PySem.Spec PyProof.Rows L2
def sp_l_order_right (K : PySem.W.Frag) : Sp := fun vs H Q _ => ∃ (d : Addr) (x : Int) (m : Nat) (num den least step : Int), vs = [.ref d, .int x] ∧ H d = some (.tup (deskV m num den least step)) ∧ DeskOk m num den least step ∧ least ≤ x ∧ x % step = 0 ∧
  ∀ H', Same H H' → Q (.bl true) H'
section
variable {P : Program} {w : World} {K : PySem.W.Frag} {mg : Str → Option Value} {base : Heap}
abbrev s_l_order_right : Stmt := topS 10
abbrev N_l_order_right : List Str := ["_law_desk", "_law_x", "_law_found", "_law_exact", "_law_how"]
theorem sc_l_order_right : FnScope N_l_order_right ["_law_desk", "_law_x"] (defScope s_l_order_right) := ⟨rfl, rfl, rfl, by decide +kernel, rfl, by decide +kernel, by decide +kernel⟩
theorem three {x : V} {i : Nat} {a b c : Int} (h : [V.str (hs 0), V.str (hs 2), V.str (hs 1)][i]? = some x) (G : Nat → Int) : ∃ m, m ≤ 2 ∧ x = .str (hs m) ∧ i < 3 ∧ [V.int (G 0), V.int (G 2), V.int (G 1)][i]? = some (.int (G m)) := by
  match i, h with
  | 0, h => exact ⟨0, by decide, (Option.some.inj h).symm, by decide, rfl⟩
  | 1, h => exact ⟨2, by decide, (Option.some.inj h).symm, by decide, rfl⟩
  | 2, h => exact ⟨1, by decide, (Option.some.inj h).symm, by decide, rfl⟩
  | i + 3, h => cases h
theorem ok_l_order_right (T : Txt mg) (D : Df K mg "_law_order_right" s_l_order_right ["_law_desk", "_law_x"]) (C_gives : Cal P w K mg base "gives" ["desk", "x"] 2 (sp_gives K)) : Cal P w K mg base "_law_order_right" ["_law_desk", "_law_x"] 3 (sp_l_order_right K) := by
  obtain ⟨f_gives, fd_gives, G_gives, m_gives, k_gives, b_gives⟩ := C_gives
  refine D.cal sc_l_order_right (fun vs H Q E h => ?_) (fun f cdv A outer s H vs Q E hr h => ?_)
  · obtain ⟨d, x, m, num, den, least, step, rfl, _⟩ := h
    rfl
  obtain ⟨d, x, m, num, den, least, step, rfl, hd, o, hx, hx0, k⟩ := h
  have n0 := o.n0
  have n1 := o.n1
  have d0 := o.d0
  have d1 := o.d1
  refine ⟨_, (pss_cons (ps_setLc (i := 2) (own := [("_law_how", 4)]) (g := gName 4) (tt := tYes) rfl sc_l_order_right.nd rfl rfl (sw_true rfl rfl rfl (by decide +kernel)) (pi_tup (pe_tup (pa_cons pe_str (pa_cons pe_str (pa_cons pe_str pa_nil))))) (blkOk_by (own := [("_law_how", 4)]) (N := N_l_order_right) (sc := defScope s_l_order_right) (by decide +kernel)) (fun _ _ _ _ _ => pg_name (i := 4) sc_l_order_right.nd rfl (Or.inl rfl)) (fun _ _ _ _ _ => pts_nil) (fun _ _ _ _ _ => (pe_call G_gives (hr.mono (by decide)) (by rfl) m_gives k_gives b_gives .nil pass0 (pa_cons (pe_op (show OpR _ _ (rCatT K) from op_catT) (pe_op (show OpR _ _ (rCatT K) from op_catT) (pe_slice (show SlR _ (rSlT K) from sl_tup) (pv 0) po_none (po_some pe_int)) (pe_tup (pa_cons (pv 4) pa_nil))) (pe_slice (show SlR _ (rSlT K) from sl_tup) (pv 0) (po_some pe_int) po_none)) (pa_cons (pv 1) pa_nil)))))
    (pss_cons (ps_set (i := 3) sc_l_order_right.nd rfl (Or.inl rfl) (pe_op op_mul (pe_ix ix_tup (pv 0) pe_int (fun _ _ => rfl)) (pv 1)))
    (pss_cons (ps_if (PW.pt (pw_or (pt_not (pt_chain op_le op_le (pe_op op_mul (pe_ix ix_list (pv 2) pe_int (fun _ _ => rfl)) (pe_ix ix_tup (pv 0) pe_int (fun _ _ => rfl))) (pv 3) (pe_op op_mul (pe_ix ix_list (pv 2) pe_int (fun _ _ => rfl)) (pe_ix ix_tup (pv 0) pe_int (fun _ _ => rfl))))) (pw_or1 (pt_not (pt_chain op_le op_le (pe_ix ix_list (pv 2) pe_int (fun _ _ => rfl)) (pe_ix ix_list (pv 2) pe_int (fun _ _ => rfl)) (pe_ix ix_list (pv 2) pe_int (fun _ _ => rfl))))))) (pss_one (ps_ret pe_bl)) pss_nil)
    (pss_one (ps_ret (pe_and (pe_cmpR op_le (pe_op op_sub (pe_ix ix_list (pv 2) pe_int (fun _ _ => rfl)) (pe_ix ix_list (pv 2) pe_int (fun _ _ => rfl))) pe_int (nomark _)) (pe_one (pe_cmpR op_le (pe_op op_mul pe_int (pe_callB call_abs (by rfl) T.n_abs (by decide +kernel) (pa_cons (pe_op op_sub (pe_op op_mul (pe_ix ix_list (pv 2) pe_int (fun _ _ => rfl)) (pe_ix ix_tup (pv 0) pe_int (fun _ _ => rfl))) (pv 3)) pa_nil))) (pe_ix ix_tup (pv 0) pe_int (fun _ _ => rfl)) (nomark _))))))))), ?_⟩
  refine ⟨(by show 3 ≤ sizeLine; decide), fun t nt => ⟨t, rfl, ⟨_, SqT.of upd_same⟩, fun D nD => ?_⟩⟩
  have st := same_upd (o := .tup [.str (hs 0), .str (hs 2), .str (hs 1)]) nt
  have sD := same_upd (o := .lst []) nD
  have s1 := st.trans sD
  refine lc_tup (K := K) (a := t) (xs := [.str (hs 0), .str (hs 2), .str (hs 1)]) (fun i H' => Same H H' ∧ H' t = some (.tup [.str (hs 0), .str (hs 2), .str (hs 1)]) ∧ t ≠ D ∧ H D = none ∧
      H' D = some (.lst ([V.int (Gm 0 (num * x) den), V.int (Gm 2 (num * x) den), V.int (Gm 1 (num * x) den)].take i)))
    ⟨s1, sD _ _ upd_same, ne_of_none upd_same nD, st.free nD, upd_same⟩ (fun i H' _ h => SqT.of h.2.1) ?_ ?_
  · rintro i y H' hy ⟨sm, ht, ntD, nD0, hD⟩
    obtain ⟨mi, hm, rfl, hi, hr'⟩ := three (a := 0) (b := 0) (c := 0) hy (fun m => Gm m (num * x) den)
    refine ⟨rfl, ?_⟩
    unfold tYes
    refine iteT ?_
    have h0 := sm _ _ hd
    refine ⟨_, rfl, _, rfl, d, _, rfl, SqT.of h0, (by show ¬ (0 = 0 ∧ 4 = 8); decide), fun p1 q1 => ?_⟩
    have t1 := same_upd (o := .tup (cutV (deskV m num den least step) none (some 4))) q1
    refine ⟨_, rfl, (by show 1 ≤ sizeLine; decide), fun p2 q2 => ?_⟩
    have t2 := same_upd (o := .tup [.str (hs mi)]) q2
    refine ⟨_, _, _, _, rfl, rfl, SqT.of (t2 _ _ upd_same), SqT.of upd_same, (fun q => nomatch q), (by show 5 ≤ sizeLine; decide), (fun q => nomatch q), fun _ p3 q3 => ?_⟩
    have t3 := same_upd (o := .tup (cutV (deskV m num den least step) none (some 4) ++ [.str (hs mi)])) q3
    have t123 := t1.trans (t2.trans t3)
    refine ⟨_, rfl, _, rfl, d, _, rfl, SqT.of (t123 _ _ h0), (by show ¬ (5 = 0 ∧ 8 = 8); decide), fun p4 q4 => ?_⟩
    have t4 := same_upd (o := .tup (cutV (deskV m num den least step) (some 5) none)) q4
    refine ⟨_, _, _, _, rfl, rfl, SqT.of (t4 _ _ upd_same), SqT.of upd_same, (fun q => nomatch q), (by show 8 ≤ sizeLine; decide), (fun q => nomatch q), fun _ p5 q5 => ?_⟩
    have t5 := same_upd (o := .tup (deskV mi num den least step)) q5
    have t15 := t123.trans (t4.trans t5)
    refine ⟨_, rfl, p5, x, mi, num, den, least, step, rfl, upd_same, { o with hm := hm }, hx, hx0, fun H6 s6 => ?_⟩
    have t16 := t15.trans s6
    refine ⟨_, t16 _ _ hD, ?_, fun b u e => ?_, ?_, ntD, nD0, ?_⟩
    · rw [List.length_take]
      exact Nat.lt_of_le_of_lt (Nat.min_le_right _ _) (by show 3 < sizeLine; decide)
    · rw [upd_ne (ne_of_none e nD0)]
      exact t16 _ _ (sm _ _ e)
    · rw [upd_ne ntD]
      exact t16 _ _ ht
    · rw [upd_same, List.take_add_one, hr']
      rfl
  · rintro H' ⟨sm, ht, ntD, nD0, hD⟩
    have h0 := sm _ _ hd
    have hD : H' D = some (.lst [V.int (Gm 0 (num * x) den), V.int (Gm 2 (num * x) den), V.int (Gm 1 (num * x) den)]) := hD
    obtain ⟨g1, g2, g3, g4, g5, g6, g7⟩ := G_order (d := den) (e := num * x) (by omega)
    refine ⟨_, rfl, _, _, _, _, rfl, rfl, SqT.of h0, atI_nat (j := 2) rfl, _, rfl, _, _, rfl, rfl, .inl ⟨by omega, by omega⟩, ?_⟩
    refine ⟨_, rfl, _, _, _, _, rfl, rfl, SqL.of hD, atI_nat (j := 0) rfl, _, rfl, _, _, _, _, rfl, rfl, SqT.of h0, atI_nat (j := 3) rfl, _, _, rfl, rfl, .inr ⟨by omega, by omega⟩, _, rfl, _, _, rfl, rfl, _, rfl, ?_⟩
    refine iteP (show Gm 0 (num * x) den * den ≤ num * x by rw [Int.mul_comm]; exact g1) ?_
    refine ⟨_, rfl, _, _, _, _, rfl, rfl, SqL.of hD, atI_nat (j := 2) rfl, _, rfl, _, _, _, _, rfl, rfl, SqT.of h0, atI_nat (j := 3) rfl, _, _, rfl, rfl, .inr ⟨by omega, by omega⟩, _, _, rfl, rfl, _, rfl, ?_⟩
    refine iteNP (show num * x ≤ Gm 1 (num * x) den * den by rw [Int.mul_comm (Gm 1 (num * x) den)]; exact g2) ?_
    refine ⟨_, rfl, _, _, _, _, rfl, rfl, SqL.of hD, atI_nat (j := 0) rfl, _, rfl, _, _, _, _, rfl, rfl, SqL.of hD, atI_nat (j := 1) rfl, _, _, rfl, rfl, _, rfl, ?_⟩
    refine iteP g3 ?_
    refine ⟨_, rfl, _, _, _, _, rfl, rfl, SqL.of hD, atI_nat (j := 2) rfl, _, _, rfl, rfl, _, rfl, ?_⟩
    refine iteNP g4 ?_
    refine ⟨_, rfl, _, _, _, _, rfl, rfl, SqL.of hD, atI_nat (j := 2) rfl, _, rfl, _, _, _, _, rfl, rfl, SqL.of hD, atI_nat (j := 0) rfl, _, _, rfl, rfl, _, _, rfl, rfl, _, rfl, ?_⟩
    refine iteP g5 ?_
    refine ⟨_, rfl, _, _, _, _, rfl, rfl, SqL.of hD, atI_nat (j := 1) rfl, _, rfl, _, _, _, _, rfl, rfl, SqT.of h0, atI_nat (j := 3) rfl, _, _, rfl, rfl, .inr ⟨by omega, by omega⟩, _, rfl, _, _, rfl, rfl, _, rfl, _, _, rfl, rfl, .inl ⟨by decide, by decide⟩, _, rfl, _, _, _, _, rfl, rfl, SqT.of h0, atI_nat (j := 3) rfl, _, _, rfl, rfl, ?_⟩
    have z : 2 * (if Gm 2 (num * x) den * den - num * x < 0 then -(Gm 2 (num * x) den * den - num * x) else Gm 2 (num * x) den * den - num * x) ≤ den := by
      rw [Int.mul_comm (Gm 2 (num * x) den)]
      split <;> omega
    have k := k _ sm
    rw [← decide_eq_true z] at k
    exact k
end
end Sm

set_option Elab.async false
set_option linter.all false
set_option maxRecDepth 100000
set_option maxHeartbeats 16000000
namespace Sm
open PySem PySem.Spec PyProof.Rows L2
def sp_law (K : PySem.W.Frag) : Sp := fun vs H Q _ => ∃ (a : Addr) (ns : List Int), vs = [.ref a] ∧ SqL K H a (ns.map V.int) ∧ ns.length ≤ 63 ∧ ∀ H', Q (.bl true) H'
section
variable {P : Program} {w : World} {K : PySem.W.Frag} {mg : Str → Option Value} {base : Heap}
abbrev s_law : Stmt := topS 11
abbrev N_law : List Str := ["_law_script", "_law_deck_here", "_law_turn", "_law_how", "_law_rate", "_law_desk", "_law_more", "_law_top", "_law_x", "_law_z", "_law_times", "_law_both", "_law_parted"]
theorem sc_law : FnScope N_law ["_law_script"] (defScope s_law) := ⟨rfl, rfl, rfl, by decide +kernel, rfl, by decide +kernel, by decide +kernel⟩
theorem ne_new {H : Hp} {p b : Addr} {o : HO} (h : H p = some o) (n : H b = none) : b ≠ p := (ne_of_none h n).symm
theorem mod_add {x t k s : Int} (h : x % s = 0) : (x + t * (s * k)) % s = 0 := by
  have e : x + t * (s * k) = x + s * (t * k) := by rw [Int.mul_left_comm]
  rw [e, Int.add_mul_emod_self_left, h]
theorem mod_both {x z s : Int} (h : x % s = 0) (g : z % s = 0) : (x + z) % s = 0 := by
  rw [Int.add_emod, h, g]
  rfl
theorem ok_lawF {f : Addr} {fd : FuncData} (T : Txt mg) (F : Fun K "law" "law" s_law f fd) (C_gives : Cal P w K mg base "gives" ["desk", "x"] 2 (sp_gives K)) (C_l_order_right : Cal P w K mg base "_law_order_right" ["_law_desk", "_law_x"] 3 (sp_l_order_right K)) (C_takes : Cal P w K mg base "takes" ["desk", "x"] 1 (sp_takes K)) (C_l_gives : Cal P w K mg base "_law_gives" ["_law_desk", "_law_x"] 1 (sp_l_gives K)) (C_l_draw : Cal P w K mg base "_law_draw" ["_law_deck_here", "_law_many"] 1 (sp_l_draw K)) (C_l_one : Cal P w K mg base "_law_one" ["_law_deck_here", "_law_items"] 2 (sp_l_one K)) (C_l_taken : Cal P w K mg base "_law_taken" ["_law_deck_here", "_law_desk", "_law_top"] 2 (sp_l_taken K)) (C_l_multiple : Cal P w K mg base "_law_multiple" ["_law_one_here", "_law_other"] 1 (sp_l_multiple K)) (C_l_deck : Cal P w K mg base "_law_deck" ["_law_script"] 1 (sp_l_deck K)) : FnOk P w K mg base CX0 4 f fd ["_law_script"] (sp_law K) := by
  obtain ⟨f_gives, fd_gives, G_gives, m_gives, k_gives, b_gives⟩ := C_gives
  obtain ⟨f_l_order_right, fd_l_order_right, G_l_order_right, m_l_order_right, k_l_order_right, b_l_order_right⟩ := C_l_order_right
  obtain ⟨f_takes, fd_takes, G_takes, m_takes, k_takes, b_takes⟩ := C_takes
  obtain ⟨f_l_gives, fd_l_gives, G_l_gives, m_l_gives, k_l_gives, b_l_gives⟩ := C_l_gives
  obtain ⟨f_l_draw, fd_l_draw, G_l_draw, m_l_draw, k_l_draw, b_l_draw⟩ := C_l_draw
  obtain ⟨f_l_one, fd_l_one, G_l_one, m_l_one, k_l_one, b_l_one⟩ := C_l_one
  obtain ⟨f_l_taken, fd_l_taken, G_l_taken, m_l_taken, k_l_taken, b_l_taken⟩ := C_l_taken
  obtain ⟨f_l_multiple, fd_l_multiple, G_l_multiple, m_l_multiple, k_l_multiple, b_l_multiple⟩ := C_l_multiple
  obtain ⟨f_l_deck, fd_l_deck, G_l_deck, m_l_deck, k_l_deck, b_l_deck⟩ := C_l_deck
  refine F.ok sc_law (fun vs H Q E h => ?_) (fun cdv A outer s H vs Q E hr h => ?_)
  · obtain ⟨a, ns, rfl, _⟩ := h
    rfl
  obtain ⟨a, ns, rfl, hS, hlen, kk⟩ := h
  refine ⟨_, (pss_cons (ps_set (i := 1) sc_law.nd rfl (Or.inl rfl) (pe_call G_l_deck (hr.mono (by decide)) (by rfl) m_l_deck k_l_deck b_l_deck .nil pass0 (pa_cons (pv 0) pa_nil)))
    (pss_cons (ps_for PassesOwn.never rfl (pi_range1 (by rfl) T.n_range (pa_cons pe_int pa_nil)) (pg_name (i := 2) sc_law.nd rfl (Or.inl rfl))
      (pss_cons (ps_set (i := 3) sc_law.nd rfl (Or.inl rfl) (pe_call G_l_one (hr.mono (by decide)) (by rfl) m_l_one k_l_one b_l_one .nil pass0 (pa_cons (pv 1) (pa_cons (pe_lst (pa_cons pe_str (pa_cons pe_str (pa_cons pe_str pa_nil)))) pa_nil))))
    (pss_cons (ps_set (i := 4) sc_law.nd rfl (Or.inl rfl) (pe_tup (pa_cons (pe_call G_l_draw (hr.mono (by decide)) (by rfl) m_l_draw k_l_draw b_l_draw .nil pass0 (pa_cons (pv 1) (pa_cons pe_int pa_nil))) (pa_cons (pe_op op_add pe_int (pe_call G_l_draw (hr.mono (by decide)) (by rfl) m_l_draw k_l_draw b_l_draw .nil pass0 (pa_cons (pv 1) (pa_cons pe_int pa_nil)))) pa_nil))))
    (pss_cons (ps_set (i := 5) sc_law.nd rfl (Or.inl rfl) (pe_op op_catT (pe_op op_catT (pe_tup (pa_cons pe_int (pa_cons pe_int pa_nil))) (pv 4)) (pe_tup (pa_cons (pv 3) (pa_cons (pe_op op_add pe_int (pe_call G_l_draw (hr.mono (by decide)) (by rfl) m_l_draw k_l_draw b_l_draw .nil pass0 (pa_cons (pv 1) (pa_cons pe_int pa_nil)))) (pa_cons (pe_op op_add pe_int (pe_call G_l_draw (hr.mono (by decide)) (by rfl) m_l_draw k_l_draw b_l_draw .nil pass0 (pa_cons (pv 1) (pa_cons pe_int pa_nil)))) (pa_cons pe_non pa_nil)))))))
    (pss_cons (ps_set (i := 6) sc_law.nd rfl (Or.inl rfl) (pe_call G_l_multiple (hr.mono (by decide)) (by rfl) m_l_multiple k_l_multiple b_l_multiple .nil pass0 (pa_cons (pe_ix ix_tup (pv 5) pe_int (fun _ _ => rfl)) (pa_cons (pe_ix ix_tup (pv 5) pe_int (fun _ _ => rfl)) pa_nil))))
    (pss_cons (ps_set (i := 7) sc_law.nd rfl (Or.inl rfl) (pe_call G_l_one (hr.mono (by decide)) (by rfl) m_l_one k_l_one b_l_one .nil pass0 (pa_cons (pv 1) (pa_cons (pe_lst (pa_cons pe_int (pa_cons pe_int (pa_cons (pe_op op_pow pe_int pe_int) (pa_cons (pe_op op_pow pe_int pe_int) pa_nil))))) pa_nil))))
    (pss_cons (ps_par (i := 8) (j := 9) (by rfl) sc_law.nd rfl rfl (by decide) rfl rfl (pa_cons (pe_call G_l_taken (hr.mono (by decide)) (by rfl) m_l_taken k_l_taken b_l_taken .nil pass0 (pa_cons (pv 1) (pa_cons (pv 5) (pa_cons (pv 7) pa_nil)))) (pa_cons (pe_call G_l_taken (hr.mono (by decide)) (by rfl) m_l_taken k_l_taken b_l_taken .nil pass0 (pa_cons (pv 1) (pa_cons (pv 5) (pa_cons (pv 7) pa_nil)))) pa_nil)) (by rfl))
    (pss_cons (ps_set (i := 10) sc_law.nd rfl (Or.inl rfl) (pe_op op_add pe_int (pe_call G_l_draw (hr.mono (by decide)) (by rfl) m_l_draw k_l_draw b_l_draw .nil pass0 (pa_cons (pv 1) (pa_cons (pe_call G_l_one (hr.mono (by decide)) (by rfl) m_l_one k_l_one b_l_one .nil pass0 (pa_cons (pv 1) (pa_cons (pe_lst (pa_cons pe_int (pa_cons (pe_op op_pow pe_int pe_int) pa_nil))) pa_nil))) pa_nil)))))
    (pss_cons (ps_if (pt_cmpR op_ne (pe_op op_sub (pe_call G_gives (hr.mono (by decide)) (by rfl) m_gives k_gives b_gives .nil pass0 (pa_cons (pv 5) (pa_cons (pe_op op_add (pv 8) (pe_op op_mul (pv 10) (pv 6))) pa_nil))) (pe_call G_gives (hr.mono (by decide)) (by rfl) m_gives k_gives b_gives .nil pass0 (pa_cons (pv 5) (pa_cons (pv 8) pa_nil)))) (pe_op op_fdivW (pe_op op_mul (pe_op op_mul (pv 10) (pe_ix ix_tup (pv 5) pe_int (fun _ _ => rfl))) (pv 6)) (pe_ix ix_tup (pv 5) pe_int (fun _ _ => rfl))) (nomark _)) (pss_one (ps_ret pe_bl)) pss_nil)
    (pss_cons (ps_if (PW.pt (pw_or (pt_cmpR op_ne (pe_call G_gives (hr.mono (by decide)) (by rfl) m_gives k_gives b_gives .nil pass0 (pa_cons (pv 5) (pa_cons (pv 8) pa_nil))) (pe_call G_l_gives (hr.mono (by decide)) (by rfl) m_l_gives k_l_gives b_l_gives .nil pass0 (pa_cons (pv 5) (pa_cons (pv 8) pa_nil))) (nomark _)) (pw_or (pt_cmpR op_isnot_bl (pe_call G_takes (hr.mono (by decide)) (by rfl) m_takes k_takes b_takes .nil pass0 (pa_cons (pv 5) (pa_cons (pv 8) pa_nil))) pe_bl (nomark _)) (pw_or1 (pt_not (pt_val (pe_call G_l_order_right (hr.mono (by decide)) (by rfl) m_l_order_right k_l_order_right b_l_order_right .nil pass0 (pa_cons (pv 5) (pa_cons (pv 8) pa_nil))))))))) (pss_one (ps_ret pe_bl)) pss_nil)
    (pss_cons (ps_par (i := 11) (j := 12) (by rfl) sc_law.nd rfl rfl (by decide) rfl rfl (pa_cons (pe_call G_gives (hr.mono (by decide)) (by rfl) m_gives k_gives b_gives .nil pass0 (pa_cons (pv 5) (pa_cons (pe_op op_add (pv 8) (pv 9)) pa_nil))) (pa_cons (pe_op op_add (pe_call G_gives (hr.mono (by decide)) (by rfl) m_gives k_gives b_gives .nil pass0 (pa_cons (pv 5) (pa_cons (pv 8) pa_nil))) (pe_call G_gives (hr.mono (by decide)) (by rfl) m_gives k_gives b_gives .nil pass0 (pa_cons (pv 5) (pa_cons (pv 9) pa_nil)))) pa_nil)) (by rfl))
    (pss_one (ps_if (PW.pt (pw_or (PW.pt (pw_and (pt_cmpR op_eq (pv 3) pe_str (nomark _)) (pw_and1 (pt_cmpR op_gt (pv 12) (pv 11) (nomark _))))) (pw_or (PW.pt (pw_and (pt_cmpR op_eq (pv 3) pe_str (nomark _)) (pw_and1 (pt_cmpR op_lt (pv 12) (pv 11) (nomark _))))) (pw_or1 (pt_cmpR op_gt (pe_callB call_abs (by rfl) T.n_abs (by decide +kernel) (pa_cons (pe_op op_sub (pv 11) (pv 12)) pa_nil)) pe_int (nomark _)))))) (pss_one (ps_ret pe_bl)) pss_nil)))))))))))))
    (pss_one (ps_ret pe_bl)))), ?_⟩
  refine ⟨_, rfl, a, ns, rfl, hS, hlen, fun H1 p l s1 D1 => ?_⟩
  refine ⟨24, rfl, (by decide), (by decide), for_range (lo := 0) (n := 24) (fun i σ H' => ∃ (n : Int) (v2 v3 v4 v5 v6 v7 v8 v9 v10 v11 v12 : Option V), σ = [some (.ref a), some (.ref p), v2, v3, v4, v5, v6, v7, v8, v9, v10, v11, v12] ∧ Deck H' p l n ∧ 0 ≤ n ∧ n ≤ 10 * (i : Int))
    ⟨0, none, none, none, none, none, none, none, none, none, none, none, rfl, D1, by omega, by omega⟩ ?_ ?_⟩
  · rintro i σ H2 hi ⟨n, v2, v3, v4, v5, v6, v7, v8, v9, v10, v11, v12, rfl, D2, n0, n1⟩
    -- how = one(deck, [..])
    refine ⟨_, rfl, (by show 3 ≤ sizeLine; decide), fun b nb => ?_⟩
    have sb := same_upd (o := .lst [.str (hs 0), .str (hs 1), .str (hs 2)]) nb
    obtain ⟨c2, hl2, _⟩ := D2.hl
    refine ⟨p, l, b, n, _, rfl, D2.same sb, n0, by omega, upd_same, ne_new D2.hp nb, ne_new hl2 nb, (by show 0 < 3; decide), (by show 3 ≤ 1000; decide), fun hv H3 hvm f3 D3 => ?_⟩
    obtain ⟨m, hm, rfl⟩ : ∃ m, m ≤ 2 ∧ hv = .str (hs m) := by
      have hvm : hv ∈ [V.str (hs 0), V.str (hs 1), V.str (hs 2)] := hvm
      rcases List.mem_cons.mp hvm with q | q
      · exact ⟨0, by decide, q⟩
      rcases List.mem_cons.mp q with q | q
      · exact ⟨1, by decide, q⟩
      · exact ⟨2, by decide, List.mem_singleton.mp q⟩
    -- rate = (draw, 1 + draw)
    refine ⟨_, rfl, p, l, n + 1, 31, rfl, D3, by omega, by omega, by omega, by omega, fun r1 H4 r10 r11 f4 D4 => ?_⟩
    refine ⟨_, rfl, p, l, n + 1 + 1, 30, rfl, D4, by omega, by omega, by omega, by omega, fun r2 H5 r20 r21 f5 D5 => ?_⟩
    refine ⟨_, _, rfl, rfl, (by show 2 ≤ sizeLine; decide), fun t nt => ?_⟩
    have st := same_upd (o := .tup [.int r1, .int (1 + r2)]) nt
    have D6 := D5.same st
    -- desk = (0, 1) + rate + (..)
    refine ⟨(by show 2 ≤ sizeLine; decide), fun t1 nt1 => ?_⟩
    have st1 := same_upd (o := .tup [.int 0, .int 1]) nt1
    refine ⟨_, rfl, _, _, _, _, rfl, rfl, SqT.of upd_same, SqT.of (st1 _ _ upd_same), (fun q => nomatch q), (by show 4 ≤ sizeLine; decide), (fun q => nomatch q), fun _ t2 nt2 => ?_⟩
    have st2 := same_upd (o := .tup [.int 0, .int 1, .int r1, .int (1 + r2)]) nt2
    have D7 := D6.same (st1.trans st2)
    refine ⟨_, rfl, _, rfl, p, l, _, 30, rfl, D7, by omega, by omega, by omega, by omega, fun r3 H8 r30 r31 f8 D8 => ?_⟩
    refine ⟨_, _, rfl, rfl, _, rfl, p, l, _, 30, rfl, D8, by omega, by omega, by omega, by omega, fun r4 H9 r40 r41 f9 D9 => ?_⟩
    refine ⟨_, _, rfl, rfl, (by show 4 ≤ sizeLine; decide), fun t3 nt3 => ?_⟩
    have st3 := same_upd (o := .tup [.str (hs m), .int (1 + r3), .int (1 + r4), .non]) nt3
    have ht2 : H9 t2 = some (.tup [.int 0, .int 1, .int r1, .int (1 + r2)]) := f9.tup D8 (f8.tup D7 upd_same)
    refine ⟨_, _, _, _, rfl, rfl, SqT.of (st3 _ _ ht2), SqT.of upd_same, (fun q => nomatch q), (by show 8 ≤ sizeLine; decide), (fun q => nomatch q), fun _ d nd => ?_⟩
    have o : DeskOk m r1 (1 + r2) (1 + r3) (1 + r4) := ⟨hm, r10, by omega, by omega, by omega, by omega, by omega, by omega, by omega⟩
    have sd := same_upd (o := .tup (deskV m r1 (1 + r2) (1 + r3) (1 + r4))) nd
    have D10 := D9.same (st3.trans sd)
    -- more = multiple(desk[6], desk[3])
    have hd : upd (upd H9 t3 (.tup [.str (hs m), .int (1 + r3), .int (1 + r4), .non])) d (.tup (deskV m r1 (1 + r2) (1 + r3) (1 + r4))) d = some (.tup (deskV m r1 (1 + r2) (1 + r3) (1 + r4))) := upd_same
    refine ⟨_, rfl, _, _, _, _, rfl, rfl, SqT.of hd, atI_nat (j := 6) rfl, _, rfl, _, _, _, _, rfl, rfl, SqT.of hd, atI_nat (j := 3) rfl, _, _, rfl, by omega, by omega, by omega, by omega, fun more m0 m1 ms md => ?_⟩
    -- top = one(deck, [9, 100, ..])
    refine ⟨_, rfl, _, _, rfl, rfl, ⟨by decide, by decide, by decide⟩, _, _, rfl, rfl, ⟨by decide, by decide, by decide⟩, (by show 4 ≤ sizeLine; decide), fun b2 nb2 => ?_⟩
    have sb2 := same_upd (o := .lst [.int 9, .int 100, .int (10 ^ 9), .int (10 ^ 28)]) nb2
    obtain ⟨c10, hl10, _⟩ := D10.hl
    refine ⟨p, l, b2, _, _, rfl, D10.same sb2, by omega, by omega, upd_same, ne_new D10.hp nb2, ne_new hl10 nb2, (by show 0 < 4; decide), (by show 4 ≤ 1000; decide), fun tv H11 tvm f11 D11 => ?_⟩
    have hd11 : H11 d = some (.tup (deskV m r1 (1 + r2) (1 + r3) (1 + r4))) := f11.tup (D10.same sb2) (sb2 _ _ hd)
    obtain ⟨top, t0, t9, rfl⟩ : ∃ top : Int, 0 < top ∧ top ≤ 10000000000000000000000000000 ∧ tv = .int top := by
      have tvm : tv ∈ [V.int 9, V.int 100, V.int (10 ^ 9), V.int (10 ^ 28)] := tvm
      rcases List.mem_cons.mp tvm with q | q
      · exact ⟨9, by decide, by decide, q⟩
      rcases List.mem_cons.mp q with q | q
      · exact ⟨100, by decide, by decide, q⟩
      rcases List.mem_cons.mp q with q | q
      · exact ⟨10 ^ 9, by decide, by decide, q⟩
      · exact ⟨10 ^ 28, by decide, by decide, List.mem_singleton.mp q⟩
    -- x, z = taken, taken
    refine ⟨_, rfl, _, rfl, _, rfl, p, l, d, _, top, m, r1, 1 + r2, 1 + r3, 1 + r4, rfl, D11, by omega, by omega, hd11, o, t0, t9, fun x H12 x0 xm f12 D12 => ?_⟩
    have hd12 := f12.tup D11 hd11
    refine ⟨_, rfl, _, rfl, _, rfl, p, l, d, _, top, m, r1, 1 + r2, 1 + r3, 1 + r4, rfl, D12, by omega, by omega, hd12, o, t0, t9, fun z H13 z0 zm f13 D13 => ?_⟩
    have hd13 := f13.tup D12 hd12
    refine ⟨_, _, rfl, ?_⟩
    -- times = 1 + draw(deck, one(deck, [3, 10 ** 6]))
    refine ⟨_, rfl, _, rfl, _, _, rfl, rfl, ⟨by decide, by decide, by decide⟩, (by show 2 ≤ sizeLine; decide), fun b3 nb3 => ?_⟩
    have sb3 := same_upd (o := .lst [.int 3, .int (10 ^ 6)]) nb3
    obtain ⟨c13, hl13, _⟩ := D13.hl
    refine ⟨p, l, b3, _, _, rfl, D13.same sb3, by omega, by omega, upd_same, ne_new D13.hp nb3, ne_new hl13 nb3, (by show 0 < 2; decide), (by show 2 ≤ 1000; decide), fun uv H14 uvm f14 D14 => ?_⟩
    have hd14 : H14 d = some (.tup (deskV m r1 (1 + r2) (1 + r3) (1 + r4))) := f14.tup (D13.same sb3) (sb3 _ _ hd13)
    obtain ⟨u, u0, u9, rfl⟩ : ∃ u : Int, 0 < u ∧ u ≤ 1000000 ∧ uv = .int u := by
      have uvm : uv ∈ [V.int 3, V.int (10 ^ 6)] := uvm
      rcases List.mem_cons.mp uvm with q | q
      · exact ⟨3, by decide, by decide, q⟩
      · exact ⟨10 ^ 6, by decide, by decide, List.mem_singleton.mp q⟩
    refine ⟨p, l, _, u, rfl, D14, by omega, by omega, u0, by omega, fun r5 H15 r50 r51 f15 D15 => ?_⟩
    have hd15 := f15.tup D14 hd14
    refine ⟨_, _, rfl, rfl, ?_⟩
    -- the first test
    obtain ⟨ks, hks⟩ := Int.dvd_of_emod_eq_zero ms
    obtain ⟨kd, hkd⟩ := Int.dvd_of_emod_eq_zero md
    have a1 : 1 + r3 ≤ x + (1 + r5) * more := by
      have := Int.mul_nonneg (show 0 ≤ 1 + r5 by omega) (show 0 ≤ more by omega)
      omega
    have a2 : (x + (1 + r5) * more) % (1 + r4) = 0 := by rw [hks]; exact mod_add xm
    refine ⟨_, rfl, _, rfl, _, rfl, _, rfl, _, _, rfl, rfl, .inr ⟨by omega, by omega⟩, _, _, rfl, rfl, d, _, m, r1, 1 + r2, 1 + r3, 1 + r4, rfl, hd15, o, a1, a2, fun H16 s16 => ?_⟩
    have hd16 := s16 _ _ hd15
    refine ⟨_, rfl, _, rfl, d, _, m, r1, 1 + r2, 1 + r3, 1 + r4, rfl, hd16, o, x0, xm, fun H17 s17 => ?_⟩
    have hd17 := s17 _ _ hd16
    refine ⟨_, _, rfl, rfl, _, rfl, _, rfl, _, _, _, _, rfl, rfl, SqT.of hd17, atI_nat (j := 2) rfl, _, _, rfl, rfl, .inr ⟨by omega, by omega⟩, _, rfl, _, _, rfl, rfl, .inr ⟨by omega, by omega⟩, _, rfl, _, _, _, _, rfl, rfl, SqT.of hd17, atI_nat (j := 3) rfl, _, _, rfl, rfl, o.div, rfl, _, rfl, ?_⟩
    have dp : 0 < 1 + r2 := by omega
    have b1 : r1 * (x + (1 + r5) * more) = r1 * x + (1 + r2) * ((1 + r5) * r1 * kd) := by
      rw [hkd, Int.mul_add]
      congr 1
      ac_rfl
    have b2' : (1 + r5) * r1 * more / (1 + r2) = (1 + r5) * r1 * kd := by
      rw [hkd, show (1 + r5) * r1 * ((1 + r2) * kd) = (1 + r2) * ((1 + r5) * r1 * kd) by ac_rfl]
      exact Int.mul_ediv_cancel_left _ (by omega)
    refine iteNP (show V.int (Gm m (r1 * (x + (1 + r5) * more)) (1 + r2) - Gm m (r1 * x) (1 + r2)) = V.int ((1 + r5) * r1 * more / (1 + r2)) from congrArg V.int (by rw [b1, G_turn hm dp, b2']; omega)) ?_
    -- the second test
    refine ⟨_, rfl, _, rfl, d, _, m, r1, 1 + r2, 1 + r3, 1 + r4, rfl, hd17, o, x0, xm, fun H18 s18 => ?_⟩
    have hd18 := s18 _ _ hd17
    refine ⟨_, rfl, _, rfl, d, _, m, r1, 1 + r2, 1 + r3, 1 + r4, rfl, hd18, o, x0, xm, rfl, _, rfl, ?_⟩
    refine iteNP (show V.int (Gm m (r1 * x) (1 + r2)) = V.int (LG m (r1 * x) (1 + r2)) from congrArg V.int (LG_eq hm dp)) ?_
    refine ⟨_, rfl, _, rfl, d, _, m, r1, 1 + r2, 1 + r3, 1 + r4, rfl, hd18, o, x0, xm, fun H19 s19 => ?_⟩
    have hd19 := s19 _ _ hd18
    refine ⟨_, _, rfl, rfl, _, rfl, ?_⟩
    refine iteNP (show true = true from rfl) ?_
    refine ⟨_, rfl, _, rfl, d, _, m, r1, 1 + r2, 1 + r3, 1 + r4, rfl, hd19, o, x0, xm, fun H20 s20 => ?_⟩
    have hd20 := s20 _ _ hd19
    refine ⟨_, rfl, iteF ?_⟩
    -- both, parted
    have c1 : 1 + r3 ≤ x + z := by omega
    refine ⟨_, rfl, _, rfl, _, rfl, _, _, rfl, rfl, d, _, m, r1, 1 + r2, 1 + r3, 1 + r4, rfl, hd20, o, c1, mod_both xm zm, fun H21 s21 => ?_⟩
    have hd21 := s21 _ _ hd20
    refine ⟨_, rfl, _, rfl, d, _, m, r1, 1 + r2, 1 + r3, 1 + r4, rfl, hd21, o, x0, xm, fun H22 s22 => ?_⟩
    have hd22 := s22 _ _ hd21
    refine ⟨_, rfl, _, rfl, d, _, m, r1, 1 + r2, 1 + r3, 1 + r4, rfl, hd22, o, z0, zm, fun H23 s23 => ?_⟩
    refine ⟨_, _, rfl, rfl, _, _, rfl, ?_⟩
    have D23 : Deck H23 p l (n + 1 + 1 + 1 + 1 + 1 + 1 + 1 + 1 + 1 + 1) := D15.same (s16.trans (s17.trans (s18.trans (s19.trans (s20.trans (s21.trans (s22.trans s23)))))))
    obtain ⟨e1, e2, e3, e4⟩ := G_both (m := m) (d := 1 + r2) (e := r1 * x) (f := r1 * z) hm dp
    rw [← Int.mul_add] at e1 e2 e3 e4
    -- the last test
    have last : ∀ A B : Prop, B → (if decide (1 < if Gm m (r1 * (x + z)) (1 + r2) - (Gm m (r1 * x) (1 + r2) + Gm m (r1 * z) (1 + r2)) < 0 then -(Gm m (r1 * (x + z)) (1 + r2) - (Gm m (r1 * x) (1 + r2) + Gm m (r1 * z) (1 + r2))) else Gm m (r1 * (x + z)) (1 + r2) - (Gm m (r1 * x) (1 + r2) + Gm m (r1 * z) (1 + r2))) = true then A else B) := fun A B hB => iteN (by split <;> omega) hB
    refine ⟨_, rfl, rfl, _, rfl, ite3 (fun q => ?_) (fun q => ?_)⟩
    · have q := (hs_down hm).mp q
      refine ⟨_, rfl, _, rfl, _, _, rfl, rfl, _, rfl, iteN (show ¬ Gm m (r1 * (x + z)) (1 + r2) < Gm m (r1 * x) (1 + r2) + Gm m (r1 * z) (1 + r2) by have := e1 q; omega) ?_⟩
      refine ⟨_, rfl, rfl, _, rfl, iteN (fun w => by have := (hs_up hm).mp w; omega) (iteF ?_)⟩
      refine ⟨_, rfl, _, rfl, _, _, rfl, rfl, _, rfl, _, _, rfl, rfl, _, rfl, last _ _ ?_⟩
      exact ⟨_, _, _, _, _, _, _, _, _, _, _, _, rfl, D23, by omega, by omega⟩
    · refine iteF ⟨_, rfl, rfl, _, rfl, ite3 (fun q2 => ?_) (fun q2 => ?_)⟩
      · have q2 := (hs_up hm).mp q2
        refine ⟨_, rfl, _, rfl, _, _, rfl, rfl, _, rfl, iteN (show ¬ Gm m (r1 * x) (1 + r2) + Gm m (r1 * z) (1 + r2) < Gm m (r1 * (x + z)) (1 + r2) by have := e2 q2; omega) ?_⟩
        refine ⟨_, rfl, _, rfl, _, _, rfl, rfl, _, rfl, _, _, rfl, rfl, _, rfl, last _ _ ?_⟩
        exact ⟨_, _, _, _, _, _, _, _, _, _, _, _, rfl, D23, by omega, by omega⟩
      · refine iteF ⟨_, rfl, _, rfl, _, _, rfl, rfl, _, rfl, _, _, rfl, rfl, _, rfl, last _ _ ?_⟩
        exact ⟨_, _, _, _, _, _, _, _, _, _, _, _, rfl, D23, by omega, by omega⟩
  · rintro σ H' ⟨n, v2, v3, v4, v5, v6, v7, v8, v9, v10, v11, v12, rfl, D2, n0, n1⟩
    exact kk _
end
theorem all_mk {l : PySem.W.OpenLaw} {w : World} {K : PySem.W.Frag} {h : Heap} {mg : Str → Option Value} {fa : Addr} (X : K.In h) (G : h.Ns mainGlobals mg) (hfa : mg "law" = some (.ref fa))
    {F_takes : Addr} {od_takes an_takes : Option Addr} {sl_takes : Array (Option Value)} {oc_takes kV_takes dc_takes pm_takes cd_takes ct_takes : Value} (a_takes : PySem.W.nsIn K mainGlobals "takes" = some (some (.ref F_takes))) (l_takes : K.lookup F_takes = some ⟨oc_takes, od_takes, .func (PySem.W.fnOf "takes" "takes" (defArgs s_takes) (defBody s_takes) (defScope s_takes) .none kV_takes dc_takes pm_takes an_takes cd_takes ct_takes), sl_takes⟩) (c_takes : PySem.W.codeIn K cd_takes "takes" = true) (k_takes : PySem.W.keepIn K (.ref F_takes) = true)
    {F_gives : Addr} {od_gives an_gives : Option Addr} {sl_gives : Array (Option Value)} {oc_gives kV_gives dc_gives pm_gives cd_gives ct_gives : Value} (a_gives : PySem.W.nsIn K mainGlobals "gives" = some (some (.ref F_gives))) (l_gives : K.lookup F_gives = some ⟨oc_gives, od_gives, .func (PySem.W.fnOf "gives" "gives" (defArgs s_gives) (defBody s_gives) (defScope s_gives) .none kV_gives dc_gives pm_gives an_gives cd_gives ct_gives), sl_gives⟩) (c_gives : PySem.W.codeIn K cd_gives "gives" = true) (k_gives : PySem.W.keepIn K (.ref F_gives) = true)
    {F_l_deck : Addr} {od_l_deck an_l_deck : Option Addr} {sl_l_deck : Array (Option Value)} {oc_l_deck kV_l_deck dc_l_deck pm_l_deck cd_l_deck ct_l_deck : Value} (a_l_deck : PySem.W.nsIn K mainGlobals "_law_deck" = some (some (.ref F_l_deck))) (l_l_deck : K.lookup F_l_deck = some ⟨oc_l_deck, od_l_deck, .func (PySem.W.fnOf "_law_deck" "_law_deck" (defArgs s_l_deck) (defBody s_l_deck) (defScope s_l_deck) .none kV_l_deck dc_l_deck pm_l_deck an_l_deck cd_l_deck ct_l_deck), sl_l_deck⟩) (c_l_deck : PySem.W.codeIn K cd_l_deck "_law_deck" = true) (k_l_deck : PySem.W.keepIn K (.ref F_l_deck) = true)
    {F_l_draw : Addr} {od_l_draw an_l_draw : Option Addr} {sl_l_draw : Array (Option Value)} {oc_l_draw kV_l_draw dc_l_draw pm_l_draw cd_l_draw ct_l_draw : Value} (a_l_draw : PySem.W.nsIn K mainGlobals "_law_draw" = some (some (.ref F_l_draw))) (l_l_draw : K.lookup F_l_draw = some ⟨oc_l_draw, od_l_draw, .func (PySem.W.fnOf "_law_draw" "_law_draw" (defArgs s_l_draw) (defBody s_l_draw) (defScope s_l_draw) .none kV_l_draw dc_l_draw pm_l_draw an_l_draw cd_l_draw ct_l_draw), sl_l_draw⟩) (c_l_draw : PySem.W.codeIn K cd_l_draw "_law_draw" = true) (k_l_draw : PySem.W.keepIn K (.ref F_l_draw) = true)
    {F_l_one : Addr} {od_l_one an_l_one : Option Addr} {sl_l_one : Array (Option Value)} {oc_l_one kV_l_one dc_l_one pm_l_one cd_l_one ct_l_one : Value} (a_l_one : PySem.W.nsIn K mainGlobals "_law_one" = some (some (.ref F_l_one))) (l_l_one : K.lookup F_l_one = some ⟨oc_l_one, od_l_one, .func (PySem.W.fnOf "_law_one" "_law_one" (defArgs s_l_one) (defBody s_l_one) (defScope s_l_one) .none kV_l_one dc_l_one pm_l_one an_l_one cd_l_one ct_l_one), sl_l_one⟩) (c_l_one : PySem.W.codeIn K cd_l_one "_law_one" = true) (k_l_one : PySem.W.keepIn K (.ref F_l_one) = true)
    {F_l_gives : Addr} {od_l_gives an_l_gives : Option Addr} {sl_l_gives : Array (Option Value)} {oc_l_gives kV_l_gives dc_l_gives pm_l_gives cd_l_gives ct_l_gives : Value} (a_l_gives : PySem.W.nsIn K mainGlobals "_law_gives" = some (some (.ref F_l_gives))) (l_l_gives : K.lookup F_l_gives = some ⟨oc_l_gives, od_l_gives, .func (PySem.W.fnOf "_law_gives" "_law_gives" (defArgs s_l_gives) (defBody s_l_gives) (defScope s_l_gives) .none kV_l_gives dc_l_gives pm_l_gives an_l_gives cd_l_gives ct_l_gives), sl_l_gives⟩) (c_l_gives : PySem.W.codeIn K cd_l_gives "_law_gives" = true) (k_l_gives : PySem.W.keepIn K (.ref F_l_gives) = true)
    {F_l_multiple : Addr} {od_l_multiple an_l_multiple : Option Addr} {sl_l_multiple : Array (Option Value)} {oc_l_multiple kV_l_multiple dc_l_multiple pm_l_multiple cd_l_multiple ct_l_multiple : Value} (a_l_multiple : PySem.W.nsIn K mainGlobals "_law_multiple" = some (some (.ref F_l_multiple))) (l_l_multiple : K.lookup F_l_multiple = some ⟨oc_l_multiple, od_l_multiple, .func (PySem.W.fnOf "_law_multiple" "_law_multiple" (defArgs s_l_multiple) (defBody s_l_multiple) (defScope s_l_multiple) .none kV_l_multiple dc_l_multiple pm_l_multiple an_l_multiple cd_l_multiple ct_l_multiple), sl_l_multiple⟩) (c_l_multiple : PySem.W.codeIn K cd_l_multiple "_law_multiple" = true) (k_l_multiple : PySem.W.keepIn K (.ref F_l_multiple) = true)
    {F_l_taken : Addr} {od_l_taken an_l_taken : Option Addr} {sl_l_taken : Array (Option Value)} {oc_l_taken kV_l_taken dc_l_taken pm_l_taken cd_l_taken ct_l_taken : Value} (a_l_taken : PySem.W.nsIn K mainGlobals "_law_taken" = some (some (.ref F_l_taken))) (l_l_taken : K.lookup F_l_taken = some ⟨oc_l_taken, od_l_taken, .func (PySem.W.fnOf "_law_taken" "_law_taken" (defArgs s_l_taken) (defBody s_l_taken) (defScope s_l_taken) .none kV_l_taken dc_l_taken pm_l_taken an_l_taken cd_l_taken ct_l_taken), sl_l_taken⟩) (c_l_taken : PySem.W.codeIn K cd_l_taken "_law_taken" = true) (k_l_taken : PySem.W.keepIn K (.ref F_l_taken) = true)
    {F_l_order_right : Addr} {od_l_order_right an_l_order_right : Option Addr} {sl_l_order_right : Array (Option Value)} {oc_l_order_right kV_l_order_right dc_l_order_right pm_l_order_right cd_l_order_right ct_l_order_right : Value} (a_l_order_right : PySem.W.nsIn K mainGlobals "_law_order_right" = some (some (.ref F_l_order_right))) (l_l_order_right : K.lookup F_l_order_right = some ⟨oc_l_order_right, od_l_order_right, .func (PySem.W.fnOf "_law_order_right" "_law_order_right" (defArgs s_l_order_right) (defBody s_l_order_right) (defScope s_l_order_right) .none kV_l_order_right dc_l_order_right pm_l_order_right an_l_order_right cd_l_order_right ct_l_order_right), sl_l_order_right⟩) (c_l_order_right : PySem.W.codeIn K cd_l_order_right "_law_order_right" = true) (k_l_order_right : PySem.W.keepIn K (.ref F_l_order_right) = true)
    {F_law : Addr} {od_law an_law : Option Addr} {sl_law : Array (Option Value)} {oc_law kV_law dc_law pm_law cd_law ct_law : Value} (a_law : PySem.W.nsIn K mainGlobals "law" = some (some (.ref F_law))) (l_law : K.lookup F_law = some ⟨oc_law, od_law, .func (PySem.W.fnOf "law" "law" (defArgs s_law) (defBody s_law) (defScope s_law) .none kV_law dc_law pm_law an_law cd_law ct_law), sl_law⟩) (c_law : PySem.W.codeIn K cd_law "law" = true) (k_law : PySem.W.keepIn K (.ref F_law) = true)
    (z_abs : PySem.W.nsIn K mainGlobals "abs" = some none)
    (z_int : PySem.W.nsIn K mainGlobals "int" = some none)
    (z_len : PySem.W.nsIn K mainGlobals "len" = some none)
    (z_range : PySem.W.nsIn K mainGlobals "range" = some none) :
    ∃ fd : FuncData, (∀ (s : Shared) (v : Value), BindsTo s fd ⟨[v], []⟩ [("_law_script", v)]) ∧ ∀ base : Heap, K.In base → base.Ns mainGlobals mg → FnOk l.prog w K mg base CX0 4 fa fd ["_law_script"] (sp_law K) := by
  have e := hfa.symm.trans (PySem.W.mg_of X G a_law)
  cases e
  have T : Txt mg := ⟨PySem.W.mg_none_of X G z_abs, PySem.W.mg_none_of X G z_int, PySem.W.mg_none_of X G z_len, PySem.W.mg_none_of X G z_range⟩
  have D_takes : Df K mg "takes" s_takes ["desk", "x"] := ⟨_, _, fun_mk (st := s_takes) l_takes c_takes k_takes, PySem.W.mg_of X G a_takes, (fun_mk (st := s_takes) l_takes c_takes k_takes).binds (ps := ["desk", "x"]) fun _ _ _ _ _ _ us hl => match us, hl with | [_, _], _ => rfl⟩
  have D_gives : Df K mg "gives" s_gives ["desk", "x"] := ⟨_, _, fun_mk (st := s_gives) l_gives c_gives k_gives, PySem.W.mg_of X G a_gives, (fun_mk (st := s_gives) l_gives c_gives k_gives).binds (ps := ["desk", "x"]) fun _ _ _ _ _ _ us hl => match us, hl with | [_, _], _ => rfl⟩
  have D_l_deck : Df K mg "_law_deck" s_l_deck ["_law_script"] := ⟨_, _, fun_mk (st := s_l_deck) l_l_deck c_l_deck k_l_deck, PySem.W.mg_of X G a_l_deck, (fun_mk (st := s_l_deck) l_l_deck c_l_deck k_l_deck).binds (ps := ["_law_script"]) fun _ _ _ _ _ _ us hl => match us, hl with | [_], _ => rfl⟩
  have D_l_draw : Df K mg "_law_draw" s_l_draw ["_law_deck_here", "_law_many"] := ⟨_, _, fun_mk (st := s_l_draw) l_l_draw c_l_draw k_l_draw, PySem.W.mg_of X G a_l_draw, (fun_mk (st := s_l_draw) l_l_draw c_l_draw k_l_draw).binds (ps := ["_law_deck_here", "_law_many"]) fun _ _ _ _ _ _ us hl => match us, hl with | [_, _], _ => rfl⟩
  have D_l_one : Df K mg "_law_one" s_l_one ["_law_deck_here", "_law_items"] := ⟨_, _, fun_mk (st := s_l_one) l_l_one c_l_one k_l_one, PySem.W.mg_of X G a_l_one, (fun_mk (st := s_l_one) l_l_one c_l_one k_l_one).binds (ps := ["_law_deck_here", "_law_items"]) fun _ _ _ _ _ _ us hl => match us, hl with | [_, _], _ => rfl⟩
  have D_l_gives : Df K mg "_law_gives" s_l_gives ["_law_desk", "_law_x"] := ⟨_, _, fun_mk (st := s_l_gives) l_l_gives c_l_gives k_l_gives, PySem.W.mg_of X G a_l_gives, (fun_mk (st := s_l_gives) l_l_gives c_l_gives k_l_gives).binds (ps := ["_law_desk", "_law_x"]) fun _ _ _ _ _ _ us hl => match us, hl with | [_, _], _ => rfl⟩
  have D_l_multiple : Df K mg "_law_multiple" s_l_multiple ["_law_one_here", "_law_other"] := ⟨_, _, fun_mk (st := s_l_multiple) l_l_multiple c_l_multiple k_l_multiple, PySem.W.mg_of X G a_l_multiple, (fun_mk (st := s_l_multiple) l_l_multiple c_l_multiple k_l_multiple).binds (ps := ["_law_one_here", "_law_other"]) fun _ _ _ _ _ _ us hl => match us, hl with | [_, _], _ => rfl⟩
  have D_l_taken : Df K mg "_law_taken" s_l_taken ["_law_deck_here", "_law_desk", "_law_top"] := ⟨_, _, fun_mk (st := s_l_taken) l_l_taken c_l_taken k_l_taken, PySem.W.mg_of X G a_l_taken, (fun_mk (st := s_l_taken) l_l_taken c_l_taken k_l_taken).binds (ps := ["_law_deck_here", "_law_desk", "_law_top"]) fun _ _ _ _ _ _ us hl => match us, hl with | [_, _, _], _ => rfl⟩
  have D_l_order_right : Df K mg "_law_order_right" s_l_order_right ["_law_desk", "_law_x"] := ⟨_, _, fun_mk (st := s_l_order_right) l_l_order_right c_l_order_right k_l_order_right, PySem.W.mg_of X G a_l_order_right, (fun_mk (st := s_l_order_right) l_l_order_right c_l_order_right k_l_order_right).binds (ps := ["_law_desk", "_law_x"]) fun _ _ _ _ _ _ us hl => match us, hl with | [_, _], _ => rfl⟩
  have D_law : Df K mg "law" s_law ["_law_script"] := ⟨_, _, fun_mk (st := s_law) l_law c_law k_law, PySem.W.mg_of X G a_law, (fun_mk (st := s_law) l_law c_law k_law).binds (ps := ["_law_script"]) fun _ _ _ _ _ _ us hl => match us, hl with | [_], _ => rfl⟩
  refine ⟨PySem.W.fnOf "law" "law" (defArgs s_law) (defBody s_law) (defScope s_law) .none kV_law dc_law pm_law an_law cd_law ct_law, fun s v => .of_eq rfl, fun base _ _ => ?_⟩
  have C_takes : Cal l.prog w K mg base "takes" ["desk", "x"] 1 (sp_takes K) := ok_takes T D_takes
  have C_gives : Cal l.prog w K mg base "gives" ["desk", "x"] 2 (sp_gives K) := ok_gives T D_gives C_takes
  have C_l_deck : Cal l.prog w K mg base "_law_deck" ["_law_script"] 1 (sp_l_deck K) := ok_l_deck T D_l_deck
  have C_l_draw : Cal l.prog w K mg base "_law_draw" ["_law_deck_here", "_law_many"] 1 (sp_l_draw K) := ok_l_draw T D_l_draw
  have C_l_one : Cal l.prog w K mg base "_law_one" ["_law_deck_here", "_law_items"] 2 (sp_l_one K) := ok_l_one T D_l_one C_l_draw
  have C_l_gives : Cal l.prog w K mg base "_law_gives" ["_law_desk", "_law_x"] 1 (sp_l_gives K) := ok_l_gives T D_l_gives
  have C_l_multiple : Cal l.prog w K mg base "_law_multiple" ["_law_one_here", "_law_other"] 1 (sp_l_multiple K) := ok_l_multiple T D_l_multiple
  have C_l_taken : Cal l.prog w K mg base "_law_taken" ["_law_deck_here", "_law_desk", "_law_top"] 2 (sp_l_taken K) := ok_l_taken T D_l_taken C_l_draw
  have C_l_order_right : Cal l.prog w K mg base "_law_order_right" ["_law_desk", "_law_x"] 3 (sp_l_order_right K) := ok_l_order_right T D_l_order_right C_gives
  exact ok_lawF T (fun_mk (st := s_law) l_law c_law k_law) C_gives C_l_order_right C_takes C_l_gives C_l_draw C_l_one C_l_taken C_l_multiple C_l_deck

end Sm
open PySem PySem.W PyProof.Rows in
set_option maxRecDepth 100000 in
set_option maxHeartbeats 0 in
theorem PySem.Challenge.cw_smallchange_k77_uses_of_great_amounts_holds : PySem.Challenge.rw_smallchange_k77_uses_of_great_amounts.Holds := by
  w_on; o_law; k_head; (case hw => w_witness2)
  k_fill
  refine L2.walk_of (l := PySem.Challenge.rw_smallchange_k77_uses_of_great_amounts) (n := 63) (k := 4) (x := "_law_script") (CX := fun _ => L2.CX0) (sp := fun w => Sm.sp_law _) rfl (by decide) rfl ⟨rfl, by decide, by decide⟩ (fun w h Y => PySem.W.kIn_of Y) ?F (fun _ _ a ns hl _ hS => ⟨a, ns, rfl, hS, hl, fun _ => rfl⟩) (fun _ _ _ _ _ h => h)
  case F =>
    intro w mg fa h KX G hmg
    refine' Sm.all_mk KX G hmg ?a_takes ?l_takes ?c_takes ?k_takes ?a_gives ?l_gives ?c_gives ?k_gives ?a_l_deck ?l_l_deck ?c_l_deck ?k_l_deck ?a_l_draw ?l_l_draw ?c_l_draw ?k_l_draw ?a_l_one ?l_l_one ?c_l_one ?k_l_one ?a_l_gives ?l_l_gives ?c_l_gives ?k_l_gives ?a_l_multiple ?l_l_multiple ?c_l_multiple ?k_l_multiple ?a_l_taken ?l_l_taken ?c_l_taken ?k_l_taken ?a_l_order_right ?l_l_order_right ?c_l_order_right ?k_l_order_right ?a_law ?l_law ?c_law ?k_law ?z_abs ?z_int ?z_len ?z_range
    (case a_takes => k_is)
    (case l_takes => k_is)
    (case c_takes => k_is)
    (case k_takes => k_is)
    (case a_gives => k_is)
    (case l_gives => k_is)
    (case c_gives => k_is)
    (case k_gives => k_is)
    (case a_l_deck => k_is)
    (case l_l_deck => k_is)
    (case c_l_deck => k_is)
    (case k_l_deck => k_is)
    (case a_l_draw => k_is)
    (case l_l_draw => k_is)
    (case c_l_draw => k_is)
    (case k_l_draw => k_is)
    (case a_l_one => k_is)
    (case l_l_one => k_is)
    (case c_l_one => k_is)
    (case k_l_one => k_is)
    (case a_l_gives => k_is)
    (case l_l_gives => k_is)
    (case c_l_gives => k_is)
    (case k_l_gives => k_is)
    (case a_l_multiple => k_is)
    (case l_l_multiple => k_is)
    (case c_l_multiple => k_is)
    (case k_l_multiple => k_is)
    (case a_l_taken => k_is)
    (case l_l_taken => k_is)
    (case c_l_taken => k_is)
    (case k_l_taken => k_is)
    (case a_l_order_right => k_is)
    (case l_l_order_right => k_is)
    (case c_l_order_right => k_is)
    (case k_l_order_right => k_is)
    (case a_law => k_is)
    (case l_law => k_is)
    (case c_law => k_is)
    (case k_law => k_is)
    (case z_abs => k_is)
    (case z_int => k_is)
    (case z_len => k_is)
    (case z_range => k_is)

