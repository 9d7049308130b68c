import PyProof.Rows.All
import Wide.All
import OpenK.AllK
import Wide.FinOn
import HandS.ForMost
import HandS.Wide
import HandS.Codes
import PyProof.ReprRoads
import HandS.Walk
import KE.GoesEnum
import HandS.Gcd
import KE.KMathGC
import HandS.TupMul
import HandS.Conv
import HandS.IsInst
import HandS.Style
import HandS.TupAny
import PySem.Challenge.RW_smallchange_k06_sums_of_rules
set_option Elab.async false
set_option linter.all false
set_option maxRecDepth 100000
set_option maxHeartbeats 4000000
namespace Sm
open PySem PySem.Spec PyProof.Rows L2
/-! ### promises of defs where no repr is under way: as FnOk, with A's guards empty -/
structure FnG (P : Program) (w : World) (K : PySem.W.Frag) (mg : Str → Option Value) (base : Heap) (k : Nat) (f : Addr) (fd : FuncData) (ps : List Str) (sp : Sp) : Prop where
  len : ∀ vs H Q E, sp vs H Q E → vs.length = ps.length
  run : ∀ (A : Around) (outer : List Env) (s : Shared) (H : Hp) (args : Args) (us : List Value) (vs : List V) (Q : VK) (E : XK), A.guards = some [] → Room k A →
    Env0 P w K mg base A outer s H → BindsTo s fd args (ps.zip us) → Vals vs us → sp vs H Q E → codeAny (model P w) A (.call (.ref f) args) (CR CX0 outer P w H s Q E) s
section
variable {P : Program} {w : World} {K : PySem.W.Frag} {mg : Str → Option Value} {base : Heap} {k : Nat} {f : Addr} {fd : FuncData} {ps : List Str} {sp : Sp}
theorem FnG.of (F : FnOk P w K mg base CX0 k f fd ps sp) : FnG P w K mg base k f fd ps sp :=
  ⟨F.len, fun A outer s H args us vs Q E _ hr e b v h => F.run A outer s H args us vs Q E hr e b v h⟩
theorem FnG.body {x : Str} {st : Stmt} {N : List Str} (F : Fun K x x st f fd) (S : FnScope N ps (defScope st)) (len : ∀ vs H Q E, sp vs H Q E → vs.length = ps.length)
    (hb : ∀ (cdv : Value) (A : Around) (outer : List Env) (s : Shared) (H : Hp) (vs : List V) (Q : VK) (E : XK), A.guards = some [] → Room k (A.deeper (envOfC x (defScope st) s.heap.objs.size f cdv)) → sp vs H Q E →
      ∃ t, PSs (cxOf CX0 P w K mg base N x (defScope st) f cdv A outer s H E).nox (defBody st) t ∧ t { nx := fun _ H' => Q .non H', rt := Q } (start N vs) H) : FnG P w K mg base (k + 1) f fd ps sp := by
  obtain ⟨oc, od, kV, doc, pm, an, cdv, ct, osl, efd, look, code⟩ := F.ex
  subst efd
  constructor
  · exact len
  intro A outer s H args us vs Q E guard room e0 bind rel want
  have inn : K.In s.heap := e0.mod.kin.keeps fun b o e => (e0.bs b o e).1
  have nolim : s.heap.NoLimit := e0.mod.nolimit.keeps fun b o e => (e0.bs b o e).1
  refine codeAny_call_function room.depth (inn _ _ look) rfl S.co S.gen rfl (PySem.W.codeRec_of inn code) (bind _ _ _ _ ?_)
  refine wpAny_newFunctionEnv_cells S.kind ?_ ?_
  · rintro ⟨n, v⟩ there
    have := S.par n (List.of_mem_zip there).1
    cases this with
    | inl q => exact .inl q
    | inr q => exact .inr ⟨q, PySem.W.cellsFrom_some _ _ _ (.inl q)⟩
  · intro env eenv s1 laid
    subst eenv
    refine ⟨nolim.keeps laid.toInCall.keep, codeAny_func ?_⟩
    obtain ⟨t, der, goal⟩ := hb cdv A outer s H vs Q E guard (room.deeper _) want
    have I := inv_start (CX := CX0) (E := E) S room.hd e0 (len _ _ _ _ want) rel laid
    refine wpAny_mono (der.nox.run [] s1 (start N vs) H _ I goal) (fun out s' got => ?_) fun e s' got => got
    match out, got with
    | .ret u, ⟨v, σ', H', J, rv, q⟩ => exact ⟨v, H', J.os, J.bare, J.base, J.hok, rv, q⟩
    | .next, ⟨σ', H', J, q⟩ => exact ⟨V.non, H', J.os, J.bare, J.base, J.hok, rfl, q⟩
    | .brk, ⟨_, _, _, q⟩ => exact q.elim
    | .cont, ⟨_, _, _, q⟩ => exact q.elim
end
section
variable {X : Cx} {k : Nat} {f : Addr} {fd : FuncData} {ps : List Str} {sp : Sp} {x : Str} {p pos : Pos} {e : Expr} {es : List Expr} {t : TA}
theorem pe_callG (F : FnG X.prog X.w X.K X.mg X.base k f fd ps sp) (gu : X.A.guards = some []) (hr : Room k X.A) (hg : Gl X x) (hm : X.mg x = some (.ref f)) (hk : PySem.W.keepIn X.K (.ref f) = true) (hb : Binds X.K fd ps [])
    (ha : PA X (e :: es) t) (hdb : (x == ("__debug__" : Str)) = false := by decide) (he : starEach (e :: es) X.env = (false, eval e X.env) :: starEach es X.env := by rfl) (hpl : (backTo pos (starEach es X.env)).any (·.1) = false := by rfl) :
    PE X (.Call (.Name x p) (e :: es) [] pos) (tCall sp [] E0 t) := by
  constructor
  intro pins s σ H Q I want
  refine wpAny_Call_Name_kw (ld_glob I hg hm ?_ hdb)
  refine PySem.W.callWith_K (h₀ := X.base) I.ok.mod.kin hk (thn (ha.run pos pins s σ H _ I want) ?_) he hpl
  rintro us s1 ⟨vs, H1, I1, rel, q⟩
  refine ⟨I1.kIn, ?_⟩
  have q : sp vs H1 Q E0 := by
    have q : sp (vs ++ []) H1 Q E0 := q
    rw [List.append_nil] at q
    exact q
  have b := hb s1 us I1.kIn (by rw [List.append_nil, ← rel.length]; exact F.len _ _ _ _ q)
  rw [List.append_nil] at b
  refine wpAny_call (codeAny_mono (F.run X.A X.stack s1 H1 ⟨us, []⟩ us vs Q E0 gu hr I1.env0 b rel q) ?_)
  rintro (e | out) s' got
  · exact got.elim
  · match out, got with
    | .ret u, got => exact I1.after got
    | .next, got => exact got.elim
    | .brk, got => exact got.elim
    | .cont, got => exact got.elim
/-- repr of data at any depth -/
theorem call_repr_data (gu : X.A.guards = some []) (room : ∃ k, Room k X.A) : CallR X (.builtin "repr") (fun xs H Q => ∃ a d, xs = [.ref a] ∧ Dp X.K H (.ref a) d ∧ PyData.showable d = true ∧ PyData.hasDict d = false ∧ d.depth ≤ 60 ∧ d.shown.length ≤ sizeLine ∧ Q (.str d.shown) H) := by
  intro pins s σ H xs us Q I rel want
  obtain ⟨a, d, rfl, data, sh, nd, dep, len, q⟩ := want
  obtain ⟨u, rfl, ru⟩ := vals1 rel
  obtain ⟨as, reads⟩ := Dp.reads I d _ u data ru
  cases ru
  obtain ⟨k, room⟩ := room
  have un := room.un
  exact repr_of_reads' reads sh (PyData.noDict_hsm nd) gu (by omega) (fun _ _ e => e) (fun h' v tk keep => ⟨.str d.shown, H, I.kept keep, ⟨_, rfl⟩, q⟩) len
end
/-! ### the law's own call, at the caller's place -/
theorem law_at {P : Program} {w : World} {K : PySem.W.Frag} {mg mb : Str → Option Value} {k : Nat} {fa a : Addr} {fd : FuncData} {x : Str} {sp : Sp} {s₁ : Shared} {vs : List Value} {ns : List Int}
    (KX : K.In s₁.heap) (hns : s₁.heap.Ns mainGlobals mg) (hb : s₁.heap.Ns builtinsNs mb) (hbb : ∀ x : Str, x ≠ "__name__" → mb x = bootBuiltins x) (hlim : s₁.heap.NoLimit) (hg : s₁.gens = #[])
    (ha : s₁.heap.get? a = some { cls := .type "list", data := .seq vs.toArray }) (hi : IntsAre vs ns) (hl : ns.length ≤ sizeLine) (hr : Room k callerA)
    (F : ∀ base : Heap, K.In base → base.Ns mainGlobals mg → FnG P w K mg base k fa fd [x] sp) (hbind : ∀ (s : Shared) (u : Value), BindsTo s fd ⟨[u], []⟩ [(x, u)])
    (hsp : ∀ H : Hp, SqL K H a (ns.map V.int) → sp [.ref a] H (fun v _ => v = .bl true) E0) :
    codeAny (model P w) callerA (.call (.ref fa) ⟨[.ref a], []⟩) (fun r s' => r = .ok (.ret (.bool true)) ∧ OldK s₁.heap s'.heap ∧ s'.os = s₁.os ∧ AllBare s'.gens) s₁ := by
  have ivs := vals_ints hi
  -- what is tracked: the script, if the module does not hold it itself
  obtain ⟨H, seq, ok, only, free⟩ : ∃ H : Hp, SqL K H a (ns.map V.int) ∧ HOk P w H s₁.heap ∧ (∀ b u, H b = some u → b = a ∧ u = .frz { cls := .type "list", data := .seq vs.toArray } (.lst (ns.map V.int))) ∧ ∀ b u, H b = some u → K.lookup b = none := by
    cases look : K.lookup a with
    | some o =>
      have same := KX a o look
      rw [ha] at same
      injection same with same
      subst same
      have empty : ∀ {u : HO}, (none : Option HO) = some u → False := fun z => nomatch z
      refine ⟨fun _ => none, .inr ⟨_, vs.toArray, _, look, rfl, rfl, rfl, ?_, ?_⟩, fun b u z => (empty z).elim, fun b u z => (empty z).elim, fun b u z => (empty z).elim⟩
      · rw [List.size_toArray, hi.length]
        exact hl
      · simpa using ivs
    | none =>
      have at_a : ∀ b u, (fun b => if b = a then some (HO.frz { cls := .type "list", data := .seq vs.toArray } (.lst (ns.map V.int))) else none : Hp) b = some u → b = a ∧ u = .frz { cls := .type "list", data := .seq vs.toArray } (.lst (ns.map V.int)) := by
        intro b u z
        by_cases e : b = a
        · have z := (if_pos e).symm.trans z
          exact ⟨e, (Option.some.inj z).symm⟩
        · exact nomatch (if_neg e).symm.trans z
      refine ⟨_, .inl (.inr ⟨_, if_pos rfl⟩), fun b u z => ?_, at_a, fun b u z => ?_⟩
      · obtain ⟨rfl, rfl⟩ := at_a b u z
        exact ⟨ha, by rw [List.length_map]; exact hl, vs, _, ivs, ha⟩
      · rw [(at_a b u z).1]
        exact look
  have stays : ∀ {b : Addr} {o : Obj}, s₁.heap.get? b = some o → (∀ u, H b ≠ some u) → (hidT s₁.heap H).get? b = some o := fun {b o} e no => hidT_get e (by
    cases z : H b with
    | none => rfl
    | some u => exact (no u z).elim)
  have spaces : ∀ {b : Addr} {m : Str → Option Value}, s₁.heap.Ns b m → (hidT s₁.heap H).Ns b m := by
    rintro b m ⟨o, es, ep, there, data, rest⟩
    refine ⟨o, es, ep, stays there fun u z => ?_, data, rest⟩
    rw [(only b u z).1, ha] at there
    injection there with there
    subst there
    exact nomatch data
  have inn : K.In (hidT s₁.heap H) := fun b o e => stays (KX b o e) fun u z => by
    rw [free b u z] at e
    exact nomatch e
  have mod : Mod K mg (hidT s₁.heap H) := by
    obtain ⟨mc, c1, c2⟩ := hlim
    exact ⟨inn, spaces hns, ⟨mb, spaces hb, hbb⟩, mc, spaces c1, c2⟩
  have e0 : Env0 P w K mg (hidT s₁.heap H) callerA [] s₁ H := by
    refine ⟨rfl, mod, fun b o e => of_hidT e, Nat.le_of_eq (hidT_size _ _), trivial, ?_, ok, .of_eq hg⟩
    intro b q
    exact absurd q (List.not_mem_nil (a := b))
  refine codeAny_mono ((F _ inn (spaces hns)).run callerA [] s₁ H ⟨[.ref a], []⟩ [.ref a] [.ref a] _ _ rfl hr e0 (hbind s₁ (.ref a)) (.cons rfl .nil) (hsp H seq)) ?_
  rintro (e | out) s' got
  · exact got.elim
  · match out, got with
    | .next, got => exact got.elim
    | .brk, got => exact got.elim
    | .cont, got => exact got.elim
    | .ret u, ⟨v, H', os, bare, un, ok', rel, q⟩ =>
      have q : v = V.bl true := q
      subst q
      have rel : u = Value.bool true := rel
      subst rel
      refine ⟨rfl, .of_keep fun b o e => ?_, os, bare⟩
      cases z : H b with
      | none => exact un.keep b o e z (List.not_mem_nil (a := b)) (List.not_mem_nil (a := b))
      | some u =>
        obtain ⟨rfl, rfl⟩ := only b u z
        have now := (ok' _ _ (un.frzs _ _ _ z)).1
        rw [ha] at e
        injection e with e
        rw [← e]
        exact now
theorem walk_at_law {l : PySem.W.OpenLaw} {k : Nat} {q : Program} {loose : List Str} {XP : (Str → Option Value) → Heap → Prop} {YP : World → Heap → Prop} {d : DefRec} {K : Params → PySem.W.Frag} {sp : PySem.W.Frag → Sp} {x : Str}
    (hn : l.most = some 63) (hdf : d.params.defaults = []) (hr : Room k callerA) (hY : ∀ (w : World) (h : Heap), YP w h → (K w.params).In h)
    (F : ∀ (w : World) (mg : Str → Option Value) (fa : Addr) (h : Heap), (K w.params).In h → h.Ns mainGlobals mg → mg d.name = some (.ref fa) →
      ∃ fd : FuncData, (∀ (s : Shared) (u : Value), BindsTo s fd ⟨[u], []⟩ [(x, u)]) ∧ ∀ base : Heap, (K w.params).In base → base.Ns mainGlobals mg → FnG l.prog w (K w.params) mg base k fa fd [x] (sp (K w.params)))
    (hsp : ∀ (K : PySem.W.Frag) (H : Hp) (a : Addr) (ns : List Int), ns.length ≤ 63 → SqL K H a (ns.map V.int) → sp K [.ref a] H (fun v _ => v = .bl true) E0) :
    PySem.W.WalkO q loose XP YP l.row.toRowW d [] (fun f vs => PySem.call f vs) := by
  refine Att.attach_call hn hdf ?_
  intro w s₀ s₁ mg mb fa o pm cd doc a vs ns G Y ho hd hcd hmg hobj hints hlen hg
  obtain ⟨fd, bind, each⟩ := F w mg fa _ (hY w _ Y) G.T.g hmg
  exact law_at (hY w _ Y) G.T.g G.T.b G.T.builtins G.T.nolimit hg hobj hints (Nat.le_trans hlen (by decide)) hr each bind fun H sq => hsp (K w.params) H a ns hlen sq
end Sm

set_option Elab.async false
set_option linter.all false
set_option maxRecDepth 100000
set_option maxHeartbeats 4000000
namespace Sm
open PySem PySem.Spec PyProof.Rows L2
section
variable {P : Program} {w : World} {K : PySem.W.Frag} {mg : Str → Option Value} {base : Heap}
def Df (K : PySem.W.Frag) (mg : Str → Option Value) (x : Str) (st : Stmt) (ps : List Str) : Prop :=
  ∃ (f : Addr) (fd : FuncData), Fun K x x st f fd ∧ mg x = some (.ref f) ∧ Binds K fd ps []
def Cal (P : Program) (w : World) (K : PySem.W.Frag) (mg : Str → Option Value) (base : Heap) (x : Str) (ps : List Str) (k : Nat) (sp : Sp) : Prop :=
  ∃ (f : Addr) (fd : FuncData), FnOk P w K mg base CX0 k f fd ps sp ∧ mg x = some (.ref f) ∧ PySem.W.keepIn K (.ref f) = true ∧ Binds K fd ps []
theorem Df.cal {x : Str} {st : Stmt} {N ps : List Str} {k : Nat} {sp : Sp} (D : Df K mg x st ps) (S : FnScope N ps (defScope st)) (len : ∀ vs H Q E, sp vs H Q E → vs.length = ps.length)
    (hbody : ∀ (f : Addr) (cdv : Value) (A : Around) (outer : List Env) (s : Shared) (H : Hp) (vs : List V) (Q : VK) (E : XK), Room k (A.deeper (envOfC x (defScope st) s.heap.objs.size f cdv)) → sp vs H Q E →
      ∃ t, PSs (cxOf CX0 P w K mg base N x (defScope st) f cdv A outer s H E).nox (defBody st) t ∧ t { nx := fun _ H' => Q .non H', rt := Q } (start N vs) H) : Cal P w K mg base x ps (k + 1) sp := by
  obtain ⟨f, fd, F, m, b⟩ := D
  exact ⟨f, fd, F.ok S len (fun cdv A outer s H vs Q E hr h => hbody f cdv A outer s H vs Q E hr h), m, F.kp, b⟩
theorem same_upd {H : Hp} {p : Addr} {o : HO} (h : H p = none) : Same H (upd H p o) := fun b x e => by
  rw [upd_ne (ne_of_none e h)]
  exact e
theorem iteP {p A B : Prop} [Decidable p] (h : p) (a : A) : if decide p = true then A else B := by
  rw [decide_eq_true h]
  exact iteT a
theorem iteN {p A B : Prop} [Decidable p] (h : ¬ p) (b : B) : if decide p = true then A else B := by
  rw [decide_eq_false h]
  exact iteF b
theorem iteNP {p A B : Prop} [Decidable p] (h : p) (b : B) : if (!decide p) = true then A else B := by
  rw [decide_eq_true h]
  exact iteF b
theorem iteNN {p A B : Prop} [Decidable p] (h : ¬ p) (a : A) : if (!decide p) = true then A else B := by
  rw [decide_eq_false h]
  exact iteT a
theorem ite3 {p A B : Prop} [Decidable p] (h1 : p → A) (h2 : ¬ p → B) : if decide p = true then A else B := by
  by_cases h : p
  · exact iteP h (h1 h)
  · exact iteN h (h2 h)
theorem fmod_pos {a b : Int} (h : 0 < b) : a.fmod b = a % b := Int.fmod_eq_emod_of_nonneg a (by omega)
end
/-! ### the deck -/
structure Deck (H : Hp) (p l : Addr) (n : Int) : Prop where
  hp : H p = some (.lst [.ref l, .int n])
  hl : ∃ cells : List Int, H l = some (.lst (cells.map V.int)) ∧ (∀ c ∈ cells, 0 ≤ c) ∧ cells.length ≤ 63
theorem deck_ne {l : Addr} {n : Int} {cells : List Int} : HO.lst [.ref l, .int n] ≠ HO.lst (cells.map V.int) := by
  intro q
  injection q with q
  cases cells with
  | nil => cases q
  | cons c r => cases (List.cons.inj q).1
/-- all but the deck is as it was -/
def Fr (p l : Addr) (H H' : Hp) : Prop := ∀ b o, b ≠ p → b ≠ l → H b = some o → H' b = some o
theorem Fr.trans {p l : Addr} {H H1 H2 : Hp} (a : Fr p l H H1) (b : Fr p l H1 H2) : Fr p l H H2 := fun c o h1 h2 h => b c o h1 h2 (a c o h1 h2 h)
theorem Same.fr {p l : Addr} {H H' : Hp} (s : Same H H') : Fr p l H H' := fun b o _ _ h => s b o h
theorem Deck.same {H H' : Hp} {p l : Addr} {n : Int} (D : Deck H p l n) (s : Same H H') : Deck H' p l n := by
  obtain ⟨cells, hl, hc⟩ := D.hl
  exact ⟨s _ _ D.hp, cells, s _ _ hl, hc⟩
theorem Fr.tup {H H' : Hp} {p l b : Addr} {n : Int} {xs : List V} (f : Fr p l H H') (D : Deck H p l n) (h : H b = some (.tup xs)) : H' b = some (.tup xs) := by
  obtain ⟨cells, hl, hc⟩ := D.hl
  exact f b _ (ne_of h D.hp (by intro q; cases q)) (ne_of h hl (by intro q; cases q)) h
def sp_l_deck (K : PySem.W.Frag) : Sp := fun vs H Q _ => ∃ (a : Addr) (ns : List Int), vs = [.ref a] ∧ SqL K H a (ns.map V.int) ∧ ns.length ≤ 63 ∧ ∀ H' p l, Same H H' → Deck H' p l 0 → Q (.ref p) H'
def sp_l_draw (K : PySem.W.Frag) : Sp := fun vs H Q _ => ∃ (p l : Addr) (n m : Int), vs = [.ref p, .int m] ∧ Deck H p l n ∧ 0 ≤ n ∧ n ≤ 1000000 ∧ 0 < m ∧ m ≤ 1000000000000000000000000000000000000000000000000000000000000 ∧
  ∀ r H', 0 ≤ r → r < m → Fr p l H H' → Deck H' p l (n + 1) → Q (.int r) H'
def sp_l_one (K : PySem.W.Frag) : Sp := fun vs H Q _ => ∃ (p l b : Addr) (n : Int) (xs : List V), vs = [.ref p, .ref b] ∧ Deck H p l n ∧ 0 ≤ n ∧ n ≤ 1000000 ∧ H b = some (.lst xs) ∧ b ≠ p ∧ b ≠ l ∧ 0 < xs.length ∧ xs.length ≤ 1000 ∧
  ∀ x H', x ∈ xs → Fr p l H H' → Deck H' p l (n + 1) → Q x H'
theorem cut63 {ns : List Int} (h : ns.length ≤ 63) : cutV (ns.map V.int) none (some 63) = ns.map V.int := by
  unfold cutV
  rw [HT.sIx_none, show HT.sIx (ns.map V.int).length (ns.map V.int).length (some 63) = min 63 (ns.map V.int).length from HT.sIx_nat _ _ 63]
  rw [List.length_map, Nat.min_eq_right h, List.drop_zero]
  exact List.take_of_length_le (by rw [List.length_map]; omega)
def absI (n : Int) : Int := if n < 0 then -n else n
theorem absI_pos (n : Int) : 0 ≤ absI n := by
  unfold absI
  split <;> omega
theorem div_draw {c m : Int} (h0 : 0 < m) (h : m ≤ 1000000000000000000000000000000000000000000000000000000000000) : CDivW c m :=
  wide_div (b := 300) h0 (by omega) (by decide) (by decide)
theorem cut_all {xs : List V} {n : Nat} : cutV xs none (some (n : Int)) = xs.take n := by
  unfold cutV
  rw [HT.sIx_none, HT.sIx_nat, List.drop_zero, Nat.sub_zero]
  rcases Nat.le_total n xs.length with h | h
  · rw [Nat.min_eq_left h]
  · rw [Nat.min_eq_right h, List.take_length, List.take_of_length_le h]
theorem ne_new {H : Hp} {p b : Addr} {o : HO} (h : H p = some o) (n : H b = none) : b ≠ p := (ne_of_none h n).symm
/-- what the deck's second list is not -/
theorem Deck.lne {H : Hp} {p l b : Addr} {n : Int} (D : Deck H p l n) (h : H b = none) : b ≠ p ∧ b ≠ l := by
  obtain ⟨cells, hl, hc⟩ := D.hl
  exact ⟨ne_new D.hp h, ne_new hl h⟩
section
variable {X : Cx}
/-- repr of an int or None -/
theorem call_repr_some : CallR X (.builtin "repr") (fun xs H Q => (∃ i, xs = [.int i] ∧ i.natAbs.log2 < 1920 ∧ Q (.str (toString i)) H) ∨ (xs = [.non] ∧ Q (.str "None") H)) := by
  intro pins s σ H xs us Q I r h
  rcases h with ⟨i, rfl, hz, q⟩ | ⟨rfl, q⟩
  · obtain ⟨u, rfl, t, rfl⟩ := vals1 r
    exact PySem.P.repr_of_int hz ⟨.str _, H, I.tok _, ⟨_, rfl⟩, q⟩
  · obtain ⟨u, rfl, rfl⟩ := vals1 r
    exact PySem.P.repr_of_none ⟨.str _, H, I.tok _, ⟨_, rfl⟩, q⟩
def dataI (ns : List Int) : PyData := .list (ns.map PyData.int)
theorem dp_ints {K : PySem.W.Frag} {H : Hp} : ∀ ns : List Int, DpAll K H (ns.map V.int) (ns.map PyData.int)
  | [] => .nil
  | n :: ns => .cons (.int n) (dp_ints ns)
theorem showable_ints : ∀ {ns : List Int}, (∀ n ∈ ns, n.natAbs.log2 < 1920) → PyData.showableAll (ns.map PyData.int) = true
  | [], _ => rfl
  | n :: ns, h => by
    have a := h n (List.mem_cons_self ..)
    have b := showable_ints (ns := ns) fun m hm => h m (List.mem_cons_of_mem _ hm)
    simp only [List.map_cons, PyData.showableAll, PyData.showable, decide_eq_true a, b, Bool.and_self]
theorem hasDict_ints : ∀ ns : List Int, PyData.hasDictAll (ns.map PyData.int) = false
  | [] => rfl
  | n :: ns => by
    simp only [List.map_cons, PyData.hasDictAll, PyData.hasDict, hasDict_ints ns, Bool.or_self]
theorem depth_ints : ∀ ns : List Int, PyData.depthAll (ns.map PyData.int) ≤ 1
  | [] => by simp [PyData.depthAll]
  | n :: ns => by
    have := depth_ints ns
    simp only [List.map_cons, PyData.depthAll, PyData.depth]
    omega
theorem shown_ints : ∀ {ns : List Int}, (∀ n ∈ ns, n.natAbs.log2 < 1920) → ((PyData.shownAll (ns.map PyData.int)).map (·.length)).sum ≤ 1921 * ns.length ∧ (PyData.shownAll (ns.map PyData.int)).length = ns.length
  | [], _ => by simp [PyData.shownAll]
  | n :: ns, h => by
    have a := PyProof.Rows.int_text_len_1921 (h n (List.mem_cons_self ..))
    obtain ⟨b, c⟩ := shown_ints (ns := ns) fun m hm => h m (List.mem_cons_of_mem _ hm)
    simp only [List.map_cons, PyData.shownAll, PyData.shown, List.sum_cons, List.length_cons]
    omega
/-- repr of a list of ints -/
theorem call_repr_ints (gu : X.A.guards = some []) (room : ∃ k, Room k X.A) : CallR X (.builtin "repr") (fun xs H Q => ∃ a ns, xs = [.ref a] ∧ SqL X.K H a (ns.map V.int) ∧ ns.length ≤ 5000 ∧ (∀ n ∈ ns, n.natAbs.log2 < 1920) ∧ Q (.str (dataI ns).shown) H) := by
  intro pins s σ H xs us Q I r h
  obtain ⟨a, ns, rfl, hS, len, small, q⟩ := h
  refine call_repr_data gu room pins s σ H _ us Q I r ⟨a, dataI ns, rfl, .lst hS (dp_ints ns), ?_, ?_, ?_, ?_, q⟩
  · unfold dataI
    simp only [PyData.showable, showable_ints small]
  · unfold dataI
    simp only [PyData.hasDict, hasDict_ints]
  · have := depth_ints ns
    unfold dataI
    simp only [PyData.depth]
    omega
  · obtain ⟨s1, s2⟩ := shown_ints small
    have := listText_len_le (PyData.shownAll (ns.map PyData.int))
    unfold dataI
    simp only [PyData.shown]
    rw [sizeLine_eq]
    omega
end
end Sm

set_option maxHeartbeats 4000000
namespace Sm
/-! rules: a table that repeats -/
def vl (T : List Int) (p : Nat) (r : Int) (x : Nat) : Int :=
  if x < T.length then T.getD x 0 else T.getD (x - ((x - T.length) / p + 1) * p) 0 + (((x - T.length) / p + 1 : Nat) : Int) * r
structure RuleOk (T : List Int) (p : Nat) (r : Int) : Prop where
  p0 : 0 < p
  p1 : p ≤ T.length
  r0 : 0 ≤ r
  nn : ∀ i, i < T.length → 0 ≤ T.getD i 0
  mono : ∀ i, i + 1 < T.length → T.getD i 0 ≤ T.getD (i + 1) 0
  wrap : T.getD (T.length - 1) 0 ≤ T.getD (T.length - p) 0 + r
theorem place {n p x : Nat} (hp : 0 < p) (hpn : p ≤ n) (h : n ≤ x) : ((x - n) / p + 1) * p ≤ x ∧ n - p ≤ x - ((x - n) / p + 1) * p ∧ x - ((x - n) / p + 1) * p < n := by
  have a := Nat.div_add_mod (x - n) p
  have b := Nat.mod_lt (x - n) hp
  have c : ((x - n) / p + 1) * p = p * ((x - n) / p) + p := by rw [Nat.add_mul, Nat.one_mul, Nat.mul_comm]
  omega
theorem vl_lt {T : List Int} {p : Nat} {r : Int} {x : Nat} (h : x < T.length) : vl T p r x = T.getD x 0 := if_pos h
theorem vl_step {T : List Int} {p : Nat} {r : Int} {x : Nat} (hp : 0 < p) (hpn : p ≤ T.length) (h : T.length ≤ x) : vl T p r x = vl T p r (x - p) + r := by
  by_cases q : x - p < T.length
  · have e : (x - T.length) / p = 0 := Nat.div_eq_of_lt (by omega)
    rw [vl_lt q]
    unfold vl
    rw [if_neg (by omega), e]
    simp
  · have e : (x - T.length) / p = (x - p - T.length) / p + 1 := by
      rw [Nat.div_eq_sub_div hp (by omega), show x - T.length - p = x - p - T.length by omega]
    unfold vl
    rw [if_neg (by omega), if_neg q, e]
    have i : x - ((x - p - T.length) / p + 1 + 1) * p = x - p - ((x - p - T.length) / p + 1) * p := by
      rw [Nat.add_mul ((x - p - T.length) / p + 1) 1 p, Nat.one_mul]
      omega
    rw [i]
    have k : (((x - p - T.length) / p + 1 + 1 : Nat) : Int) * r = (((x - p - T.length) / p + 1 : Nat) : Int) * r + r := by
      rw [Int.natCast_add ((x - p - T.length) / p + 1) 1, Int.add_mul]
      simp
    rw [k, Int.add_assoc]
theorem vl_add {T : List Int} {p : Nat} {r : Int} {x : Nat} (hp : 0 < p) (hpn : p ≤ T.length) (h : T.length - p ≤ x) : vl T p r (x + p) = vl T p r x + r := by
  rw [vl_step hp hpn (by omega), Nat.add_sub_cancel]
theorem vl_addk {T : List Int} {p : Nat} {r : Int} {x : Nat} (hp : 0 < p) (hpn : p ≤ T.length) (h : T.length - p ≤ x) : ∀ k : Nat, vl T p r (x + k * p) = vl T p r x + (k : Int) * r
  | 0 => by simp
  | k + 1 => by
    have ih := vl_addk (r := r) hp hpn h k
    rw [show x + (k + 1) * p = x + k * p + p by rw [Nat.add_mul, Nat.one_mul, Nat.add_assoc], vl_add hp hpn (by omega), ih]
    rw [Int.natCast_add, Int.add_mul]
    simp
    omega
section
variable {T : List Int} {p : Nat} {r : Int}
theorem RuleOk.up (o : RuleOk T p r) : ∀ x, vl T p r x ≤ vl T p r (x + 1) := by
  intro x
  induction x using Nat.strongRecOn with
  | _ x ih =>
    have p0 := o.p0
    have p1 := o.p1
    by_cases a : x + 1 < T.length
    · rw [vl_lt a, vl_lt (by omega)]
      exact o.mono x a
    · by_cases b : x < T.length
      · rw [vl_lt b, vl_step p0 p1 (by omega), vl_lt (by omega)]
        have w := o.wrap
        rw [show x = T.length - 1 by omega]
        rw [show T.length - 1 + 1 - p = T.length - p by omega]
        exact w
      · rw [vl_step p0 p1 (by omega), vl_step (x := x + 1) p0 p1 (by omega)]
        have := ih (x - p) (by omega)
        rw [show x - p + 1 = x + 1 - p by omega] at this
        omega
theorem RuleOk.le (o : RuleOk T p r) {x y : Nat} (h : x ≤ y) : vl T p r x ≤ vl T p r y := by
  obtain ⟨k, rfl⟩ := Nat.le.dest h
  induction k with
  | zero => exact Int.le_refl _
  | succ k ih => exact Int.le_trans (ih (by omega)) (o.up _)
theorem RuleOk.pos (o : RuleOk T p r) (x : Nat) : 0 ≤ vl T p r x := by
  have a := o.le (Nat.zero_le x)
  have p0 := o.p0
  have p1 := o.p1
  rw [vl_lt (x := 0) (by omega)] at a
  have := o.nn 0 (by omega)
  omega
theorem RuleOk.row (o : RuleOk T p r) {i j : Nat} (h : i ≤ j) (hj : j < T.length) : T.getD i 0 ≤ T.getD j 0 := by
  have a := o.le h
  rw [vl_lt hj, vl_lt (by omega)] at a
  exact a
/-- the values of the last period repeat by s, increased by c -/
def Rep (T : List Int) (p : Nat) (r : Int) (s : Nat) (c : Int) : Prop := ∀ i, T.length - p ≤ i → i < T.length → vl T p r (i + s) = T.getD i 0 + c
theorem rep_all {s : Nat} {c : Int} (o : RuleOk T p r) (h : Rep T p r s c) : ∀ y, T.length - p ≤ y → vl T p r (y + s) = vl T p r y + c := by
  intro y
  induction y using Nat.strongRecOn with
  | _ y ih =>
    intro hy
    have p0 := o.p0
    have p1 := o.p1
    by_cases a : y < T.length
    · rw [vl_lt a]
      exact h y hy a
    · have e := ih (y - p) (by omega) (by omega)
      rw [vl_step (x := y) p0 p1 (by omega), vl_step (x := y + s) p0 p1 (by omega), show y + s - p = y - p + s by omega, e]
      omega
theorem rep_self (o : RuleOk T p r) : Rep T p r p r := fun i h1 h2 => by
  rw [vl_add o.p0 o.p1 h1, vl_lt h2]
theorem getD_take {n i : Nat} (h : i < n) : (T.take n).getD i 0 = T.getD i 0 := by
  rw [List.getD_eq_getElem?_getD, List.getD_eq_getElem?_getD, List.getElem?_take_of_lt h]
/-- the table cut: still a rule, with the same values -/
theorem cut_ok {a s : Nat} {c : Int} (o : RuleOk T p r) (hs : 0 < s) (ha : a + s ≤ T.length) (c0 : 0 ≤ c) (h : ∀ y, a ≤ y → vl T p r (y + s) = vl T p r y + c) : RuleOk (T.take (a + s)) s c := by
  have len : (T.take (a + s)).length = a + s := by rw [List.length_take]; omega
  refine ⟨hs, by omega, c0, fun i hi => ?_, fun i hi => ?_, ?_⟩
  · rw [getD_take (by omega)]
    exact o.nn i (by omega)
  · rw [getD_take (by omega), getD_take (by omega)]
    exact o.mono i (by omega)
  · rw [len, getD_take (by omega), getD_take (by omega), show a + s - s = a by omega]
    have e := h a (Nat.le_refl _)
    have u := o.up (a + s - 1)
    rw [show a + s - 1 + 1 = a + s by omega, e, vl_lt (by omega), vl_lt (by omega)] at u
    exact u
theorem cut_vl {a s : Nat} {c : Int} (hs : 0 < s) (ha : a + s ≤ T.length) (h : ∀ y, a ≤ y → vl T p r (y + s) = vl T p r y + c) : ∀ x, vl (T.take (a + s)) s c x = vl T p r x := by
  have len : (T.take (a + s)).length = a + s := by rw [List.length_take]; omega
  intro x
  induction x using Nat.strongRecOn with
  | _ x ih =>
    by_cases q : x < a + s
    · rw [vl_lt (by omega), vl_lt (by omega), getD_take q]
    · rw [vl_step hs (by omega) (by omega), ih (x - s) (by omega), ← h (x - s) (by omega), show x - s + s = x by omega]
/-- the least amount, or none -/
def IsLf (T : List Int) (p : Nat) (r : Int) (y : Int) : Option Nat → Prop
  | none => r = 0 ∧ T.getD (T.length - 1) 0 < y
  | some x => y ≤ vl T p r x ∧ ∀ z, z < x → vl T p r z < y
theorem lf_near {y : Int} {i : Nat} (hi : i < T.length) (h1 : y ≤ T.getD i 0) (h2 : ∀ j, j < i → T.getD j 0 < y) : IsLf T p r y (some i) :=
  ⟨by rw [vl_lt hi]; exact h1, fun z hz => by rw [vl_lt (by omega)]; exact h2 z hz⟩
theorem lf_far {y : Int} {i k : Nat} (o : RuleOk T p r) (k0 : 0 < k) (hk : T.getD (T.length - 1) 0 + ((k : Int) - 1) * r < y) (h0 : T.length - p ≤ i) (hi : i < T.length) (h1 : y - (k : Int) * r ≤ T.getD i 0)
    (h2 : ∀ j, T.length - p ≤ j → j < i → T.getD j 0 < y - (k : Int) * r) : IsLf T p r y (some (i + k * p)) := by
  have p0 := o.p0
  have p1 := o.p1
  refine ⟨?_, fun z hz => ?_⟩
  · rw [vl_addk p0 p1 h0, vl_lt hi]
    omega
  · have kp : p ≤ k * p := Nat.le_mul_of_pos_left p k0
    refine Int.lt_of_le_of_lt (o.le (show z ≤ i + k * p - 1 by omega)) ?_
    by_cases q : i = T.length - p
    · obtain ⟨k, rfl⟩ : ∃ j, k = j + 1 := ⟨k - 1, by omega⟩
      have e : i + (k + 1) * p - 1 = T.length - 1 + k * p := by
        rw [Nat.add_mul, Nat.one_mul] at kp ⊢
        omega
      rw [e, vl_addk p0 p1 (by omega), vl_lt (by omega)]
      have c : ((k + 1 : Nat) : Int) - 1 = (k : Int) := by omega
      rw [c] at hk
      exact hk
    · rw [show i + k * p - 1 = i - 1 + k * p by omega, vl_addk p0 p1 (by omega), vl_lt (by omega)]
      have := h2 (i - 1) (by omega) (by omega)
      omega
theorem lf_one {y : Int} {a b : Option Nat} (o : RuleOk T p r) (ha : IsLf T p r y a) (hb : IsLf T p r y b) : a = b := by
  have no : ∀ {x : Nat}, IsLf T p r y none → IsLf T p r y (some x) → False := by
    rintro x ⟨h1, h2⟩ ⟨h3, _⟩
    have p0 := o.p0
    have p1 := o.p1
    have all : ∀ x, vl T p r x ≤ T.getD (T.length - 1) 0 := by
      intro x
      induction x using Nat.strongRecOn with
      | _ x ih =>
        by_cases q : x < T.length
        · rw [vl_lt q]
          exact o.row (by omega) (by omega)
        · rw [vl_step p0 p1 (by omega)]
          have := ih (x - p) (by omega)
          omega
    have := all x
    omega
  match a, b, ha, hb with
  | none, none, _, _ => rfl
  | none, some x, ha, hb => exact (no ha hb).elim
  | some x, none, ha, hb => exact (no hb ha).elim
  | some x, some z, ⟨h1, h2⟩, ⟨h3, h4⟩ =>
    rcases Nat.lt_trichotomy x z with q | q | q
    · have := h4 x q
      omega
    · rw [q]
    · have := h2 z q
      omega
end
theorem div_cast {x n p : Nat} (h : n ≤ x) : ((x : Int) - (n : Int)) / (p : Int) + 1 = (((x - n) / p + 1 : Nat) : Int) := by
  rw [← Int.natCast_sub h]
  rfl
theorem ceil_lo {a r : Int} (hr : 0 < r) : a ≤ (a + r - 1) / r * r ∧ ((a + r - 1) / r - 1) * r < a := by
  have h1 := Int.mul_ediv_add_emod (a + r - 1) r
  have h2 := Int.emod_nonneg (a + r - 1) (show r ≠ 0 by omega)
  have h3 := Int.emod_lt_of_pos (a + r - 1) hr
  have e : (a + r - 1) / r * r = r * ((a + r - 1) / r) := Int.mul_comm _ _
  have e2 : ((a + r - 1) / r - 1) * r = r * ((a + r - 1) / r) - r := by rw [Int.sub_mul, Int.mul_comm]; omega
  omega
end Sm

set_option maxHeartbeats 4000000
namespace Sm
structure RuleW (T : List Int) (p : Nat) (r : Int) : Prop where
  p0 : 0 < p
  p1 : p ≤ T.length
  r0 : 0 ≤ r
theorem RuleOk.w {T : List Int} {p : Nat} {r : Int} (o : RuleOk T p r) : RuleW T p r := ⟨o.p0, o.p1, o.r0⟩
section
variable {T : List Int} {p : Nat} {r : Int}
theorem rep_allW {s : Nat} {c : Int} (o : RuleW T p r) (h : Rep T p r s c) : ∀ y, T.length - p ≤ y → vl T p r (y + s) = vl T p r y + c := by
  intro y
  induction y using Nat.strongRecOn with
  | _ y ih =>
    intro hy
    have p0 := o.p0
    have p1 := o.p1
    by_cases a : y < T.length
    · rw [vl_lt a]
      exact h y hy a
    · have e := ih (y - p) (by omega) (by omega)
      rw [vl_step (x := y) p0 p1 (by omega), vl_step (x := y + s) p0 p1 (by omega), show y + s - p = y - p + s by omega, e]
      omega
theorem rep_selfW (o : RuleW T p r) : Rep T p r p r := fun i h1 h2 => by
  rw [vl_add o.p0 o.p1 h1, vl_lt h2]
/-- a weak rule that does not fall within its table and behind it is a rule -/
theorem W_ok (o : RuleW T p r) (nn : ∀ i, i < T.length → 0 ≤ T.getD i 0) (h : ∀ x, x < T.length → T.getD x 0 ≤ vl T p r (x + 1)) : RuleOk T p r := by
  have p0 := o.p0
  have p1 := o.p1
  refine ⟨p0, p1, o.r0, nn, fun i hi => ?_, ?_⟩
  · have := h i (by omega)
    rw [vl_lt hi] at this
    exact this
  · have := h (T.length - 1) (by omega)
    rw [vl_step p0 p1 (by omega), show T.length - 1 + 1 - p = T.length - p by omega, vl_lt (by omega)] at this
    exact this
end
section
variable {T1 T2 : List Int} {p1 p2 : Nat} {r1 r2 : Int}
def gp (T1 : List Int) (p1 : Nat) (r1 : Int) (T2 : List Int) (p2 : Nat) (r2 : Int) (x : Nat) : Int := vl T1 p1 r1 x - vl T2 p2 r2 x
/-- the first amount at which the one is above, or none -/
def IsFst (T1 : List Int) (p1 : Nat) (r1 : Int) (T2 : List Int) (p2 : Nat) (r2 : Int) : Option Nat → Prop
  | none => ∀ x, gp T1 p1 r1 T2 p2 r2 x ≤ 0
  | some x => 0 < gp T1 p1 r1 T2 p2 r2 x ∧ ∀ z, z < x → gp T1 p1 r1 T2 p2 r2 z ≤ 0
theorem fst_one {a b : Option Nat} (ha : IsFst T1 p1 r1 T2 p2 r2 a) (hb : IsFst T1 p1 r1 T2 p2 r2 b) : a = b := by
  match a, b, ha, hb with
  | none, none, _, _ => rfl
  | none, some x, ha, hb =>
    have := ha x
    have := hb.1
    omega
  | some x, none, ha, hb =>
    have := hb x
    have := ha.1
    omega
  | some x, some z, ⟨h1, h2⟩, ⟨h3, h4⟩ =>
    rcases Nat.lt_trichotomy x z with q | q | q
    · have := h4 x q
      omega
    · rw [q]
    · have := h2 z q
      omega
/-- by a common turn t = a p1 = b p2 the gap grows by g, from a start of both on -/
theorem gp_turn {B a b : Nat} (w1 : RuleW T1 p1 r1) (w2 : RuleW T2 p2 r2) (hB1 : T1.length - p1 ≤ B) (hB2 : T2.length - p2 ≤ B) (e : a * p1 = b * p2) {x : Nat} (hx : B ≤ x) :
    gp T1 p1 r1 T2 p2 r2 (x + a * p1) = gp T1 p1 r1 T2 p2 r2 x + ((a : Int) * r1 - (b : Int) * r2) := by
  unfold gp
  rw [vl_addk w1.p0 w1.p1 (by omega) a, e, vl_addk w2.p0 w2.p1 (by omega) b]
  omega
theorem gp_turns {B t : Nat} {g : Int} (h : ∀ x, B ≤ x → gp T1 p1 r1 T2 p2 r2 (x + t) = gp T1 p1 r1 T2 p2 r2 x + g) {x : Nat} (hx : B ≤ x) : ∀ k : Nat, gp T1 p1 r1 T2 p2 r2 (x + k * t) = gp T1 p1 r1 T2 p2 r2 x + (k : Int) * g
  | 0 => by simp
  | k + 1 => by
    have ih := gp_turns h hx k
    rw [show x + (k + 1) * t = x + k * t + t by rw [Nat.add_mul, Nat.one_mul, Nat.add_assoc], h _ (by omega), ih, Int.natCast_add, Int.add_mul]
    simp
    omega
theorem split_turn {B t z : Nat} (t0 : 0 < t) (hz : B ≤ z) : ∃ x k, B ≤ x ∧ x < B + t ∧ z = x + k * t := by
  have a := Nat.div_add_mod (z - B) t
  have b := Nat.mod_lt (z - B) t0
  refine ⟨B + (z - B) % t, (z - B) / t, by omega, by omega, ?_⟩
  rw [Nat.mul_comm]
  omega
theorem none_of {B t : Nat} {g : Int} (t0 : 0 < t) (h : ∀ x, B ≤ x → gp T1 p1 r1 T2 p2 r2 (x + t) = gp T1 p1 r1 T2 p2 r2 x + g) (hg : g ≤ 0) (early : ∀ x, x < B + t → gp T1 p1 r1 T2 p2 r2 x ≤ 0) : IsFst T1 p1 r1 T2 p2 r2 none := by
  intro z
  by_cases q : z < B
  · exact early z (by omega)
  · obtain ⟨x, k, h1, h2, rfl⟩ := split_turn t0 (show B ≤ z by omega)
    rw [gp_turns h h1 k]
    have := early x h2
    have : (k : Int) * g ≤ 0 := Int.mul_nonpos_of_nonneg_of_nonpos (by omega) hg
    omega
/-- the least of the first amounts of all rests -/
theorem some_of {B t m : Nat} {g : Int} (t0 : 0 < t) (h : ∀ x, B ≤ x → gp T1 p1 r1 T2 p2 r2 (x + t) = gp T1 p1 r1 T2 p2 r2 x + g) (hg : 0 < g) (early : ∀ x, x < B + t → gp T1 p1 r1 T2 p2 r2 x ≤ 0)
    (hm : ∃ x, B ≤ x ∧ x < B + t ∧ (m : Int) = (x : Int) + (t : Int) * ((-gp T1 p1 r1 T2 p2 r2 x) / g + 1)) (least : ∀ x, B ≤ x → x < B + t → (m : Int) ≤ (x : Int) + (t : Int) * ((-gp T1 p1 r1 T2 p2 r2 x) / g + 1)) : IsFst T1 p1 r1 T2 p2 r2 (some m) := by
  constructor
  · obtain ⟨x, h1, h2, e⟩ := hm
    have ex := early x h2
    have q0 : 0 ≤ (-gp T1 p1 r1 T2 p2 r2 x) / g := Int.ediv_nonneg (by omega) (by omega)
    obtain ⟨k, hk⟩ : ∃ k : Nat, (-gp T1 p1 r1 T2 p2 r2 x) / g = (k : Int) := ⟨_, (Int.toNat_of_nonneg q0).symm⟩
    have e2 : m = x + (k + 1) * t := by
      rw [hk] at e
      have : ((x + (k + 1) * t : Nat) : Int) = (x : Int) + (t : Int) * ((k : Int) + 1) := by
        rw [Int.natCast_add, Int.natCast_mul, Int.mul_comm]
        rfl
      omega
    rw [e2, gp_turns h h1]
    have d1 := Int.mul_ediv_add_emod (-gp T1 p1 r1 T2 p2 r2 x) g
    have d2 := Int.emod_lt_of_pos (-gp T1 p1 r1 T2 p2 r2 x) hg
    rw [hk] at d1
    have e3 : ((k + 1 : Nat) : Int) * g = g * (k : Int) + g := by rw [Int.natCast_add, Int.add_mul, Int.mul_comm]; simp
    omega
  · intro z hz
    by_cases q : z < B
    · exact early z (by omega)
    · obtain ⟨x, k, h1, h2, rfl⟩ := split_turn t0 (show B ≤ z by omega)
      rcases Int.lt_or_le 0 (gp T1 p1 r1 T2 p2 r2 (x + k * t)) with w | w
      · exfalso
        have l := least x h1 h2
        rw [gp_turns h h1 k] at w
        have d1 := Int.mul_ediv_add_emod (-gp T1 p1 r1 T2 p2 r2 x) g
        have d2 := Int.emod_nonneg (-gp T1 p1 r1 T2 p2 r2 x) (show g ≠ 0 by omega)
        have lt : (-gp T1 p1 r1 T2 p2 r2 x) / g < (k : Int) := by
          rcases Int.lt_or_le ((-gp T1 p1 r1 T2 p2 r2 x) / g) (k : Int) with c | c
          · exact c
          · have := Int.mul_le_mul_of_nonneg_left c (show 0 ≤ g by omega)
            rw [Int.mul_comm g (k : Int)] at this
            omega
        have le := Int.mul_le_mul_of_nonneg_left (show (-gp T1 p1 r1 T2 p2 r2 x) / g + 1 ≤ (k : Int) by omega) (show 0 ≤ (t : Int) by omega)
        have c1 : ((k * t : Nat) : Int) = (t : Int) * (k : Int) := by rw [Int.natCast_mul, Int.mul_comm]
        omega
      · exact w
end
end Sm

set_option maxHeartbeats 4000000
namespace Sm
/-! just one shortest tuple has given values -/
structure Short (T : List Int) (p : Nat) (r : Int) : Prop where
  ok : RuleOk T p r
  turn : ∀ s c, 0 < s → s < p → s ∣ p → ¬ Rep T p r s c
  start : p = T.length ∨ vl T p r (T.length - 1) ≠ T.getD (T.length - p - 1) 0 + r
theorem vl_ge_turn {T : List Int} {p : Nat} {r : Int} (o : RuleOk T p r) {x : Nat} (h : T.length - p ≤ x) (k : Nat) : vl T p r (x + k * p) = vl T p r x + (k : Int) * r := vl_addk o.p0 o.p1 h k
/-- what holds far off holds from the start of the turns on -/
theorem rep_down {T : List Int} {p s A : Nat} {r c : Int} (o : RuleOk T p r) (h : ∀ x, A ≤ x → vl T p r (x + s) = vl T p r x + c) {x : Nat} (hx : T.length - p ≤ x) : vl T p r (x + s) = vl T p r x + c := by
  have p0 := o.p0
  have e1 := vl_ge_turn o (x := x) hx A
  have e2 := vl_ge_turn o (x := x + s) (by omega) A
  have far : A ≤ x + A * p := by
    have : A * 1 ≤ A * p := Nat.mul_le_mul_left A p0
    omega
  have e3 := h _ far
  rw [show x + A * p + s = x + s + A * p by omega] at e3
  omega
/-- two turns have a turn as long as their greatest common divisor -/
theorem gcd_turn {f : Nat → Int} {A : Nat} : ∀ (n p q : Nat), p + q ≤ n → 0 < p → 0 < q → (∃ r, ∀ x, A ≤ x → f (x + p) = f x + r) → (∃ t, ∀ x, A ≤ x → f (x + q) = f x + t) → ∃ c, ∀ x, A ≤ x → f (x + Nat.gcd p q) = f x + c
  | 0, p, q, h, p0, q0, _, _ => by omega
  | n + 1, p, q, h, p0, q0, ⟨r, hr⟩, ⟨t, ht⟩ => by
    rcases Nat.lt_trichotomy p q with l | l | l
    · have g : Nat.gcd p (q - p) = Nat.gcd p q := Nat.gcd_sub_self_right (Nat.le_of_lt l)
      rw [← g]
      refine gcd_turn n p (q - p) (by omega) p0 (by omega) ⟨r, hr⟩ ⟨t - r, fun x hx => ?_⟩
      have e1 := ht x hx
      have e2 := hr (x + (q - p)) (by omega)
      rw [show x + (q - p) + p = x + q by omega] at e2
      omega
    · subst l
      rw [Nat.gcd_self]
      exact ⟨r, hr⟩
    · have g : Nat.gcd (p - q) q = Nat.gcd p q := Nat.gcd_sub_self_left (Nat.le_of_lt l)
      rw [← g]
      refine gcd_turn n (p - q) q (by omega) (by omega) q0 ⟨r - t, fun x hx => ?_⟩ ⟨t, ht⟩
      have e1 := hr x hx
      have e2 := ht (x + (p - q)) (by omega)
      rw [show x + (p - q) + q = x + p by omega] at e2
      omega
theorem short_le {T1 T2 : List Int} {p1 p2 : Nat} {r1 r2 : Int} (s1 : Short T1 p1 r1) (o2 : RuleOk T2 p2 r2) (h : ∀ x, vl T1 p1 r1 x = vl T2 p2 r2 x) : Nat.gcd p1 p2 = p1 := by
  have o1 := s1.ok
  obtain ⟨c, hc⟩ := gcd_turn (f := vl T1 p1 r1) (A := max (T1.length - p1) (T2.length - p2)) _ p1 p2 (Nat.le_refl _) o1.p0 o2.p0 ⟨r1, fun x hx => vl_add o1.p0 o1.p1 (by omega)⟩ ⟨r2, fun x hx => by rw [h, h]; exact vl_add o2.p0 o2.p1 (by omega)⟩
  have g0 : 0 < Nat.gcd p1 p2 := Nat.gcd_pos_of_pos_left _ o1.p0
  have gl : Nat.gcd p1 p2 ≤ p1 := Nat.le_of_dvd o1.p0 (Nat.gcd_dvd_left ..)
  by_cases q : Nat.gcd p1 p2 = p1
  · exact q
  · exact absurd (fun i h1 h2 => by rw [← vl_lt (p := p1) (r := r1) h2]; exact rep_down o1 hc h1) (s1.turn _ c g0 (by omega) (Nat.gcd_dvd_left ..))
theorem short_start {T1 T2 : List Int} {p : Nat} {r : Int} (s1 : Short T1 p r) (s2 : Short T2 p r) (h : ∀ x, vl T1 p r x = vl T2 p r x) : T2.length ≤ T1.length := by
  have o1 := s1.ok
  have o2 := s2.ok
  have p0 := o1.p0
  have l1 := o1.p1
  have l2 := o2.p1
  rcases Nat.lt_or_ge T1.length T2.length with q | q
  · exfalso
    rcases s2.start with e | e
    · omega
    · apply e
      have := vl_add (T := T1) (p := p) (r := r) p0 l1 (x := T2.length - p - 1) (by omega)
      rw [show T2.length - p - 1 + p = T2.length - 1 by omega, h, h, vl_lt (T := T2) (x := T2.length - p - 1) (by omega)] at this
      exact this
  · exact q
/-- just one shortest tuple has given values -/
theorem short_one {T1 T2 : List Int} {p1 p2 : Nat} {r1 r2 : Int} (s1 : Short T1 p1 r1) (s2 : Short T2 p2 r2) (h : ∀ x, vl T1 p1 r1 x = vl T2 p2 r2 x) : T1 = T2 ∧ p1 = p2 ∧ r1 = r2 := by
  have a := short_le s1 s2.ok h
  have b := short_le s2 s1.ok fun x => (h x).symm
  rw [Nat.gcd_comm] at b
  obtain rfl : p1 = p2 := a.symm.trans b
  have o1 := s1.ok
  have o2 := s2.ok
  have e1 := vl_add o1.p0 o1.p1 (r := r1) (x := max (T1.length - p1) (T2.length - p1)) (by omega)
  have e2 := vl_add o2.p0 o2.p1 (r := r2) (x := max (T1.length - p1) (T2.length - p1)) (by omega)
  rw [h, h] at e1
  obtain rfl : r1 = r2 := by omega
  have l : T1.length = T2.length := Nat.le_antisymm (short_start s2 s1 fun x => (h x).symm) (short_start s1 s2 h)
  refine ⟨List.ext_getElem l fun i h1 h2 => ?_, rfl, rfl⟩
  have e := h i
  rw [vl_lt h1, vl_lt h2, List.getD_eq_getElem?_getD, List.getD_eq_getElem?_getD, List.getElem?_eq_getElem h1, List.getElem?_eq_getElem h2] at e
  exact e
theorem rep_slope {T : List Int} {p s : Nat} {r c : Int} (o : RuleOk T p r) (sd : s ∣ p) (h : Rep T p r s c) : r * (s : Int) = c * (p : Int) := by
  obtain ⟨k, rfl⟩ := sd
  have all := rep_all o h
  have up : ∀ n : Nat, vl T (s * k) r (T.length - s * k + n * s) = vl T (s * k) r (T.length - s * k) + (n : Int) * c := by
    intro n
    induction n with
    | zero => simp
    | succ n ih =>
      rw [show T.length - s * k + (n + 1) * s = T.length - s * k + n * s + s by rw [Nat.add_mul]; omega, all _ (by omega), ih, Int.natCast_add, Int.add_mul]
      simp
      omega
  have e1 := up k
  have e2 := vl_add o.p0 o.p1 (r := r) (x := T.length - s * k) (Nat.le_refl _)
  rw [Nat.mul_comm k s, e2] at e1
  have e3 : r = (k : Int) * c := by omega
  rw [e3, Int.natCast_mul, Int.mul_comm (k : Int) c, Int.mul_assoc, Int.mul_comm (k : Int)]
theorem rep_quot {T : List Int} {p s : Nat} {r c : Int} (o : RuleOk T p r) (sd : s ∣ p) (h : Rep T p r s c) : r * (s : Int) / (p : Int) = c ∧ r * (s : Int) % (p : Int) = 0 := by
  have p0 := o.p0
  rw [rep_slope o sd h]
  exact ⟨Int.mul_ediv_cancel _ (by omega), Int.mul_emod_left _ _⟩
theorem cut_short {T : List Int} {p a s : Nat} {r c : Int} (o : RuleOk T p r) (hs : 0 < s) (sd : s ∣ p) (ha : a ≤ T.length - p) (c0 : 0 ≤ c) (h : ∀ y, a ≤ y → vl T p r (y + s) = vl T p r y + c)
    (hm : ∀ s' c', 0 < s' → s' < s → s' ∣ p → ¬ Rep T p r s' c') (st : a = 0 ∨ vl T p r (a - 1 + s) ≠ T.getD (a - 1) 0 + c) : Short (T.take (a + s)) s c := by
  have p1 := o.p1
  have sp : s ≤ p := Nat.le_of_dvd o.p0 sd
  have ok := cut_ok o hs (by omega) c0 h
  have eq := cut_vl (T := T) (p := p) (r := r) hs (show a + s ≤ T.length by omega) h
  have len : (T.take (a + s)).length = a + s := by rw [List.length_take]; omega
  refine ⟨ok, fun s' c' h1 h2 h3 rep => hm s' c' h1 h2 (Nat.dvd_trans h3 sd) fun i g1 g2 => ?_, ?_⟩
  · have all := rep_all ok rep i (by rw [len]; omega)
    rw [eq, eq, vl_lt (T := T) g2] at all
    exact all
  · by_cases z : a = 0
    · left
      rw [len, z, Nat.zero_add]
    · right
      rw [len, eq, show a + s - 1 = a - 1 + s by omega, show a + s - s - 1 = a - 1 by omega, getD_take (by omega)]
      rcases st with q | q
      · exact absurd q z
      · exact q
theorem dvd_of {p i : Nat} (h : (p : Int).fmod (1 + (i : Int)) = 0) : 1 + i ∣ p := by
  rw [Int.fmod_eq_emod_of_nonneg _ (by omega)] at h
  exact Int.natCast_dvd_natCast.mp (Int.dvd_of_emod_eq_zero (b := (p : Int)) (a := ((1 + i : Nat) : Int)) h)
theorem of_dvd {p i : Nat} (h : 1 + i ∣ p) : (p : Int).fmod (1 + (i : Int)) = 0 := by
  rw [Int.fmod_eq_emod_of_nonneg _ (by omega)]
  exact Int.emod_eq_zero_of_dvd (a := ((1 + i : Nat) : Int)) (Int.natCast_dvd_natCast.mpr h)
end Sm

set_option maxHeartbeats 4000000
namespace Sm
/-! a list that comes back when it is turned; the steps of the last period -/
def Rot (I : List Int) (s : Nat) : Prop := I = I.drop s ++ I.take s
structure Cyc (I : List Int) (s : Nat) : Prop where
  s0 : 0 < s
  s1 : s ≤ I.length
  dv : s ∣ I.length
  rot : s < I.length → Rot I s
  least : ∀ t, 0 < t → t < s → t ∣ I.length → ¬ Rot I t
def stepsOf (T : List Int) (p : Nat) (r : Int) : List Int := (List.range p).map fun i => vl T p r (T.length - p + i + 1) - vl T p r (T.length - p + i)
theorem stepsOf_len (T : List Int) (p : Nat) (r : Int) : (stepsOf T p r).length = p := by
  unfold stepsOf
  rw [List.length_map, List.length_range]
theorem stepsOf_get {T : List Int} {p : Nat} {r : Int} {i : Nat} (h : i < p) : (stepsOf T p r)[i]? = some (vl T p r (T.length - p + i + 1) - vl T p r (T.length - p + i)) := by
  unfold stepsOf
  rw [List.getElem?_map, List.getElem?_range h]
  rfl
theorem rot_get {I : List Int} {s i : Nat} (h : Rot I s) (hs : s ≤ I.length) (hi : i < I.length) : I[i]? = if i + s < I.length then I[i + s]? else I[i + s - I.length]? := by
  have e : I[i]? = (I.drop s ++ I.take s)[i]? := congrArg (fun l => l[i]?) h
  rw [e, List.getElem?_append, List.length_drop]
  by_cases q : i < I.length - s
  · rw [if_pos q, if_pos (by omega), List.getElem?_drop, Nat.add_comm]
  · rw [if_neg q, if_neg (by omega), List.getElem?_take_of_lt (by omega), show i - (I.length - s) = i + s - I.length by omega]
theorem of_rot {I : List Int} {s : Nat} (hs : s ≤ I.length) (h : ∀ i, i < I.length → I[i]? = if i + s < I.length then I[i + s]? else I[i + s - I.length]?) : Rot I s := by
  refine List.ext_getElem? fun i => ?_
  by_cases hi : i < I.length
  · rw [h i hi, List.getElem?_append, List.length_drop]
    by_cases q : i < I.length - s
    · rw [if_pos q, if_pos (by omega), List.getElem?_drop, Nat.add_comm]
    · rw [if_neg q, if_neg (by omega), List.getElem?_take_of_lt (by omega), show i - (I.length - s) = i + s - I.length by omega]
  · rw [List.getElem?_eq_none (by omega), List.getElem?_eq_none (by rw [List.length_append, List.length_drop, List.length_take]; omega)]
theorem rot_rep {T : List Int} {p s : Nat} {r : Int} (o : RuleW T p r) (sp : s < p) (h : Rot (stepsOf T p r) s) : Rep T p r s (vl T p r (T.length - p + s) - vl T p r (T.length - p)) := by
  have p0 := o.p0
  have p1 := o.p1
  have ln := stepsOf_len T p r
  have d : ∀ j, j < p → vl T p r (T.length - p + (j + s) + 1) - vl T p r (T.length - p + (j + s)) = vl T p r (T.length - p + j + 1) - vl T p r (T.length - p + j) := by
    intro j hj
    have e := rot_get h (by omega) (i := j) (by omega)
    rw [ln, stepsOf_get hj] at e
    by_cases q : j + s < p
    · rw [if_pos q, stepsOf_get q] at e
      exact (Option.some.inj e).symm
    · rw [if_neg q, stepsOf_get (by omega)] at e
      have e := Option.some.inj e
      have e1 := vl_add p0 p1 (r := r) (x := T.length - p + (j + s - p) + 1) (by omega)
      have e2 := vl_add p0 p1 (r := r) (x := T.length - p + (j + s - p)) (by omega)
      rw [show T.length - p + (j + s - p) + 1 + p = T.length - p + (j + s) + 1 by omega] at e1
      rw [show T.length - p + (j + s - p) + p = T.length - p + (j + s) by omega] at e2
      omega
  have all : ∀ j, j ≤ p → vl T p r (T.length - p + j + s) = vl T p r (T.length - p + j) + (vl T p r (T.length - p + s) - vl T p r (T.length - p)) := by
    intro j
    induction j with
    | zero => intro _; simp; omega
    | succ j ih =>
      intro hj
      have a := ih (by omega)
      have b := d j (by omega)
      rw [show T.length - p + (j + s) + 1 = T.length - p + (j + 1) + s by omega, show T.length - p + (j + s) = T.length - p + j + s by omega] at b
      rw [show T.length - p + (j + 1) = T.length - p + j + 1 by omega] at b ⊢
      omega
  intro i h1 h2
  have := all (i - (T.length - p)) (by omega)
  rw [show T.length - p + (i - (T.length - p)) = i by omega] at this
  rw [this, vl_lt h2]
theorem rep_rot {T : List Int} {p s : Nat} {r c : Int} (o : RuleW T p r) (sp : s ≤ p) (h : Rep T p r s c) : Rot (stepsOf T p r) s := by
  have p0 := o.p0
  have p1 := o.p1
  have ln := stepsOf_len T p r
  have all := rep_allW o h
  refine of_rot (by omega) fun i hi => ?_
  rw [ln] at hi ⊢
  rw [stepsOf_get hi]
  have a := all (T.length - p + i) (by omega)
  have b := all (T.length - p + i + 1) (by omega)
  by_cases q : i + s < p
  · rw [if_pos q, stepsOf_get q]
    rw [show T.length - p + i + s = T.length - p + (i + s) by omega] at a
    rw [show T.length - p + i + 1 + s = T.length - p + (i + s) + 1 by omega] at b
    congr 1
    omega
  · rw [if_neg q, stepsOf_get (by omega)]
    have e1 := vl_add p0 p1 (r := r) (x := T.length - p + (i + s - p) + 1) (by omega)
    have e2 := vl_add p0 p1 (r := r) (x := T.length - p + (i + s - p)) (by omega)
    rw [show T.length - p + (i + s - p) + 1 + p = T.length - p + i + 1 + s by omega] at e1
    rw [show T.length - p + (i + s - p) + p = T.length - p + i + s by omega] at e2
    congr 1
    omega
/-- the least turn of the steps is the rule's least turn -/
theorem cyc_rule {T : List Int} {p s : Nat} {r : Int} (o : RuleOk T p r) (h : Cyc (stepsOf T p r) s) : 0 < s ∧ s ≤ p ∧ s ∣ p ∧ Rep T p r s (r * (s : Int) / (p : Int)) ∧ ∀ s' c', 0 < s' → s' < s → s' ∣ p → ¬ Rep T p r s' c' := by
  obtain ⟨s0, s1, dv, rot, least⟩ := h
  rw [stepsOf_len] at s1 dv rot least
  have p0 := o.p0
  refine ⟨s0, s1, dv, ?_, fun s' c' h1 h2 h3 rep => least s' h1 h2 h3 (rep_rot o.w (by omega) rep)⟩
  by_cases q : s < p
  · have rep := rot_rep o.w q (rot q)
    rw [(rep_quot o dv rep).1]
    exact rep
  · obtain rfl : s = p := by omega
    rw [Int.mul_ediv_cancel _ (by omega)]
    exact rep_self o
/-! values told by a function, as a rule -/
theorem tab_getD {f : Nat → Int} {n i : Nat} (h : i < n) : ((List.range n).map f).getD i 0 = f i := by
  rw [List.getD_eq_getElem?_getD, List.getElem?_map, List.getElem?_range h]
  rfl
theorem tab_len {f : Nat → Int} {n : Nat} : ((List.range n).map f).length = n := by rw [List.length_map, List.length_range]
theorem tab_vl {f : Nat → Int} {B t : Nat} {R : Int} (t0 : 0 < t) (h : ∀ x, B ≤ x → f (x + t) = f x + R) : ∀ x, vl ((List.range (B + t)).map f) t R x = f x := by
  intro x
  induction x using Nat.strongRecOn with
  | _ x ih =>
    by_cases q : x < B + t
    · rw [vl_lt (by rw [tab_len]; exact q), tab_getD q]
    · rw [vl_step t0 (by rw [tab_len]; omega) (by rw [tab_len]; omega), ih (x - t) (by omega)]
      have := h (x - t) (by omega)
      rw [show x - t + t = x by omega] at this
      omega
theorem tab_ok {f : Nat → Int} {B t : Nat} {R : Int} (t0 : 0 < t) (R0 : 0 ≤ R) (h : ∀ x, B ≤ x → f (x + t) = f x + R) (f0 : ∀ x, 0 ≤ f x) (up : ∀ x, f x ≤ f (x + 1)) : RuleOk ((List.range (B + t)).map f) t R := by
  refine ⟨t0, by rw [tab_len]; omega, R0, fun i hi => ?_, fun i hi => ?_, ?_⟩
  · rw [tab_len] at hi
    rw [tab_getD hi]
    exact f0 i
  · rw [tab_len] at hi
    rw [tab_getD hi, tab_getD (by omega)]
    exact up i
  · rw [tab_len, tab_getD (by omega), tab_getD (by omega), show B + t - t = B by omega]
    have a := h B (Nat.le_refl _)
    have b := up (B + t - 1)
    rw [show B + t - 1 + 1 = B + t by omega] at b
    omega
end Sm

set_option Elab.async false
set_option linter.all false
set_option maxRecDepth 100000
set_option maxHeartbeats 4000000
namespace Sm
open PySem PySem.Spec PyProof.Rows L2
/-! ### enumerate of a tuple -/
def tIt (l : Addr) : Obj := { cls := Value.type "tuple_iterator", data := Data.fields #[Value.ref l, Value.int 0 0] }
def eIt (i : Addr) : Obj := { cls := Value.type "enumerate", data := Data.fields #[Value.none, Value.bool false, Value.ref i, rawInt 0, Value.none, Value.none] }
theorem meets_enumerate_newT (l : Addr) (items : Array Value) : Meets (Builtin.«enumerate.__new__» { pos := [Value.type "enumerate", Value.ref l] }) fun _ R s =>
    s.heap.IsTuple l items ∧ R (Except.ok (Flow.ret (Value.ref (s.heap.push (tIt l)).objs.size))) { heap := (s.heap.push (tIt l)).push (eIt s.heap.objs.size), gens := s.gens, drawn := s.drawn, toks := s.toks, os := s.os } := by
  refine Meets.of_wp fun prog w A R s h => ?_
  obtain ⟨hT, h⟩ := h
  have hsub := sub_enumerate
  unfold Builtin.«enumerate.__new__»
  refine wpAny_bind (wpAny_bind (wpAny_pure (wpAny_ite_false rfl (wpAny_bind (wpAny_of_eq hsub (wpAny_ite_false rfl (wpAny_pure (wpAny_ite_true rfl (wpAny_bind (wpAny_bind (wpAny_stack_any fun st => wpAny_pure ?_)))))))))))
  have tail : wpAny (model prog w) A.in1 (Builtin.SmallTypes.newRecord (Value.type "enumerate") (Builtin.SmallTypes.ownedTupleFields ++ [Value.ref s.heap.objs.size, rawInt 0, Value.none, Value.none]))
      (fun a s' => wpAny (model prog w) A.in1 (ret a) (fun fin s' => ∃ v, fin = Fin.done (Flow.ret v) ∧ R (Except.ok (Flow.ret v)) s') (fun e s' => R (Except.error e) s') s') (fun e s' => R (Except.error e) s')
      { heap := s.heap.push (tIt l), gens := s.gens, drawn := s.drawn, toks := s.toks, os := s.os } := by
    unfold Builtin.SmallTypes.newRecord
    show wpAny (model prog w) A.in1 (newObj (Value.type "enumerate") (Data.fields (Builtin.SmallTypes.ownedTupleFields ++ [Value.ref s.heap.objs.size, rawInt 0, Value.none, Value.none]).toArray)) _ _ _
    unfold newObj
    show wpAny (model prog w) A.in1 (if (Builtin.SmallTypes.ownedTupleFields ++ [Value.ref s.heap.objs.size, rawInt 0, Value.none, Value.none]).toArray.size > sizeLine + 2 then _ else _) _ _ _
    apply wpAny_ite_false
    · exact decide_eq_false (by show ¬ (6 > sizeLine + 2); decide)
    refine wpAny_bind (wpAny_alloc' (wpAny_pure ?_))
    exact wpAny_pure ⟨_, rfl, h⟩
  split
  · rename_i c tl kw snd tl2 eq
    cases c == Value.type "enumerate"
    · exact wpAny_ite_false rfl (wpAny_bind (wpAny_of_eq (a := (Value.ref l, none)) rfl (wpAny_bind (wpAny_pyIter_tuple hT (wpAny_bind tail)))))
    · exact wpAny_ite_true rfl (wpAny_bind (wpAny_pure (wpAny_bind (wpAny_pyIter_tuple hT (wpAny_bind tail)))))
  · exact wpAny_ite_false rfl (wpAny_bind (wpAny_of_eq (a := (Value.ref l, none)) rfl (wpAny_bind (wpAny_pyIter_tuple hT (wpAny_bind tail)))))
theorem call_enumerate_tuple {prog : Program} {w : World} {A : Around} {E : Value → Shared → Prop} {s : Shared} {l : Addr} {items : Array Value} {Q : Value → Shared → Prop} (hT : s.heap.IsTuple l items)
    (h : ∀ h' : Heap, IsEnum h' (s.heap.objs.size + 1) s.heap.objs.size 0 Value.none → h'.IsTupleIter s.heap.objs.size l 0 → h'.objs.size = s.heap.objs.size + 2 → (∀ (b : Addr) (o : Obj), s.heap.get? b = some o → h'.get? b = some o) → Q (Value.ref (s.heap.objs.size + 1)) { s with heap := h' }) :
    wpAny (model prog w) A (call (Value.type "enumerate") [Value.ref l]) Q E s := by
  have hz : (s.heap.push (tIt l)).objs.size = s.heap.objs.size + 1 := Heap.size_push _ _
  refine callType_new F.called_enumerate (by decide) (F.typeCall_enumerate_1 (Value.ref l)) (F.newCall_enumerate_1 (Value.ref l)) (fun obj => F.args_object_init_2 obj (Value.ref l)) F.entry_enumerate_new (meets_enumerate_newT l items) ⟨hT, ?_⟩
  have he : ((s.heap.push (tIt l)).push (eIt s.heap.objs.size)).get? (s.heap.objs.size + 1) = some (eIt s.heap.objs.size) := by
    have := Heap.get?_push_size (s.heap.push (tIt l)) (o := eIt s.heap.objs.size) rfl
    rw [hz] at this
    exact this
  rw [hz]
  refine ⟨⟨_, he, rfl⟩, h _ he ⟨_, Heap.get?_push_of_some _ (Heap.get?_push_size s.heap rfl), rfl, rfl⟩ ?_ fun b o y => Heap.get?_push_of_some _ (Heap.get?_push_of_some _ y)⟩
  rw [Heap.size_push, hz]
def IteT (K : PySem.W.Frag) (a : Addr) : It :=
  { go := fun i H => ∃ xs x, SqT K H a xs ∧ xs[i]? = some x,
    yld := fun i H v H' => ∃ T x, v = V.ref T ∧ H T = none ∧ H' = upd H T (HO.tup [V.int ((i : Nat) : Int), x]) ∧ ∀ xs : List V, SqT K H a xs → xs[i]? = some x,
    stop := fun i H => ∃ xs, SqT K H a xs ∧ xs.length = i }
theorem turn_enumT {P : Program} {w : World} {K : PySem.W.Frag} {elts : List Expr} {kk : Nat} {tpos : Pos} (a e it : Addr) :
    Turn P w K (Expr.Tuple elts kk tpos) (IteT K a) [e, it] e (fun i h => (∃ old, IsEnum h e it ((i : Nat) : Int) old) ∧ h.IsTupleIter it a i ∧ e ≠ it) where
  mem := List.mem_cons_self ..
  obj := by
    rintro i h ⟨⟨old, he⟩, ⟨o, ho, hc, hd⟩, hne⟩ b hb
    rcases List.mem_cons.mp hb with rfl | hb
    · exact ⟨_, he, fun v q => nomatch q⟩
    · rw [List.mem_singleton.mp hb]
      exact ⟨o, ho, fun v q => by rw [hd] at q; cases q⟩
  keep := by
    rintro i h h' ⟨⟨old, he⟩, hit, hne⟩ k
    exact ⟨⟨old, k e (List.mem_cons_self ..) _ he⟩, hit.at fun o q => k it (List.mem_cons_of_mem _ (List.mem_singleton.mpr rfl)) o q, hne⟩
  item := by
    rintro X rfl rfl rfl hc i pins s σ H E I hf ⟨⟨old, he⟩, hit, hne⟩ ⟨xs, x, hq, hx⟩
    obtain ⟨its, rv, p, hz⟩ := I.tuple hq
    obtain ⟨u, hu, ru⟩ := rv.get hx
    have tup : s.heap.IsTuple a its.toArray := p
    have hel := Heap.lt_size he
    have hil : it < s.heap.objs.size := by
      obtain ⟨o, q, _⟩ := hit
      exact Heap.lt_size q
    have hal : a ≠ it := by
      rintro rfl
      obtain ⟨o, q1, q2, _⟩ := hit
      obtain ⟨o', q3, q4, _⟩ := tup
      rw [q1] at q3
      cases q3
      rw [q2] at q4
      exact absurd q4 (by decide)
    have hae : e ≠ a := by
      rintro rfl
      obtain ⟨o', q3, q4, _⟩ := tup
      rw [he] at q3
      cases q3
      exact absurd (show Value.type "enumerate" = Value.type "tuple" from q4) (by decide)
    have hn : i < its.length := (List.getElem?_eq_some_iff.mp hu).1
    refine wpAny_pyNext_enum_itemD (Draws.tuple (A := X.A.in1) (I.ok.hd hc) it a hal its.toArray) he ⟨hit, tup⟩ (by rw [List.size_toArray]; exact hn) hne (by simp [hne, hae]) (fun x' h' tk px ho st' hT hsz hk => ?_)
    have px : x' = u := by
      have px : its[i]? = some x' := by simpa using px
      rw [hu] at px
      exact (Option.some.inj px).symm
    subst px
    refine ⟨_, rfl, wpAny_letOwnedTupleGo_enum ho fun h'' he' sb => ?_⟩
    have hT2 := (sb.2 _ (Nat.ne_of_gt hel)).trans hT
    have new : ObjOk X.prog X.w (upd H s.heap.objs.size (.tup [.int (i : Int), x])) h'' s.heap.objs.size (.tup [.int (i : Int), x]) := ⟨(by show 2 ≤ sizeLine; decide), [Value.int (i : Int) tk, x'], .cons ⟨tk, rfl⟩ (.cons ru .nil), _, hT2, rfl, 0, rfl⟩
    have I1 := Inv.turnedNew (t' := tk + 1) (ch := [e, it]) I (fun b o hb q => (sb.2 b (fun z => hb (by rw [z]; exact List.mem_cons_self ..))).trans (hk b o (fun z => hb (by rw [z]; exact List.mem_cons_self ..)) (fun z => hb (by rw [z]; exact List.mem_cons_of_mem _ (List.mem_singleton.mpr rfl))) q)) hf (Nat.le_refl _) new
    refine ⟨V.ref s.heap.objs.size, _, I1, rfl, ⟨_, x, rfl, I.hok.fresh (Nat.le_refl _), rfl, fun ys hy => by rw [I.tuple_inj hy hq]; exact hx⟩, ⟨⟨x', ?_⟩, st'.1.at fun o q => (sb.2 _ hne.symm).trans q, hne⟩, fun b hb => ?_⟩
    · have e1 : ((i + 1 : Nat) : Int) = (i : Int) + 1 := by omega
      rw [e1]
      exact he'
    · have lt : b < s.heap.objs.size := by
        rcases List.mem_cons.mp hb with rfl | hb
        · exact hel
        · rw [List.mem_singleton.mp hb]
          exact hil
      rw [upd_ne (Nat.ne_of_lt lt)]
      exact (hf b hb).1
  done := by
    rintro X rfl rfl rfl hc i pins s σ H E I hf ⟨⟨old, he⟩, hit, hne⟩ ⟨xs, hq, hx⟩
    obtain ⟨its, rv, p, hz⟩ := I.tuple hq
    have tup : s.heap.IsTuple a its.toArray := p
    have hal : a ≠ it := by
      rintro rfl
      obtain ⟨o, q1, q2, _⟩ := hit
      obtain ⟨o', q3, q4, _⟩ := tup
      rw [q1] at q3
      cases q3
      rw [q2] at q4
      exact absurd q4 (by decide)
    obtain ⟨f0, f1, f2, f3, f4, f5⟩ := hf it (List.mem_cons_of_mem _ (List.mem_singleton.mpr rfl))
    have en : its.toArray.size = i := by rw [List.size_toArray, ← rv.length]; exact hx
    refine wpAny_pyNext_enum_endD (Draws.tuple (A := X.A.in1) (I.ok.hd hc) it a hal its.toArray) he ⟨by rw [en]; exact hit, tup⟩ fun h' eb => ⟨rfl, Inv.turned I (fun b o hb q => eb b o hb q) f0 f1 f3 f4 f5⟩
  self := by
    rintro A i s Q E ⟨⟨old, he⟩, _⟩ h
    exact wpAny_pyIter_enum he h
theorem walk_enumT {K : PySem.W.Frag} {a : Addr} {xs : List V} : Walk (IteT K a) xs.length (fun H => SqT K H a xs) (YPair (fun i => some (V.int ((i : Nat) : Int))) fun i => xs[i]?) where
  goes := fun i H hi q => ⟨xs, xs[i], q, by simp [hi]⟩
  stops := fun H q => ⟨xs, q, rfl⟩
  yields := by
    rintro i H v H' hi q ⟨T, x, h1, h2, h3, h4⟩
    exact ⟨T, _, x, h1, h2, h3, rfl, h4 xs q⟩
section
variable {X : Cx} {tg : Expr}
def iEnumT (K : PySem.W.Frag) (ta : TA) : TI := fun σ H R => ta σ H fun vs H1 => ∃ a xs, vs = [V.ref a] ∧ SqT K H1 a xs ∧ R (IteT K a) H1
theorem pi_enumT {e : Expr} {ta : TA} {p pos tpos : Pos} {elts : List Expr} {kk : Nat} (hg : Gl X "enumerate") (hm : X.mg "enumerate" = none) (ha : PA X [e] ta) (hs : starEach [e] X.env = [(false, eval e X.env)] := by rfl) :
    PI X (Expr.Tuple elts kk tpos) (.Call (.Name "enumerate" p) [e] [] pos) (iEnumT X.K ta) := by
  constructor
  intro pins s σ H R I want
  refine Call_ (ld_blt I hg hm boot_enumerate (PyProof.Rows.callWith_type1 (thn (ha.run pos pins s σ H _ I want) ?_) hs rfl))
  rintro us s1 ⟨vs, H1, I1, rel, a, xs, rfl, hq, q⟩
  obtain ⟨its, rv, p', hz⟩ := I1.tuple hq
  rw [Vals.ref1 rel]
  have tup : s1.heap.IsTuple a its.toArray := p'
  refine call_enumerate_tuple tup fun h' he hit hsz hk => wpAny_pyIter_enum he ?_
  have I2 := I1.kept (t' := s1.toks) hk
  have hne : s1.heap.objs.size + 1 ≠ s1.heap.objs.size := by omega
  refine ⟨s1.heap.objs.size + 1, [s1.heap.objs.size + 1, s1.heap.objs.size], _, IteT X.K a, H1, rfl, I2, turn_enumT a _ _, ⟨⟨_, he⟩, hit, hne⟩, fun b hb => ?_, q⟩
  have ge : s1.heap.objs.size ≤ b := by
    rcases List.mem_cons.mp hb with rfl | hb
    · omega
    · rw [List.mem_singleton.mp hb]
      exact Nat.le_refl _
  have fr := I1.hok.fresh ge
  have f := I1.fpOk ge fr
  exact f
end
end Sm

set_option Elab.async false
set_option linter.all false
set_option maxRecDepth 100000
set_option maxHeartbeats 8000000
namespace Sm
open PySem PySem.Spec PyProof.Rows L2
open C8 (pss_cut)
def topS (i : Nat) : Stmt := PySem.Challenge.pw_smallchange_k06_sums_of_rules.main.body.getD i (.Pass ⟨0, 0, 0, 0⟩)
structure Txt (mg : Str → Option Value) : Prop where
  n_abs : mg "abs" = none
  n_enumerate : mg "enumerate" = none
  n_int : mg "int" = none
  n_len : mg "len" = none
  n_list : mg "list" = none
  n_max : mg "max" = none
  n_range : mg "range" = none
  n_repr : mg "repr" = none
  n_tuple : mg "tuple" = none
  g_lcm : mg "lcm" = some (.builtin "math.lcm")
  c_MAX_TOLD : ∃ t, mg "MAX_TOLD" = some (.int 5000 t)
/-! ### rules in the heap -/
def RuleAt (H : Hp) (d : Addr) (T : List Int) (p : Nat) (r : Int) : Prop := ∃ t, H d = some (.tup [.ref t, .int (p : Int), .int r]) ∧ H t = some (.tup (T.map V.int))
theorem RuleAt.same {H H' : Hp} {d : Addr} {T : List Int} {p : Nat} {r : Int} (R : RuleAt H d T p r) (s : Same H H') : RuleAt H' d T p r := by
  obtain ⟨t, h1, h2⟩ := R
  exact ⟨t, s _ _ h1, s _ _ h2⟩
theorem RuleAt.fr {H H' : Hp} {d a l : Addr} {n : Int} {T : List Int} {p : Nat} {r : Int} (R : RuleAt H d T p r) (f : Fr a l H H') (D : Deck H a l n) : RuleAt H' d T p r := by
  obtain ⟨t, h1, h2⟩ := R
  exact ⟨t, f.tup D h1, f.tup D h2⟩
structure RB (T : List Int) (p : Nat) (r : Int) : Prop where
  len : T.length ≤ 2000
  r1 : r ≤ 1000000000000000000
  top : ∀ i, i < T.length → T.getD i 0 ≤ 100000000000000000000
/-- a small one, with bound M -/
structure RS (M : Int) (T : List Int) (p : Nat) (r : Int) : Prop where
  len : T.length ≤ 300
  turn : p ≤ 40
  r1 : r ≤ M
  top : ∀ i, i < T.length → T.getD i 0 ≤ M
theorem RS.rb {M : Int} {T : List Int} {p : Nat} {r : Int} (b : RS M T p r) (h : M ≤ 10000000000000000) : RB T p r := by
  have h1 := b.r1
  have h2 := b.len
  exact ⟨by omega, by omega, fun i hi => by have := b.top i hi; omega⟩
theorem RS.up {M N : Int} {T : List Int} {p : Nat} {r : Int} (b : RS M T p r) (h : M ≤ N) : RS N T p r := by
  have h1 := b.r1
  exact ⟨b.len, b.turn, by omega, fun i hi => by have := b.top i hi; omega⟩
/-- a rule cut shorter -/
structure Cut (T : List Int) (p : Nat) (r : Int) (T' : List Int) (p' : Nat) (r' : Int) : Prop where
  len : T'.length ≤ T.length
  turn : p' ≤ p
  rise : r' ≤ r
  get : ∀ i, i < T'.length → T'.getD i 0 = T.getD i 0
theorem Cut.rs {M : Int} {T T' : List Int} {p p' : Nat} {r r' : Int} (c : Cut T p r T' p' r') (b : RS M T p r) : RS M T' p' r' := by
  have h1 := c.len
  have h2 := c.turn
  have h3 := c.rise
  have b1 := b.len
  have b2 := b.turn
  have b3 := b.r1
  exact ⟨by omega, by omega, by omega, fun i hi => by rw [c.get i hi]; exact b.top i (by omega)⟩
theorem Cut.rb {T T' : List Int} {p p' : Nat} {r r' : Int} (c : Cut T p r T' p' r') (b : RB T p r) : RB T' p' r' := by
  have h1 := c.len
  have h3 := c.rise
  have b1 := b.len
  have b3 := b.r1
  exact ⟨by omega, by omega, fun i hi => by rw [c.get i hi]; exact b.top i (by omega)⟩
theorem get_int {T : List Int} {i : Nat} (h : i < T.length) : (T.map V.int)[i]? = some (.int (T.getD i 0)) := by
  rw [List.getElem?_map, List.getElem?_eq_getElem h, List.getD_eq_getElem?_getD, List.getElem?_eq_getElem h]
  rfl
theorem atI_neg1 {xs : List V} {v : V} (h0 : 0 < xs.length) (h : xs[xs.length - 1]? = some v) : atI xs (-1) = some v := by
  unfold atI ixN
  rw [if_neg (by decide), if_pos (by omega), show ((-1 : Int) + (xs.length : Int)).toNat = xs.length - 1 by omega]
  exact h
theorem last_int {T : List Int} (h : 0 < T.length) : atI (T.map V.int) (-1) = some (.int (T.getD (T.length - 1) 0)) :=
  atI_neg1 (by rw [List.length_map]; exact h) (by rw [List.length_map]; exact get_int (by omega))
theorem pick4 {a b c d r : Int} (h0 : 0 ≤ r) (h1 : r < 4) : ∃ z, [V.int a, V.int b, V.int c, V.int d][r.toNat]? = some (.int z) ∧ (z = a ∨ z = b ∨ z = c ∨ z = d) := by
  obtain rfl | rfl | rfl | rfl : r = 0 ∨ r = 1 ∨ r = 2 ∨ r = 3 := by omega
  · exact ⟨a, rfl, .inl rfl⟩
  · exact ⟨b, rfl, .inr (.inl rfl)⟩
  · exact ⟨c, rfl, .inr (.inr (.inl rfl))⟩
  · exact ⟨d, rfl, .inr (.inr (.inr rfl))⟩
/-- a table while it grows -/
structure Tb (T : List Int) : Prop where
  ne : 0 < T.length
  nn : ∀ i, i < T.length → 0 ≤ T.getD i 0
  mono : ∀ i, i + 1 < T.length → T.getD i 0 ≤ T.getD (i + 1) 0
  top : ∀ i, i < T.length → T.getD i 0 ≤ 10000000000 * ((i : Int) + 1)
theorem getD_app {T : List Int} {x : Int} {i : Nat} : (T ++ [x]).getD i 0 = if i < T.length then T.getD i 0 else if i = T.length then x else 0 := by
  rw [List.getD_eq_getElem?_getD, List.getD_eq_getElem?_getD, List.getElem?_append]
  by_cases h : i < T.length
  · rw [if_pos h, if_pos h]
  · rw [if_neg h, if_neg h]
    by_cases e : i = T.length
    · rw [if_pos e, e, Nat.sub_self]
      rfl
    · rw [if_neg e, List.getElem?_eq_none (by rw [List.length_singleton]; omega)]
      rfl
theorem Tb.more {T : List Int} (t : Tb T) {c : Int} (c0 : 0 ≤ c) (c1 : c ≤ 1000000000) : Tb (T ++ [T.getD (T.length - 1) 0 + c]) := by
  have n := t.ne
  have l := t.nn (T.length - 1) (by omega)
  have u := t.top (T.length - 1) (by omega)
  refine ⟨by rw [List.length_append]; omega, fun i hi => ?_, fun i hi => ?_, fun i hi => ?_⟩
  · rw [List.length_append, List.length_singleton] at hi
    rw [getD_app]
    split
    · exact t.nn i (by assumption)
    · rw [if_pos (by omega)]
      omega
  · rw [List.length_append, List.length_singleton] at hi
    rw [getD_app, getD_app, if_pos (by omega)]
    split
    · exact t.mono i (by assumption)
    · rw [if_pos (by omega), show i = T.length - 1 by omega]
      omega
  · rw [List.length_append, List.length_singleton] at hi
    rw [getD_app]
    split
    · exact t.top i (by assumption)
    · rw [if_pos (by omega), show i = T.length by omega]
      omega
theorem Tb.rs {T : List Int} (t : Tb T) (h : T.length ≤ 300) {p : Nat} {r : Int} (hp : p ≤ 40) (h1 : r ≤ 10000000000000) : RS 10000000000000 T p r :=
  ⟨h, hp, h1, fun i hi => by have := t.top i hi; omega⟩
theorem Tb.level {T : List Int} (t : Tb T) : RuleOk T 1 0 := ⟨by decide, t.ne, by decide, t.nn, t.mono, by omega⟩
theorem Tb.rising {T : List Int} (t : Tb T) {p : Nat} {c : Int} (p0 : 0 < p) (p1 : p ≤ T.length) (c0 : 0 ≤ c) : RuleOk T p (T.getD (T.length - 1) 0 - T.getD (T.length - p) 0 + c) := by
  have up : T.getD (T.length - p) 0 ≤ T.getD (T.length - 1) 0 := by
    have z : RuleOk T 1 0 := t.level
    exact z.row (by omega) (by omega)
  exact ⟨p0, p1, by omega, t.nn, t.mono, by omega⟩
def sp_val (_ : PySem.W.Frag) : Sp := fun vs H Q _ => ∃ (d : Addr) (T : List Int) (p : Nat) (r : Int) (x : Nat), vs = [.ref d, .int (x : Int)] ∧ RuleAt H d T p r ∧ RuleOk T p r ∧ RB T p r ∧ Q (.int (vl T p r x)) H
abbrev sp_value_of := sp_val
abbrev sp_l_value := sp_val
def sp_l_repeats (_ : PySem.W.Frag) : Sp := fun vs H Q _ => ∃ (d : Addr) (T : List Int) (p : Nat) (r : Int) (s : Nat) (c : Int), vs = [.ref d, .int (s : Int), .int c] ∧ RuleAt H d T p r ∧ RuleOk T p r ∧ RB T p r ∧
  ∀ b, (b = true ↔ Rep T p r s c) → Q (.bl b) H
def sp_l_least (_ : PySem.W.Frag) : Sp := fun vs H Q _ => ∃ (d : Addr) (T : List Int) (p : Nat) (r : Int), vs = [.ref d] ∧ RuleAt H d T p r ∧ RuleOk T p r ∧ RB T p r ∧
  ∀ H' d' T' p' r', Same H H' → RuleAt H' d' T' p' r' → Cut T p r T' p' r' → Short T' p' r' → (∀ x, vl T' p' r' x = vl T p r x) → Q (.ref d') H'
def sp_l_rule (_ : PySem.W.Frag) : Sp := fun vs H Q _ => ∃ (p l : Addr) (n long wide tall : Int), vs = [.ref p, .int long, .int wide, .int tall] ∧ Deck H p l n ∧ 0 ≤ n ∧ n ≤ 900000 ∧ 0 ≤ long ∧ long ≤ 200 ∧ 1 ≤ wide ∧ wide ≤ 40 ∧ 0 ≤ tall ∧ tall ≤ 1000000000 ∧
  ∀ H' d T pp r n', Fr p l H H' → Deck H' p l n' → n ≤ n' → n' ≤ n + 1000 → RuleAt H' d T pp r → RS 10000000000000 T pp r → Short T pp r → Q (.ref d) H'
section
variable {P : Program} {w : World} {K : PySem.W.Frag} {mg : Str → Option Value} {base : Heap}
abbrev s_l_deck : Stmt := topS 17
abbrev N_l_deck : List Str := ["_law_script", "_law_cell"]
theorem sc_l_deck : FnScope N_l_deck ["_law_script"] (defScope s_l_deck) := ⟨rfl, rfl, rfl, by decide +kernel, rfl, by decide +kernel, by decide +kernel⟩
theorem ok_l_deck (T : Txt mg) (D : Df K mg "_law_deck" s_l_deck ["_law_script"]) : Cal P w K mg base "_law_deck" ["_law_script"] 1 (sp_l_deck K) := by
  refine D.cal sc_l_deck (fun vs H Q E h => ?_) (fun f cdv A outer s H vs Q E hr h => ?_)
  · obtain ⟨a, ns, rfl, _⟩ := h
    rfl
  obtain ⟨a, ns, rfl, hS, hlen, k⟩ := h
  refine ⟨_, (pss_one (ps_ret (pe_lst (pa_cons (pe_lc (own := [("_law_cell", 1)]) (g := gName 1) (tt := tYes) rfl sc_l_deck.nd (pi_list (pe_slice sl_list (pv 0) po_none (po_some pe_int))) (blkOk_by (own := [("_law_cell", 1)]) (N := N_l_deck) (sc := defScope s_l_deck) (by decide +kernel)) (fun _ _ _ _ _ => pg_name (i := 1) sc_l_deck.nd rfl (Or.inl rfl)) (fun _ _ _ _ _ => pts_nil) (fun _ _ _ _ _ => (pe_callB call_abs (by rfl) T.n_abs (by decide +kernel) (pa_cons (pv 1) pa_nil)))) (pa_cons pe_int pa_nil))))), ?_⟩
  refine ⟨_, rfl, _, rfl, a, _, rfl, hS, fun c nc => ?_⟩
  rw [cut63 hlen]
  have s1 := same_upd (o := .lst (ns.map V.int)) nc
  refine ⟨c, rfl, ⟨_, SqL.of upd_same⟩, fun D nD => ?_⟩
  have s2 := s1.trans (same_upd (o := .lst []) nD)
  have hc2 : upd (upd H c (.lst (ns.map V.int))) D (.lst []) c = some (.lst (ns.map V.int)) := same_upd nD _ _ upd_same
  refine lc_list (K := K) (a := c) (xs := ns.map V.int) (fun i H' => Same H H' ∧ H' c = some (.lst (ns.map V.int)) ∧ c ≠ D ∧ H D = none ∧ H' D = some (.lst (((ns.take i).map absI).map V.int)))
    ⟨s2, hc2, ne_of_none upd_same nD, s1.free nD, upd_same⟩ (fun i H' _ h => SqL.of h.2.1) ?_ ?_
  · rintro i x H' hx ⟨sm, hc, ncD, nD0, hD⟩
    rw [List.getElem?_map] at hx
    cases e : ns[i]? with
    | none => rw [e] at hx; cases hx
    | some y =>
      rw [e] at hx
      have ex : x = .int y := (Option.some.inj hx).symm
      subst ex
      refine ⟨rfl, ?_⟩
      unfold tYes
      refine iteT ?_
      refine ⟨_, rfl, _, rfl, _, hD, ?_, ?_⟩
      · rw [List.length_map, List.length_map, List.length_take]
        exact Nat.lt_of_le_of_lt (Nat.min_le_right _ _) (small1000 (by omega))
      · refine ⟨fun b o e => ?_, ?_, ncD, nD0, ?_⟩
        · rw [upd_ne (ne_of_none e nD0)]
          exact sm _ _ e
        · rw [upd_ne ncD]
          exact hc
        · rw [upd_same, List.take_add_one, e, List.map_append, List.map_append]
          rfl
  · rintro H' ⟨sm, hc, ncD, nD0, hD⟩
    refine ⟨(by show 2 ≤ sizeLine; decide), fun p np => ?_⟩
    have s3 := sm.trans (same_upd (o := .lst [.ref D, .int 0]) np)
    refine k _ p D s3 ⟨upd_same, _, (same_upd np) _ _ hD, fun c hc => ?_, ?_⟩
    · obtain ⟨y, _, rfl⟩ := List.mem_map.mp hc
      exact absI_pos y
    · rw [List.length_map, List.length_take]
      omega
abbrev s_l_draw : Stmt := topS 18
abbrev N_l_draw : List Str := ["_law_deck_here", "_law_many", "_law_place", "_law_cell", "_law_mixed"]
theorem sc_l_draw : FnScope N_l_draw ["_law_deck_here", "_law_many"] (defScope s_l_draw) := ⟨rfl, rfl, rfl, by decide +kernel, rfl, by decide +kernel, by decide +kernel⟩
theorem ok_l_draw (T : Txt mg) (D : Df K mg "_law_draw" s_l_draw ["_law_deck_here", "_law_many"]) : Cal P w K mg base "_law_draw" ["_law_deck_here", "_law_many"] 1 (sp_l_draw K) := by
  refine D.cal sc_l_draw (fun vs H Q E h => ?_) (fun f cdv A outer s H vs Q E hr h => ?_)
  · obtain ⟨p, l, n, m, rfl, _⟩ := h
    rfl
  obtain ⟨p, l, n, m, rfl, D, n0, n1, m0, m1, k⟩ := h
  obtain ⟨cells, hl, hc⟩ := D.hl
  have npl : p ≠ l := ne_of D.hp hl deck_ne
  refine ⟨_, (pss_cons (ps_asg (pe_op op_add (pe_ix ix_list (pv 0) pe_int (fun _ _ => rfl)) pe_int) (pg_sub (pv 0) pe_int set_list))
    (pss_cons (ps_set (i := 2) sc_l_draw.nd rfl (Or.inl rfl) (pe_op op_modN (pe_callTy call_int1 (by rfl) T.n_int (by decide +kernel) (pa_cons (pe_ix ix_list (pv 0) pe_int (fun _ _ => rfl)) pa_nil)) (pe_callB (call_max2 rfl) (by rfl) T.n_max (by decide +kernel) (pa_cons pe_int (pa_cons (pe_callB call_len_seq (by rfl) T.n_len (by decide +kernel) (pa_cons (pe_ix ix_list (pv 0) pe_int (fun _ _ => rfl)) pa_nil)) pa_nil)))))
    (pss_cons (ps_set (i := 3) sc_l_draw.nd rfl (Or.inl rfl) (pe_ix ix_list (pe_op op_cat (pe_ix ix_list (pv 0) pe_int (fun _ _ => rfl)) (pe_lst (pa_cons pe_int pa_nil))) (pv 2) (fun _ _ => rfl)))
    (pss_cons (ps_if (pt_cmpR op_ge (pv 3) (pe_op op_pow pe_int pe_int) (nomark _)) (pss_cons (ps_asg (pe_op op_fdivW (pv 3) (pv 1)) (pg_sub (pe_ix ix_list (pv 0) pe_int (fun _ _ => rfl)) (pv 2) set_list))
    (pss_one (ps_ret (pe_op op_modN (pe_callTy call_int1 (by rfl) T.n_int (by decide +kernel) (pa_cons (pv 3) pa_nil)) (pv 1))))) pss_nil)
    (pss_cons (ps_set (i := 4) sc_l_draw.nd rfl (Or.inl rfl) (pe_op op_pow (pe_op op_add (pe_op op_add (pe_op op_modN (pe_callTy call_int1 (by rfl) T.n_int (by decide +kernel) (pa_cons (pv 3) pa_nil)) pe_int) (pe_op op_mul pe_int (pe_ix ix_list (pv 0) pe_int (fun _ _ => rfl)))) pe_int) pe_int))
    (pss_one (ps_ret (pe_op op_modN (pe_callTy call_int1 (by rfl) T.n_int (by decide +kernel) (pa_cons (pe_op op_modN (pe_callTy call_int1 (by rfl) T.n_int (by decide +kernel) (pa_cons (pv 4) pa_nil)) pe_int) pa_nil)) (pv 1))))))))), ?_⟩
  refine ⟨_, rfl, _, _, _, _, rfl, rfl, SqL.of D.hp, atI_nat (j := 1) rfl, _, _, rfl, rfl, _, rfl, _, _, _, _, rfl, rfl, D.hp, rfl, ?_⟩
  generalize hH0 : upd H p (HO.lst (List.set [V.ref l, V.int n] (Int.toNat 1) ((fun i j => V.int (i + j)) n 1))) = H0
  have hH0 : upd H p (.lst [.ref l, .int (n + 1)]) = H0 := hH0
  have f0 : Fr p l H H0 := fun b o h1 _ h => by rw [← hH0, upd_ne h1]; exact h
  have hl0 : H0 l = some (.lst (cells.map V.int)) := by rw [← hH0, upd_ne npl.symm]; exact hl
  have hp0 : H0 p = some (.lst [.ref l, .int (n + 1)]) := by rw [← hH0, upd_same]
  -- place
  have big : (if ((cells.map V.int).length : Int) > 1 then ((cells.map V.int).length : Int) else 1) = max 1 (cells.length : Int) := by
    rw [List.length_map]
    split <;> omega
  have fm : (n + 1).fmod (max 1 (cells.length : Int)) = (n + 1) % (max 1 (cells.length : Int)) := fmod_pos (by omega)
  have q0 : 0 ≤ (n + 1).fmod (max 1 (cells.length : Int)) := by rw [fm]; exact Int.emod_nonneg _ (by omega)
  have q1 : (n + 1).fmod (max 1 (cells.length : Int)) < max 1 (cells.length : Int) := by rw [fm]; exact Int.emod_lt_of_pos _ (by omega)
  refine ⟨_, rfl, _, _, _, _, rfl, rfl, SqL.of hp0, atI_nat (j := 1) rfl, .inl ⟨_, rfl, _, rfl, _, _, _, _, rfl, rfl, SqL.of hp0, atI_nat (j := 0) rfl, _, _, rfl, .inl (SqL.of hl0), _, _, rfl, _, _, rfl, rfl, (by rw [big]; omega), ?_⟩⟩
  have z : ∀ B : Int → Prop, B ((n + 1).fmod (max 1 (cells.length : Int))) → B ((n + 1).fmod (if ((cells.map V.int).length : Int) > 1 then ((cells.map V.int).length : Int) else 1)) := fun B h => by rw [big]; exact h
  refine z (fun y => gName 2 (.int y) _ _ _) ?_
  clear z
  -- cell
  refine ⟨_, rfl, _, _, _, _, rfl, rfl, SqL.of hp0, atI_nat (j := 0) rfl, (by show 1 ≤ sizeLine; decide), fun t nt => ?_⟩
  have st := same_upd (o := .lst [.int 0]) nt
  have hp1 := st _ _ hp0
  have hl1 := st _ _ hl0
  have f1 := f0.trans (Same.fr (p := p) (l := l) st)
  obtain ⟨hc, h63⟩ := hc
  have ln : (cells.map V.int).length = cells.length := List.length_map ..
  refine ⟨_, _, _, _, rfl, rfl, hl1, upd_same, (by rw [ln]; exact Nat.le_trans (by omega : cells.length + 1 ≤ 64) (by decide)), fun t2 nt2 => ?_⟩
  have st2 := same_upd (o := .lst (cells.map V.int ++ [.int 0])) nt2
  have hp2 := st2 _ _ hp1
  have hl2 := st2 _ _ hl1
  have f2 := f1.trans (Same.fr (p := p) (l := l) st2)
  have ht2 : upd (upd H0 t (.lst [.int 0])) t2 (.lst (cells.map V.int ++ [.int 0])) t2 = some (.lst ((cells ++ [0]).map V.int)) := by rw [upd_same, List.map_append]; rfl
  generalize upd (upd H0 t (HO.lst [V.int 0])) t2 (HO.lst (cells.map V.int ++ [V.int 0])) = H2 at hp2 hl2 f2 ht2 ⊢
  have q2 : ((n + 1).fmod (max 1 (cells.length : Int))).toNat < (cells ++ [0]).length := by rw [List.length_append, List.length_singleton]; omega
  have q3 : (n + 1).fmod (max 1 (cells.length : Int)) = (((n + 1).fmod (max 1 (cells.length : Int))).toNat : Int) := by omega
  generalize (n + 1).fmod (max 1 (cells.length : Int)) = pl at q0 q1 q2 q3 ⊢
  have q4 : ((cells ++ [0]).map V.int)[pl.toNat]? = some (.int (cells ++ [0])[pl.toNat]) := by
    rw [List.getElem?_map, List.getElem?_eq_getElem q2]
    rfl
  have c0 : 0 ≤ (cells ++ [0])[pl.toNat] := by
    rcases List.mem_append.mp (List.getElem_mem q2) with q | q
    · exact hc _ q
    · rw [List.mem_singleton.mp q]
      decide
  have inside : 1000000000000000000 ≤ (cells ++ [0])[pl.toNat] → pl.toNat < cells.length := by
    intro q
    by_cases e : pl.toNat < cells.length
    · exact e
    · rw [List.getElem_append_right (by omega)] at q
      simp at q
  generalize (cells ++ [0])[pl.toNat] = c at q4 c0 inside ⊢
  refine ⟨_, rfl, _, _, _, _, rfl, rfl, SqL.of ht2, at_of q3 q4, ?_⟩
  refine ⟨_, rfl, _, _, rfl, rfl, ⟨by decide, by decide, by decide⟩, _, _, rfl, rfl, _, rfl, ite3 (fun e => ?_) (fun e => ?_)⟩
  · have e : 1000000000000000000 ≤ c := e
    have p1 := inside e
    have ix : ixN (cells.map V.int).length pl = some pl.toNat := by
      unfold ixN
      rw [if_pos q0, if_pos (by omega)]
    refine ⟨_, rfl, _, rfl, _, _, rfl, rfl, div_draw m0 m1, _, rfl, _, _, _, _, rfl, rfl, SqL.of hp2, atI_nat (j := 0) rfl, _, rfl, _, _, _, _, rfl, rfl, hl2, ix, ?_⟩
    refine ⟨_, rfl, .inl ⟨_, rfl, _, rfl, _, _, rfl, rfl, (by omega), ?_⟩⟩
    have fm : c.fmod m = c % m := fmod_pos m0
    refine k _ _ (by rw [fm]; exact Int.emod_nonneg _ (by omega)) (by rw [fm]; exact Int.emod_lt_of_pos _ m0) (f2.trans fun b o _ h2 h => by rw [upd_ne h2]; exact h) ⟨by rw [upd_ne npl]; exact hp2, cells.set pl.toNat (c / m), by rw [upd_same, List.map_set], fun y hy => ?_, by rw [List.length_set]; exact h63⟩
    rcases List.mem_or_eq_of_mem_set hy with q | q
    · exact hc y q
    · rw [q]; exact Int.ediv_nonneg c0 (by omega)
  · refine ⟨_, rfl, .inl ⟨_, rfl, _, _, rfl, rfl, (show (2147483587 : Int) ≠ 0 by decide), _, rfl, _, _, _, _, rfl, rfl, SqL.of hp2, atI_nat (j := 1) rfl, _, _, rfl, rfl, .inl ⟨by decide, by decide⟩, _, _, rfl, rfl, _, _, rfl, rfl, ?_⟩⟩
    have fm : c.fmod 2147483587 = c % 2147483587 := fmod_pos (by decide)
    have h0 := Int.emod_nonneg c (show (2147483587 : Int) ≠ 0 by decide)
    have h1 := Int.emod_lt_of_pos c (show (0 : Int) < 2147483587 by decide)
    refine ⟨_, _, rfl, rfl, ⟨by decide, by decide, by rw [fm]; omega⟩, ?_⟩
    refine ⟨_, rfl, .inl ⟨_, rfl, _, _, rfl, rfl, (show (2147483647 : Int) ≠ 0 by decide), .inl ⟨_, rfl, _, rfl, _, _, rfl, rfl, (by omega), ?_⟩⟩⟩
    refine k _ _ ?_ ?_ f2 ⟨hp2, cells, hl2, hc, h63⟩
    · rw [fmod_pos m0]; exact Int.emod_nonneg _ (by omega)
    · rw [fmod_pos m0]; exact Int.emod_lt_of_pos _ m0
abbrev s_l_one : Stmt := topS 19
abbrev N_l_one : List Str := ["_law_deck_here", "_law_items"]
theorem sc_l_one : FnScope N_l_one ["_law_deck_here", "_law_items"] (defScope s_l_one) := ⟨rfl, rfl, rfl, by decide +kernel, rfl, by decide +kernel, by decide +kernel⟩
theorem ok_l_one (T : Txt mg) (D : Df K mg "_law_one" s_l_one ["_law_deck_here", "_law_items"]) (C_l_draw : Cal P w K mg base "_law_draw" ["_law_deck_here", "_law_many"] 1 (sp_l_draw K)) : Cal P w K mg base "_law_one" ["_law_deck_here", "_law_items"] 2 (sp_l_one K) := by
  obtain ⟨f_l_draw, fd_l_draw, G_l_draw, m_l_draw, k_l_draw, b_l_draw⟩ := C_l_draw
  refine D.cal sc_l_one (fun vs H Q E h => ?_) (fun f cdv A outer s H vs Q E hr h => ?_)
  · obtain ⟨p, l, b, n, xs, rfl, _⟩ := h
    rfl
  obtain ⟨p, l, b, n, xs, rfl, D, n0, n1, hb, bp, bl, x0, x1, k⟩ := h
  refine ⟨_, (pss_one (ps_ret (pe_ix ix_list (pv 1) (pe_call G_l_draw (hr.mono (by decide)) (by rfl) m_l_draw k_l_draw b_l_draw .nil pass0 (pa_cons (pv 0) (pa_cons (pe_callB call_len_seq (by rfl) T.n_len (by decide +kernel) (pa_cons (pv 1) pa_nil)) pa_nil))) (fun _ _ => rfl)))), ?_⟩
  refine ⟨_, rfl, _, rfl, _, rfl, _, _, rfl, .inl (SqL.of hb), p, l, n, _, rfl, D, n0, n1, (by omega), (by omega), fun r H' r0 r1 f D' => ?_⟩
  have q : r.toNat < xs.length := by omega
  refine ⟨_, _, _, _, rfl, rfl, SqL.of (f b _ bp bl hb), at_of (j := r.toNat) (by omega) (List.getElem?_eq_getElem q), ?_⟩
  exact k _ H' (List.getElem_mem q) f D'
end
end Sm

set_option Elab.async false
set_option linter.all false
set_option maxRecDepth 100000
set_option maxHeartbeats 8000000
namespace Sm
open PySem PySem.Spec PyProof.Rows L2
open C8 (pss_cut tCut)
section
variable {P : Program} {w : World} {K : PySem.W.Frag} {mg : Str → Option Value} {base : Heap}
theorem RB.div {T : List Int} {p : Nat} {r x : Int} (b : RB T p r) (o : RuleOk T p r) : CDivW x (p : Int) := by
  have := b.len
  have := o.p0
  have := o.p1
  exact wide_div (b := 12) (by omega) (by omega) (by decide) (by decide)
theorem RB.mulR {T : List Int} {p : Nat} {r x : Int} (b : RB T p r) (o : RuleOk T p r) : CMul x r := by
  have := b.r1
  have := o.r0
  exact .inr ⟨by omega, by omega⟩
theorem RB.mulR' {T : List Int} {p : Nat} {r x : Int} (b : RB T p r) (o : RuleOk T p r) : CMul r x := by
  have := b.r1
  have := o.r0
  exact .inl ⟨by omega, by omega⟩
theorem RB.mulP {T : List Int} {p : Nat} {r x : Int} (b : RB T p r) (o : RuleOk T p r) : CMul x (p : Int) := by
  have := b.len
  have := o.p1
  exact .inr ⟨by omega, by omega⟩
theorem len_int (T : List Int) : (((T.map V.int).length : Nat) : Int) = (T.length : Int) := by rw [List.length_map]
theorem turns_eq {T : List Int} {p x : Nat} (h : T.length ≤ x) : ((x : Int) - (((T.map V.int).length : Nat) : Int)) / (p : Int) + 1 = (((x - T.length) / p + 1 : Nat) : Int) := by
  rw [len_int]
  exact div_cast h
theorem index_eq {q p x : Nat} (h : q * p ≤ x) : (x : Int) - (q : Int) * (p : Int) = ((x - q * p : Nat) : Int) := by
  rw [Int.natCast_sub h, Int.natCast_mul]
abbrev s_l_value : Stmt := topS 20
abbrev N_l_value : List Str := ["_law_rule_here", "_law_x", "_law_table", "_law_period", "_law_rise", "_law_turns"]
theorem sc_l_value : FnScope N_l_value ["_law_rule_here", "_law_x"] (defScope s_l_value) := ⟨rfl, rfl, rfl, by decide +kernel, rfl, by decide +kernel, by decide +kernel⟩
theorem ok_l_value (T : Txt mg) (D : Df K mg "_law_value" s_l_value ["_law_rule_here", "_law_x"]) : Cal P w K mg base "_law_value" ["_law_rule_here", "_law_x"] 1 (sp_l_value K) := by
  refine D.cal sc_l_value (fun vs H Q E h => ?_) (fun f cdv A outer s H vs Q E hr h => ?_)
  · obtain ⟨d, T0, p, r, x, rfl, _⟩ := h
    rfl
  obtain ⟨d, T0, p, r, x, rfl, ⟨t, hd, ht⟩, o, b, k⟩ := h
  have p0 := o.p0
  have p1 := o.p1
  refine ⟨_, (pss_cons (ps_asg (pv 0) (pg_tup (by rfl) (pgs_cons (pg_name (i := 2) sc_l_value.nd rfl (Or.inl rfl)) (pgs_cons (pg_name (i := 3) sc_l_value.nd rfl (Or.inl rfl)) (pgs_cons (pg_name (i := 4) sc_l_value.nd rfl (Or.inl rfl)) pgs_nil)))))
    (pss_cons (ps_if (pt_cmpR op_lt (pv 1) (pe_callB call_len_seq (by rfl) T.n_len (by decide +kernel) (pa_cons (pv 2) pa_nil)) (nomark _)) (pss_one (ps_ret (pe_ix ix_tup (pv 2) (pv 1) (fun _ _ => rfl)))) pss_nil)
    (pss_cons (ps_set (i := 5) sc_l_value.nd rfl (Or.inl rfl) (pe_op op_add (pe_op op_fdivW (pe_op op_sub (pv 1) (pe_callB call_len_seq (by rfl) T.n_len (by decide +kernel) (pa_cons (pv 2) pa_nil))) (pv 3)) pe_int))
    (pss_one (ps_ret (pe_op op_add (pe_ix ix_tup (pv 2) (pe_op op_sub (pv 1) (pe_op op_mul (pv 5) (pv 3))) (fun _ _ => rfl)) (pe_op op_mul (pv 5) (pv 4)))))))), ?_⟩
  refine ⟨_, rfl, _, _, rfl, SqT.of hd, rfl, _, _, rfl, _, _, rfl, _, _, rfl, rfl, ?_⟩
  refine ⟨_, rfl, _, rfl, _, _, rfl, .inr (SqT.of ht), _, _, rfl, rfl, _, rfl, ite3 (fun e => ?_) (fun e => ?_)⟩
  · rw [len_int] at e
    have e : x < T0.length := by omega
    rw [vl_lt e] at k
    exact ⟨_, rfl, _, rfl, _, _, _, _, rfl, rfl, SqT.of ht, atI_nat (get_int e), k⟩
  · rw [len_int] at e
    have e : T0.length ≤ x := by omega
    have z : ∀ B : Int → Prop, B (((x - T0.length) / p + 1 : Nat) : Int) → B (((x : Int) - (((T0.map V.int).length : Nat) : Int)) / (p : Int) + 1) := fun B h => by rw [turns_eq e]; exact h
    refine ⟨_, rfl, _, rfl, _, _, rfl, .inr (SqT.of ht), _, _, rfl, rfl, _, rfl, _, _, rfl, rfl, b.div o, _, _, rfl, rfl, ?_⟩
    refine z (fun y => gName 5 (.int y) _ _ _) ?_
    clear z
    obtain ⟨a1, a2, a3⟩ := place p0 p1 e
    have kv : vl T0 p r x = T0.getD (x - ((x - T0.length) / p + 1) * p) 0 + (((x - T0.length) / p + 1 : Nat) : Int) * r := if_neg (by omega)
    rw [kv] at k
    generalize (x - T0.length) / p + 1 = q at a1 a2 a3 k ⊢
    exact ⟨_, rfl, _, rfl, _, rfl, _, rfl, _, _, rfl, rfl, b.mulP o, _, _, rfl, rfl, _, _, _, _, rfl, rfl, SqT.of ht, at_of (index_eq a1) (get_int a3), _, rfl, _, rfl, _, _, rfl, rfl, b.mulR o, _, _, rfl, rfl, k⟩
abbrev s_l_repeats : Stmt := topS 21
abbrev N_l_repeats : List Str := ["_law_rule_here", "_law_step", "_law_more", "_law_table", "_law_period", "_law_rise", "_law_x"]
theorem sc_l_repeats : FnScope N_l_repeats ["_law_rule_here", "_law_step", "_law_more"] (defScope s_l_repeats) := ⟨rfl, rfl, rfl, by decide +kernel, rfl, by decide +kernel, by decide +kernel⟩
theorem ok_l_repeats (T : Txt mg) (D : Df K mg "_law_repeats" s_l_repeats ["_law_rule_here", "_law_step", "_law_more"]) (C_l_value : Cal P w K mg base "_law_value" ["_law_rule_here", "_law_x"] 1 (sp_l_value K)) : Cal P w K mg base "_law_repeats" ["_law_rule_here", "_law_step", "_law_more"] 2 (sp_l_repeats K) := by
  obtain ⟨f_l_value, fd_l_value, G_l_value, m_l_value, k_l_value, b_l_value⟩ := C_l_value
  refine D.cal sc_l_repeats (fun vs H Q E h => ?_) (fun f cdv A outer s H vs Q E hr h => ?_)
  · obtain ⟨d, T0, p, r, s, c, rfl, _⟩ := h
    rfl
  obtain ⟨d, T0, p, r, st, c, rfl, R, o, b, k⟩ := h
  obtain ⟨t, hd, ht⟩ := id R
  have p0 := o.p0
  have p1 := o.p1
  have bl := b.len
  refine ⟨_, (pss_cons (ps_asg (pv 0) (pg_tup (by rfl) (pgs_cons (pg_name (i := 3) sc_l_repeats.nd rfl (Or.inl rfl)) (pgs_cons (pg_name (i := 4) sc_l_repeats.nd rfl (Or.inl rfl)) (pgs_cons (pg_name (i := 5) sc_l_repeats.nd rfl (Or.inl rfl)) pgs_nil)))))
    (pss_cons (ps_for PassesOwn.never rfl (pi_range2 (by rfl) T.n_range (pa_cons (pe_op op_sub (pe_callB call_len_seq (by rfl) T.n_len (by decide +kernel) (pa_cons (pv 3) pa_nil)) (pv 4)) (pa_cons (pe_callB call_len_seq (by rfl) T.n_len (by decide +kernel) (pa_cons (pv 3) pa_nil)) pa_nil))) (pg_name (i := 6) sc_l_repeats.nd rfl (Or.inl rfl))
      (pss_one (ps_if (pt_cmpR op_ne (pe_call G_l_value (hr.mono (by decide)) (by rfl) m_l_value k_l_value b_l_value .nil pass0 (pa_cons (pv 0) (pa_cons (pe_op op_add (pv 6) (pv 1)) pa_nil))) (pe_op op_add (pe_ix ix_tup (pv 3) (pv 6) (fun _ _ => rfl)) (pv 2)) (nomark _)) (pss_one (ps_ret pe_bl)) pss_nil)))
    (pss_one (ps_ret pe_bl)))), ?_⟩
  refine ⟨_, rfl, _, _, rfl, SqT.of hd, rfl, _, _, rfl, _, _, rfl, _, _, rfl, rfl, ?_⟩
  have ll := len_int T0
  refine ⟨_, rfl, _, _, rfl, .inr (SqT.of ht), _, rfl, _, _, rfl, rfl, _, rfl, _, _, rfl, .inr (SqT.of ht), _, _, rfl, ⟨by rw [ll]; omega, by rw [ll]; omega, by rw [ll]; omega, by rw [ll]; omega⟩, ?_⟩
  refine for_range (lo := _) (n := _) (fun i σ H' => ∃ v, σ = [some (.ref d), some (.int (st : Int)), some (.int c), some (.ref t), some (.int (p : Int)), some (.int r), v] ∧ H' = H ∧ ∀ j, j < i → vl T0 p r (T0.length - p + j + st) = T0.getD (T0.length - p + j) 0 + c)
    ⟨none, rfl, rfl, fun j hj => absurd hj (Nat.not_lt_zero _)⟩ ?_ ?_
  · rintro i σ H' hi ⟨v, rfl, rfl, hj⟩
    have hi : i < p := by
      rw [ll] at hi
      omega
    have e1 : (((T0.map V.int).length : Nat) : Int) - (p : Int) + (i : Int) = ((T0.length - p + i : Nat) : Int) := by rw [ll]; omega
    have e2 : (((T0.map V.int).length : Nat) : Int) - (p : Int) + (i : Int) + (st : Int) = ((T0.length - p + i + st : Nat) : Int) := by rw [ll]; omega
    have z : ∀ B : Int → Prop, B ((T0.length - p + i : Nat) : Int) → B ((((T0.map V.int).length : Nat) : Int) - (p : Int) + (i : Int)) := fun B h => by rw [e1]; exact h
    refine z (fun y => gName 6 (.int y) _ _ _) ?_
    clear z
    refine ⟨_, rfl, _, rfl, _, rfl, _, _, rfl, rfl, d, T0, p, r, T0.length - p + i + st, rfl, R, o, b, _, rfl, _, rfl, _, _, _, _, rfl, rfl, SqT.of ht, atI_nat (get_int (by omega)), _, rfl, _, _, rfl, rfl, rfl, _, rfl, ?_⟩
    by_cases e : vl T0 p r (T0.length - p + i + st) = T0.getD (T0.length - p + i) 0 + c
    · refine iteNP (congrArg V.int e) ⟨_, rfl, rfl, fun j hj' => ?_⟩
      by_cases q : j = i
      · rw [q]
        exact e
      · exact hj j (by omega)
    · exact iteNN (fun q => e (V.int.inj q)) (k false ⟨fun q => (nomatch q), fun rep => absurd (rep (T0.length - p + i) (by omega) (by omega)) e⟩)
  · rintro σ H' ⟨v, rfl, rfl, hj⟩
    refine k true ⟨fun _ i h1 h2 => ?_, fun _ => rfl⟩
    have := hj (i - (T0.length - p)) (by rw [ll]; omega)
    rw [show T0.length - p + (i - (T0.length - p)) = i by omega] at this
    exact this
def LeastW (d t : Addr) (T0 : List Int) (p : Nat) (r : Int) (s : Nat) (c : Int) (v : Option V) (H0 : Hp) : Nat → List (Option V) → Hp → Prop := fun m σ H =>
  σ = [some (.ref d), some (.ref t), some (.int (p : Int)), some (.int r), some (.int (s : Int)), some (.int (m : Int)), v, some (.int c)] ∧ H = H0 ∧ m ≤ T0.length - p ∧ ∀ y, m ≤ y → vl T0 p r (y + s) = vl T0 p r y + c
abbrev s_l_least : Stmt := topS 22
abbrev N_l_least : List Str := ["_law_rule_here", "_law_table", "_law_period", "_law_rise", "_law_step", "_law_start", "_law_one_here", "_law_more"]
theorem sc_l_least : FnScope N_l_least ["_law_rule_here"] (defScope s_l_least) := ⟨rfl, rfl, rfl, by decide +kernel, rfl, by decide +kernel, by decide +kernel⟩
theorem ok_l_least (T : Txt mg) (D : Df K mg "_law_least" s_l_least ["_law_rule_here"]) (C_l_value : Cal P w K mg base "_law_value" ["_law_rule_here", "_law_x"] 1 (sp_l_value K)) (C_l_repeats : Cal P w K mg base "_law_repeats" ["_law_rule_here", "_law_step", "_law_more"] 2 (sp_l_repeats K)) : Cal P w K mg base "_law_least" ["_law_rule_here"] 3 (sp_l_least K) := by
  obtain ⟨f_l_value, fd_l_value, G_l_value, m_l_value, k_l_value, b_l_value⟩ := C_l_value
  obtain ⟨f_l_repeats, fd_l_repeats, G_l_repeats, m_l_repeats, k_l_repeats, b_l_repeats⟩ := C_l_repeats
  refine D.cal sc_l_least (fun vs H Q E h => ?_) (fun f cdv A outer s H vs Q E hr h => ?_)
  · obtain ⟨d, T0, p, r, rfl, _⟩ := h
    rfl
  obtain ⟨d, T0, p, r, rfl, R, o, b, k⟩ := h
  obtain ⟨t, hd, ht⟩ := id R
  have p0 := o.p0
  have p1 := o.p1
  have bl := b.len
  have r0 := o.r0
  have ll := len_int T0
  refine ⟨_, (pss_cons (ps_asg (pv 0) (pg_tup (by rfl) (pgs_cons (pg_name (i := 1) sc_l_least.nd rfl (Or.inl rfl)) (pgs_cons (pg_name (i := 2) sc_l_least.nd rfl (Or.inl rfl)) (pgs_cons (pg_name (i := 3) sc_l_least.nd rfl (Or.inl rfl)) pgs_nil)))))
    (pss_cons (ps_par (i := 4) (j := 5) (by rfl) sc_l_least.nd rfl rfl (by decide) rfl rfl (pa_cons (pv 2) (pa_cons (pe_op op_sub (pe_callB call_len_seq (by rfl) T.n_len (by decide +kernel) (pa_cons (pv 1) pa_nil)) (pv 2)) pa_nil)) (by rfl))
    (pss_cut (ps_for PassesOwn.never rfl (pi_range2 (by rfl) T.n_range (pa_cons pe_int (pa_cons (pv 2) pa_nil))) (pg_name (i := 6) sc_l_least.nd rfl (Or.inl rfl))
      (pss_one (ps_if (PW.pt (pw_and (pt_cmpR op_eq (pv 4) (pv 2) (nomark _)) (pw_and (pt_cmpR op_eq (pe_op op_modN (pe_callTy call_int1 (by rfl) T.n_int (by decide +kernel) (pa_cons (pv 2) pa_nil)) (pv 6)) pe_int (nomark _)) (pw_and1 (pt_cmpR op_eq (pe_op op_modN (pe_callTy call_int1 (by rfl) T.n_int (by decide +kernel) (pa_cons (pe_op op_mul (pv 3) (pv 6)) pa_nil)) (pv 2)) pe_int (nomark _)))))) (pss_one (ps_if (pt_val (pe_call G_l_repeats (hr.mono (by decide)) (by rfl) m_l_repeats k_l_repeats b_l_repeats .nil pass0 (pa_cons (pv 0) (pa_cons (pv 6) (pa_cons (pe_op op_fdivW (pe_op op_mul (pv 3) (pv 6)) (pv 2)) pa_nil))))) (pss_one (ps_set (i := 4) sc_l_least.nd rfl (Or.inl rfl) (pv 6))) pss_nil)) pss_nil)))
    (pss_cons (ps_set (i := 7) sc_l_least.nd rfl (Or.inl rfl) (pe_op op_fdivW (pe_op op_mul (pv 3) (pv 4)) (pv 2)))
    (pss_cons (ps_while PassesOwn.never (PW.pt (pw_and (pt_cmpR op_gt (pv 5) pe_int (nomark _)) (pw_and1 (pt_cmpR op_eq (pe_call G_l_value (hr.mono (by decide)) (by rfl) m_l_value k_l_value b_l_value .nil pass0 (pa_cons (pv 0) (pa_cons (pe_op op_add (pe_op op_sub (pv 5) pe_int) (pv 4)) pa_nil))) (pe_op op_add (pe_ix ix_tup (pv 1) (pe_op op_sub (pv 5) pe_int) (fun _ _ => rfl)) (pv 7)) (nomark _)))))
      (pss_one (ps_set (i := 5) sc_l_least.nd rfl (Or.inl rfl) (pe_op op_sub (pv 5) pe_int))))
    (pss_one (ps_ret (pe_tup (pa_cons (pe_callTy call_tupleT (by rfl) T.n_tuple (by decide +kernel) (pa_cons (pe_slice sl_tupA (pv 1) po_none (po_some (pe_op op_add (pv 5) (pv 4)))) pa_nil)) (pa_cons (pv 4) (pa_cons (pv 7) pa_nil))))))))))), ?_⟩
  refine ⟨_, rfl, _, _, rfl, SqT.of hd, rfl, _, _, rfl, _, _, rfl, _, _, rfl, rfl, ?_⟩
  have z : ∀ B : Int → Prop, B ((T0.length - p : Nat) : Int) → B ((((T0.map V.int).length : Nat) : Int) - (p : Int)) := fun B h => by
    rw [ll, ← Int.natCast_sub p1]
    exact h
  refine ⟨_, rfl, _, rfl, _, _, rfl, .inr (SqT.of ht), _, rfl, _, _, rfl, rfl, _, _, rfl, ?_⟩
  refine z (fun y => tCut _ _ _ (List.set (List.set _ 4 (some (.int (p : Int)))) 5 (some (.int y))) H) ?_
  clear z
  refine ⟨fun σ H' => H' = H ∧ ∃ (s : Nat) (v : Option V), σ = [some (.ref d), some (.ref t), some (.int (p : Int)), some (.int r), some (.int (s : Int)), some (.int ((T0.length - p : Nat) : Int)), v, none] ∧ 1 ≤ s ∧ s ≤ p ∧ Rep T0 p r s (r * (s : Int) / (p : Int)) ∧ s ∣ p ∧ ∀ s' c', 0 < s' → s' < s → s' ∣ p → ¬ Rep T0 p r s' c', ?_, ?_⟩
  · refine ⟨_, rfl, _, _, rfl, ⟨by omega, by omega, by omega, by omega⟩, for_range (lo := _) (n := _) (fun i σ H' => H' = H ∧ ∃ (s : Nat) (v : Option V), σ = [some (.ref d), some (.ref t), some (.int (p : Int)), some (.int r), some (.int (s : Int)), some (.int ((T0.length - p : Nat) : Int)), v, none] ∧ 1 ≤ s ∧ s ≤ p ∧ Rep T0 p r s (r * (s : Int) / (p : Int)) ∧ s ∣ p ∧ (s = p ∨ s ≤ i) ∧ ∀ s' c', 0 < s' → s' < s → s' ≤ i → s' ∣ p → ¬ Rep T0 p r s' c')
      ⟨rfl, p, none, rfl, p0, Nat.le_refl _, ?_, Nat.dvd_refl _, .inl rfl, fun s' c' h1 _ h3 => absurd h1 (by omega)⟩ ?_ ?_⟩
    · rw [Int.mul_ediv_cancel _ (by omega)]
      exact rep_self o
    · rintro i σ H' hi ⟨rfl, s, v, rfl, s0, s1, hs, sd, sl, hm⟩
      have hi : i < p - 1 := by omega
      have one : (1 : Int) + (i : Int) = ((1 + i : Nat) : Int) := rfl
      have more : (∀ c', 1 + i ∣ p → ¬ Rep T0 p r (1 + i) c') → ∀ s' c', 0 < s' → s' < s → s' ≤ i + 1 → s' ∣ p → ¬ Rep T0 p r s' c' := by
        intro h s' c' h1 h2 h3 h4
        by_cases q : s' = 1 + i
        · subst q
          exact h c' h4
        · exact hm s' c' h1 h2 (by omega) h4
      have stay : s = p ∨ s ≤ i + 1 := sl.elim .inl fun h => .inr (by omega)
      refine ⟨_, rfl, _, rfl, rfl, _, rfl, ite3 (fun e => ?_) (fun e => ?_)⟩
      · have e : s = p := Int.ofNat.inj (V.int.inj e)
        refine ⟨_, rfl, .inl ⟨_, rfl, _, rfl, _, _, rfl, rfl, (by omega), rfl, _, rfl, ite3 (fun e2 => ?_) (fun e2 => ?_)⟩⟩
        · have dv : 1 + i ∣ p := dvd_of (V.int.inj e2)
          refine ⟨_, rfl, _, rfl, _, _, rfl, rfl, b.mulR' o, .inl ⟨_, rfl, _, rfl, _, _, rfl, rfl, (by omega), rfl, _, rfl, ite3 (fun e3 => ?_) (fun e3 => ?_)⟩⟩
          · refine ⟨_, rfl, _, rfl, _, rfl, _, rfl, _, _, rfl, rfl, b.mulR' o, _, rfl, _, _, rfl, rfl, b.div o, d, T0, p, r, 1 + i, _, rfl, R, o, b, fun bb hb => ⟨_, rfl, ?_⟩⟩
            cases bb with
            | true => exact iteT ⟨_, rfl, rfl, 1 + i, _, rfl, by omega, by omega, hb.mp rfl, dv, .inr (by omega), fun s' c' h1 h2 h3 h4 => hm s' c' h1 (by omega) (by omega) h4⟩
            | false => exact iteF ⟨rfl, s, _, rfl, s0, s1, hs, sd, stay, more fun c' d' rep => by
                have q := (rep_quot o d' rep).1
                have h := hb.mpr (by rw [← q] at rep; exact rep)
                cases h⟩
          · exact ⟨rfl, s, _, rfl, s0, s1, hs, sd, stay, more fun c' d' rep => e3 (congrArg V.int ((Int.fmod_eq_emod_of_nonneg _ (by omega)).trans (rep_quot o d' rep).2))⟩
        · exact iteF ⟨rfl, s, _, rfl, s0, s1, hs, sd, stay, more fun c' d' rep => e2 (congrArg V.int (of_dvd d'))⟩
      · refine iteF ⟨rfl, s, _, rfl, s0, s1, hs, sd, stay, fun s' c' h1 h2 h3 h4 => ?_⟩
        have ne : s ≠ p := fun q => e (by rw [q])
        exact hm s' c' h1 h2 (by omega) h4
    · rintro σ H' ⟨rfl, s, v, rfl, s0, s1, hs, sd, sl, hm⟩
      exact ⟨rfl, s, v, rfl, s0, s1, hs, sd, fun s' c' h1 h2 h4 => hm s' c' h1 h2 (by omega) h4⟩
  · rintro σ H' ⟨rfl, s, v, rfl, s0, s1, hs, sd, hm⟩
    have c0 : 0 ≤ r * (s : Int) / (p : Int) := Int.ediv_nonneg (Int.mul_nonneg r0 (by omega)) (by omega)
    have c1 : r * (s : Int) / (p : Int) ≤ r := by
      have h1 : r * (s : Int) ≤ r * (p : Int) := Int.mul_le_mul_of_nonneg_left (by omega) r0
      have h2 := Int.ediv_le_ediv (show (0 : Int) < (p : Int) by omega) h1
      rw [Int.mul_ediv_cancel _ (by omega)] at h2
      exact h2
    refine ⟨_, rfl, _, rfl, _, _, rfl, rfl, b.mulR' o, _, rfl, _, _, rfl, rfl, b.div o, ?_⟩
    have all := rep_all o hs
    obtain ⟨c, ec⟩ : ∃ c, c = r * (s : Int) / (p : Int) := ⟨_, rfl⟩
    rw [← ec] at c0 c1 all
    refine ⟨LeastW d t T0 p r s c v H', ⟨T0.length - p, by rw [ec]; rfl, rfl, Nat.le_refl _, all⟩, ?_⟩
    rintro m σ H'' ⟨rfl, rfl, al, ha⟩
    -- the end, from any start
    have fin : (m = 0 ∨ vl T0 p r (m - 1 + s) ≠ T0.getD (m - 1) 0 + c) → ∀ (H2 : Hp) (t' : Addr), Same H'' H2 → H2 t' = some (.tup ((T0.take (m + s)).map V.int)) → ∀ q, H2 q = none → Q (.ref q) (upd H2 q (.tup [.ref t', .int (s : Int), .int c])) := by
      intro st H2 t' sm h2 q nq
      have sq := same_upd (o := .tup [.ref t', .int (s : Int), .int c]) nq
      refine k _ q (T0.take (m + s)) s c (sm.trans sq) ⟨t', upd_same, sq _ _ h2⟩ ⟨?_, s1, c1, fun i hi => ?_⟩ (cut_short o s0 sd al c0 ha hm st) (cut_vl s0 (by omega) ha)
      · rw [List.length_take]
        omega
      · rw [List.length_take] at hi
        exact getD_take (by omega)
    refine ⟨_, rfl, _, _, rfl, rfl, _, rfl, ?_⟩
    by_cases e : (0 : Int) < (m : Int)
    · have e1 : (m : Int) - 1 = ((m - 1 : Nat) : Int) := by omega
      have e2 : (m : Int) - 1 + (s : Int) = ((m - 1 + s : Nat) : Int) := by omega
      refine iteP e ⟨_, rfl, _, rfl, _, _, rfl, rfl, _, rfl, _, _, rfl, rfl, d, T0, p, r, m - 1 + s, congrArg (fun z => [V.ref d, V.int z]) e2, R, o, b, _, rfl, _, rfl, _, _, rfl, rfl, _, _, _, _, rfl, rfl, SqT.of ht, at_of e1 (get_int (by omega)), _, rfl, _, _, rfl, rfl, rfl, _, rfl, ?_⟩
      by_cases e3 : vl T0 p r (m - 1 + s) = T0.getD (m - 1) 0 + c
      · refine iteP (congrArg V.int e3) ⟨LeastW d t T0 p r s c v H'' (m - 1), fun σ' H3 hw => ⟨m - 1, by omega, hw⟩, _, rfl, _, _, rfl, rfl, ?_⟩
        refine ⟨by rw [← e1]; rfl, rfl, by omega, fun y hy => ?_⟩
        by_cases q : y = m - 1
        · rw [q, e3, vl_lt (by omega)]
        · exact ha y (by omega)
      · refine iteN (fun q => e3 (V.int.inj q)) ?_
        refine ⟨_, rfl, _, rfl, _, rfl, _, _, rfl, rfl, _, rfl, _, _, rfl, SqT.of ht, fun wh => ?_, fun _ p' np' => ?_⟩
        · have w2 : min (m + s) (T0.map V.int).length = (T0.map V.int).length := (HT.sIx_nat _ _ (m + s)).symm.trans wh.2
          rw [List.length_map] at w2
          exact ⟨_, _, rfl, SqT.of ht, _, rfl, _, rfl, (by show 3 ≤ sizeLine; decide), fun q nq => fin (.inr e3) _ t (Same.refl _) (by rw [List.take_of_length_le (by omega)]; exact ht) q nq⟩
        · exact ⟨_, _, rfl, SqT.of upd_same, _, rfl, _, rfl, (by show 3 ≤ sizeLine; decide), fun q nq => fin (.inr e3) _ p' (same_upd np') (by rw [upd_same, show cutV (T0.map V.int) none (some ((m : Int) + (s : Int))) = cutV (T0.map V.int) none (some ((m + s : Nat) : Int)) from rfl, cut_all, List.map_take]) q nq⟩
    · refine iteN e (iteF ?_)
      refine ⟨_, rfl, _, rfl, _, rfl, _, _, rfl, rfl, _, rfl, _, _, rfl, SqT.of ht, fun wh => ?_, fun _ p' np' => ?_⟩
      · have w2 : min (m + s) (T0.map V.int).length = (T0.map V.int).length := (HT.sIx_nat _ _ (m + s)).symm.trans wh.2
        rw [List.length_map] at w2
        exact ⟨_, _, rfl, SqT.of ht, _, rfl, _, rfl, (by show 3 ≤ sizeLine; decide), fun q nq => fin (.inl (by omega)) _ t (Same.refl _) (by rw [List.take_of_length_le (by omega)]; exact ht) q nq⟩
      · exact ⟨_, _, rfl, SqT.of upd_same, _, rfl, _, rfl, (by show 3 ≤ sizeLine; decide), fun q nq => fin (.inl (by omega)) _ p' (same_upd np') (by rw [upd_same, show cutV (T0.map V.int) none (some ((m : Int) + (s : Int))) = cutV (T0.map V.int) none (some ((m + s : Nat) : Int)) from rfl, cut_all, List.map_take]) q nq⟩
end
end Sm

set_option Elab.async false
set_option linter.all false
set_option maxRecDepth 100000
set_option maxHeartbeats 16000000
namespace Sm
open PySem PySem.Spec PyProof.Rows L2
section
variable {P : Program} {w : World} {K : PySem.W.Frag} {mg : Str → Option Value} {base : Heap}
abbrev s_l_rule : Stmt := topS 23
abbrev N_l_rule : List Str := ["_law_deck_here", "_law_long", "_law_wide", "_law_tall", "_law_start", "_law_period", "_law_table", "_law_k", "_law_rise"]
theorem sc_l_rule : FnScope N_l_rule ["_law_deck_here", "_law_long", "_law_wide", "_law_tall"] (defScope s_l_rule) := ⟨rfl, rfl, rfl, by decide +kernel, rfl, by decide +kernel, by decide +kernel⟩
/-- what a draw needs of the deck, and an item of a list of four -/
theorem list_ne {H : Hp} {p l b : Addr} {n : Int} {xs : List V} (D : Deck H p l n) (h : H b = none) : b ≠ p ∧ b ≠ l := D.lne h
theorem ok_l_rule (T : Txt mg) (D : Df K mg "_law_rule" s_l_rule ["_law_deck_here", "_law_long", "_law_wide", "_law_tall"]) (C_l_least : Cal P w K mg base "_law_least" ["_law_rule_here"] 3 (sp_l_least K)) (C_l_draw : Cal P w K mg base "_law_draw" ["_law_deck_here", "_law_many"] 1 (sp_l_draw K)) : Cal P w K mg base "_law_rule" ["_law_deck_here", "_law_long", "_law_wide", "_law_tall"] 4 (sp_l_rule K) := by
  obtain ⟨f_l_least, fd_l_least, G_l_least, m_l_least, k_l_least, b_l_least⟩ := C_l_least
  obtain ⟨f_l_draw, fd_l_draw, G_l_draw, m_l_draw, k_l_draw, b_l_draw⟩ := C_l_draw
  refine D.cal sc_l_rule (fun vs H Q E h => ?_) (fun f cdv A outer s H vs Q E hr h => ?_)
  · obtain ⟨p, l, n, long, wide, tall, rfl, _⟩ := h
    rfl
  obtain ⟨p, l, n, long, wide, tall, rfl, D0, n0, n1, lo0, lo1, wi0, wi1, ta0, ta1, k⟩ := h
  refine ⟨_, (pss_cons (ps_par (i := 4) (j := 5) (by rfl) sc_l_rule.nd rfl rfl (by decide) rfl rfl (pa_cons (pe_call G_l_draw (hr.mono (by decide)) (by rfl) m_l_draw k_l_draw b_l_draw .nil pass0 (pa_cons (pv 0) (pa_cons (pe_op op_add (pv 1) pe_int) pa_nil))) (pa_cons (pe_op op_add pe_int (pe_call G_l_draw (hr.mono (by decide)) (by rfl) m_l_draw k_l_draw b_l_draw .nil pass0 (pa_cons (pv 0) (pa_cons (pv 2) pa_nil)))) pa_nil)) (by rfl))
    (pss_cons (ps_set (i := 6) sc_l_rule.nd rfl (Or.inl rfl) (pe_lst (pa_cons (pe_ix ix_list (pe_lst (pa_cons pe_int (pa_cons pe_int (pa_cons pe_int (pa_cons (pe_call G_l_draw (hr.mono (by decide)) (by rfl) m_l_draw k_l_draw b_l_draw .nil pass0 (pa_cons (pv 0) (pa_cons (pe_op op_add (pv 3) pe_int) pa_nil))) pa_nil))))) (pe_call G_l_draw (hr.mono (by decide)) (by rfl) m_l_draw k_l_draw b_l_draw .nil pass0 (pa_cons (pv 0) (pa_cons pe_int pa_nil))) (fun _ _ => rfl)) pa_nil)))
    (pss_cons (ps_for PassesOwn.never rfl (pi_range1 (by rfl) T.n_range (pa_cons (pe_op op_sub (pe_op op_add (pv 4) (pv 5)) pe_int) pa_nil)) (pg_name (i := 7) sc_l_rule.nd rfl (Or.inl rfl))
      (pss_one (ps_expr (pe_bm PySem.F.plainAttrs_list PySem.F.slot_list_append PySem.F.type_list_append mt_append (pv 6) (pa_cons (pe_op op_add (pe_ix ix_list (pv 6) (pe_un un_neg pe_int) (fun _ _ => rfl)) (pe_ix ix_list (pe_lst (pa_cons pe_int (pa_cons pe_int (pa_cons pe_int (pa_cons (pe_call G_l_draw (hr.mono (by decide)) (by rfl) m_l_draw k_l_draw b_l_draw .nil pass0 (pa_cons (pv 0) (pa_cons (pe_op op_add (pv 3) pe_int) pa_nil))) pa_nil))))) (pe_call G_l_draw (hr.mono (by decide)) (by rfl) m_l_draw k_l_draw b_l_draw .nil pass0 (pa_cons (pv 0) (pa_cons pe_int pa_nil))) (fun _ _ => rfl))) pa_nil)))))
    (pss_cons (ps_if (pt_cmpR op_eq (pe_call G_l_draw (hr.mono (by decide)) (by rfl) m_l_draw k_l_draw b_l_draw .nil pass0 (pa_cons (pv 0) (pa_cons pe_int pa_nil))) pe_int (nomark _)) (pss_one (ps_ret (pe_call G_l_least (hr.mono (by decide)) (by rfl) m_l_least k_l_least b_l_least .nil pass0 (pa_cons (pe_tup (pa_cons (pe_callTy call_tuple_of (by rfl) T.n_tuple (by decide +kernel) (pa_cons (pv 6) pa_nil)) (pa_cons pe_int (pa_cons pe_int pa_nil)))) pa_nil)))) pss_nil)
    (pss_cons (ps_set (i := 8) sc_l_rule.nd rfl (Or.inl rfl) (pe_op op_add (pe_op op_sub (pe_ix ix_list (pv 6) (pe_un un_neg pe_int) (fun _ _ => rfl)) (pe_ix ix_list (pv 6) (pv 4) (fun _ _ => rfl))) (pe_ix ix_list (pe_lst (pa_cons pe_int (pa_cons pe_int (pa_cons pe_int (pa_cons (pe_call G_l_draw (hr.mono (by decide)) (by rfl) m_l_draw k_l_draw b_l_draw .nil pass0 (pa_cons (pv 0) (pa_cons (pe_op op_add (pv 3) pe_int) pa_nil))) pa_nil))))) (pe_call G_l_draw (hr.mono (by decide)) (by rfl) m_l_draw k_l_draw b_l_draw .nil pass0 (pa_cons (pv 0) (pa_cons pe_int pa_nil))) (fun _ _ => rfl))))
    (pss_one (ps_ret (pe_call G_l_least (hr.mono (by decide)) (by rfl) m_l_least k_l_least b_l_least .nil pass0 (pa_cons (pe_tup (pa_cons (pe_callTy call_tuple_of (by rfl) T.n_tuple (by decide +kernel) (pa_cons (pv 6) pa_nil)) (pa_cons (pv 5) (pa_cons (pv 8) pa_nil)))) pa_nil))))))))), ?_⟩
  -- start, period
  refine ⟨_, rfl, _, rfl, _, _, rfl, rfl, p, l, n, _, rfl, D0, n0, by omega, by omega, by omega, fun rs H1 rs0 rs1 f1 D1 => ?_⟩
  refine ⟨_, rfl, _, rfl, p, l, n + 1, _, rfl, D1, by omega, by omega, by omega, by omega, fun rp H2 rp0 rp1 f2 D2 => ?_⟩
  refine ⟨_, _, rfl, rfl, _, _, rfl, ?_⟩
  -- the table's first item
  refine ⟨_, rfl, _, rfl, _, _, rfl, rfl, p, l, n + 1 + 1, _, rfl, D2, by omega, by omega, by omega, by omega, fun a H3 a0 a1 f3 D3 => ?_⟩
  refine ⟨(by show 4 ≤ sizeLine; decide), fun b nb => ?_⟩
  have sb := same_upd (o := .lst [.int 0, .int 0, .int 0, .int a]) nb
  obtain ⟨bp, bl⟩ := D3.lne nb
  refine ⟨_, rfl, p, l, n + 1 + 1 + 1, 4, rfl, D3.same sb, by omega, by omega, by omega, by omega, fun i4 H4 i40 i41 f4 D4 => ?_⟩
  obtain ⟨z, hz, zz⟩ := pick4 (a := 0) (b := 0) (c := 0) (d := a) i40 i41
  have z0 : 0 ≤ z := by omega
  have z1 : z ≤ 1000000000 := by omega
  refine ⟨_, _, _, _, rfl, rfl, SqL.of (f4 b _ bp bl upd_same), at_of (j := i4.toNat) (by omega) hz, ?_⟩
  refine ⟨(by show 1 ≤ sizeLine; decide), fun L nL => ?_⟩
  obtain ⟨Lp, Ll⟩ := D4.lne nL
  have sL := same_upd (o := .lst [.int z]) nL
  have fr : Fr p l H (upd H4 L (.lst [.int z])) := (f1.trans (f2.trans (f3.trans ((Same.fr sb).trans f4)))).trans (Same.fr sL)
  have D5 := D4.same sL
  have hn : ∀ b o, H b = some o → b ≠ L := by
    intro b o hb e
    subst e
    by_cases q1 : b = p
    · exact Lp q1
    · by_cases q2 : b = l
      · exact Ll q2
      · have := (f1.trans (f2.trans (f3.trans ((Same.fr sb).trans f4)))) b o q1 q2 hb
        rw [nL] at this
        cases this
  -- the loop
  refine ⟨_, rfl, _, rfl, _, _, rfl, rfl, _, _, rfl, rfl, _, rfl, (by omega), (by omega), ?_⟩
  refine for_range (lo := 0) (n := _) (fun i σ H' => ∃ (n' : Int) (T0 : List Int) (v : Option V), σ = [some (.ref p), some (.int long), some (.int wide), some (.int tall), some (.int rs), some (.int (1 + rp)), some (.ref L), v, none] ∧
      Deck H' p l n' ∧ n ≤ n' ∧ n' ≤ n + 4 + 2 * (i : Int) ∧ Fr p l H H' ∧ H' L = some (.lst (T0.map V.int)) ∧ T0.length = i + 1 ∧ Tb T0)
    ⟨_, [z], none, rfl, D5, by omega, by omega, fr, upd_same, rfl, ⟨by show 0 < 1; decide, fun i hi => ?_, fun i hi => ?_, fun i hi => ?_⟩⟩ ?_ ?_
  · have hi : i < 1 := hi
    rw [show i = 0 by omega]
    exact z0
  · have hi : i + 1 < 1 := hi
    omega
  · have hi : i < 1 := hi
    rw [show i = 0 by omega]
    show z ≤ 10000000000 * (((0 : Nat) : Int) + 1)
    omega
  · rintro i σ H' hi ⟨n', T0, v, rfl, D', m0, m1, f', hL, hT, tb⟩
    have hi : i < (rs + (1 + rp) - 1).toNat := hi
    refine ⟨_, rfl, .inl ⟨rfl, _, SqL.of hL⟩, ?_⟩
    refine ⟨_, rfl, _, rfl, _, _, _, _, rfl, rfl, SqL.of hL, last_int tb.ne, ?_⟩
    refine ⟨_, rfl, _, rfl, _, _, rfl, rfl, p, l, n', _, rfl, D', by omega, by omega, by omega, by omega, fun a' H6 a0' a1' f6 D6 => ?_⟩
    refine ⟨(by show 4 ≤ sizeLine; decide), fun b' nb' => ?_⟩
    have sb' := same_upd (o := .lst [.int 0, .int 0, .int 1, .int a']) nb'
    obtain ⟨bp', bl'⟩ := D6.lne nb'
    refine ⟨_, rfl, p, l, n' + 1, 4, rfl, D6.same sb', by omega, by omega, by omega, by omega, fun i5 H7 i50 i51 f7 D7 => ?_⟩
    obtain ⟨c, hc, cc⟩ := pick4 (a := 0) (b := 0) (c := 1) (d := a') i50 i51
    have c0 : 0 ≤ c := by omega
    have c1 : c ≤ 1000000000 := by omega
    have hL7 : H7 L = some (.lst (T0.map V.int)) := f7 L _ Lp Ll (sb' _ _ (f6 L _ Lp Ll hL))
    refine ⟨_, _, _, _, rfl, rfl, SqL.of (f7 b' _ bp' bl' upd_same), at_of (j := i5.toNat) (by omega) hc, _, _, rfl, rfl, L, _, _, rfl, rfl, hL7, ?_, ?_⟩
    · rw [List.length_map, hT]
      exact small1000 (by omega)
    · have fL : Fr p l H (upd H7 L (.lst ((T0 ++ [T0.getD (T0.length - 1) 0 + c]).map V.int))) := by
        intro b o h1 h2 hb
        rw [upd_ne (hn b o hb)]
        exact (f'.trans (f6.trans ((Same.fr sb').trans f7))) b o h1 h2 hb
      refine ⟨n' + 1 + 1, T0 ++ [T0.getD (T0.length - 1) 0 + c], _, rfl, ⟨by rw [upd_ne Lp.symm]; exact D7.hp, ?_⟩, by omega, by omega, ?_, ?_, ?_, tb.more c0 c1⟩
      · obtain ⟨cells, q1, q2⟩ := D7.hl
        exact ⟨cells, by rw [upd_ne Ll.symm]; exact q1, q2⟩
      · rw [List.map_append] at fL
        exact fL
      · rw [upd_same, List.map_append]
        rfl
      · rw [List.length_append, List.length_singleton, hT]
  · rintro σ H' ⟨n', T0, v, rfl, D', m0, m1, f', hL, hT, tb⟩
    have hlen : (T0.length : Int) = rs + (1 + rp) := by omega
    have small : T0.length ≤ 300 := by omega
    have line : T0.length ≤ sizeLine := Nat.le_trans small (by decide)
    have topI := tb.top
    refine ⟨_, rfl, p, l, n', 5, rfl, D', by omega, by omega, by omega, by omega, fun r5 H6 r50 r51 f6 D6 => ?_⟩
    have hL6 := f6 L _ Lp Ll hL
    refine ⟨rfl, _, rfl, ite3 (fun e => ?_) (fun e => ?_)⟩
    · -- a level rule
      refine ⟨_, rfl, L, _, rfl, .inl ⟨SqL.of hL6, fun t nt => ?_⟩⟩
      have st := same_upd (o := .tup (T0.map V.int)) nt
      refine ⟨(by show 3 ≤ sizeLine; decide), fun d nd => ?_⟩
      have sd := same_upd (o := .tup [.ref t, .int 1, .int 0]) nd
      refine ⟨d, T0, 1, 0, rfl, ⟨t, upd_same, sd _ _ upd_same⟩, tb.level, (tb.rs small (by omega) (by decide)).rb (by decide), fun H9 d' T' p' r' s9 hr' hc hsh hv => ?_⟩
      have s := st.trans (sd.trans s9)
      exact k H9 d' T' p' r' (n' + 1) (f'.trans (f6.trans (Same.fr s))) (D6.same s) (by omega) (by omega) hr' (hc.rs (tb.rs small (by omega) (by decide))) hsh
    · -- a rising rule
      have gs : (T0.map V.int)[rs.toNat]? = some (.int (T0.getD rs.toNat 0)) := get_int (by omega)
      refine ⟨_, rfl, _, rfl, _, _, _, _, rfl, rfl, SqL.of hL6, last_int tb.ne, _, rfl, _, rfl, _, _, _, _, rfl, rfl, SqL.of hL6, at_of (j := rs.toNat) (by omega) gs, _, _, rfl, rfl, ?_⟩
      refine ⟨_, rfl, _, rfl, _, _, rfl, rfl, p, l, n' + 1, _, rfl, D6, by omega, by omega, by omega, by omega, fun a' H7 a0' a1' f7 D7 => ?_⟩
      refine ⟨(by show 4 ≤ sizeLine; decide), fun b' nb' => ?_⟩
      have sb' := same_upd (o := .lst [.int 0, .int 0, .int 1, .int a']) nb'
      obtain ⟨bp', bl'⟩ := D7.lne nb'
      refine ⟨_, rfl, p, l, n' + 1 + 1, 4, rfl, D7.same sb', by omega, by omega, by omega, by omega, fun i5 H8 i50 i51 f8 D8 => ?_⟩
      obtain ⟨c, hc, cc⟩ := pick4 (a := 0) (b := 0) (c := 1) (d := a') i50 i51
      have c0 : 0 ≤ c := by omega
      have c1 : c ≤ 1000000000 := by omega
      have hL8 : H8 L = some (.lst (T0.map V.int)) := f8 L _ Lp Ll (sb' _ _ (f7 L _ Lp Ll hL6))
      refine ⟨_, _, _, _, rfl, rfl, SqL.of (f8 b' _ bp' bl' upd_same), at_of (j := i5.toNat) (by omega) hc, _, _, rfl, rfl, ?_⟩
      refine ⟨_, rfl, L, _, rfl, .inl ⟨SqL.of hL8, fun t nt => ?_⟩⟩
      have st := same_upd (o := .tup (T0.map V.int)) nt
      refine ⟨_, rfl, _, rfl, (by show 3 ≤ sizeLine; decide), fun d nd => ?_⟩
      have ep : (1 : Int) + rp = (((1 + rp).toNat : Nat) : Int) := by omega
      have er : T0.length - (1 + rp).toNat = rs.toNat := by omega
      have ok := tb.rising (p := (1 + rp).toNat) (c := c) (by omega) (by omega) c0
      rw [er] at ok
      have t1 := tb.top (T0.length - 1) (by omega)
      have t2 := tb.nn rs.toNat (by omega)
      have sd := same_upd (o := .tup [.ref t, .int (1 + rp), .int (T0.getD (T0.length - 1) 0 - T0.getD rs.toNat 0 + c)]) nd
      refine ⟨d, T0, (1 + rp).toNat, T0.getD (T0.length - 1) 0 - T0.getD rs.toNat 0 + c, rfl, ⟨t, by rw [← ep]; exact upd_same, sd _ _ upd_same⟩, ok, (tb.rs small (by omega) (by omega)).rb (by decide), fun H9 d' T' p' r' s9 hr' hc hsh hv => ?_⟩
      have s := st.trans (sd.trans s9)
      exact k H9 d' T' p' r' (n' + 1 + 1 + 1) (f'.trans (f6.trans (f7.trans ((Same.fr sb').trans (f8.trans (Same.fr s)))))) (D8.same s) (by omega) (by omega) hr' (hc.rs (tb.rs small (by omega) (by omega))) hsh
end
end Sm

set_option Elab.async false
set_option linter.all false
set_option maxRecDepth 100000
set_option maxHeartbeats 16000000
namespace Sm
open PySem PySem.Spec PyProof.Rows L2
open C8 (pss_cut tCut)
theorem RS.vl {M : Int} {T : List Int} {p : Nat} {r : Int} (o : RuleOk T p r) (b : RS M T p r) (hM : 0 ≤ M) : ∀ x : Nat, vl T p r x ≤ M * ((x : Int) + 1) := by
  intro x
  induction x using Nat.strongRecOn with
  | _ x ih =>
    have p0 := o.p0
    have p1 := o.p1
    have r1 := b.r1
    by_cases q : x < T.length
    · rw [vl_lt q]
      have h1 := b.top x q
      have h2 : M * 1 ≤ M * ((x : Int) + 1) := Int.mul_le_mul_of_nonneg_left (by omega) hM
      omega
    · rw [vl_step p0 o.p1 (by omega)]
      have h1 := ih (x - p) (by omega)
      have h2 : M * (((x - p : Nat) : Int) + 1 + 1) ≤ M * ((x : Int) + 1) := Int.mul_le_mul_of_nonneg_left (by omega) hM
      rw [Int.mul_add M (((x - p : Nat) : Int) + 1) 1] at h2
      omega
def vals (T : List Int) (p : Nat) (r : Int) (n : Nat) : List Int := (List.range n).map (vl T p r)
def sp_begin_of (_ : PySem.W.Frag) : Sp := fun vs H Q _ => ∃ (d : Addr) (T : List Int) (p : Nat) (r : Int), vs = [.ref d] ∧ RuleAt H d T p r ∧ p ≤ T.length ∧ Q (.int ((T.length - p : Nat) : Int)) H
def sp_rise_in (_ : PySem.W.Frag) : Sp := fun vs H Q _ => ∃ (d : Addr) (T : List Int) (p : Nat) (r : Int) (t : Nat), vs = [.ref d, .int (t : Int)] ∧ RuleAt H d T p r ∧ RuleOk T p r ∧ RB T p r ∧ Q (.int (r * ((t / p : Nat) : Int))) H
def sp_common_turn (_ : PySem.W.Frag) : Sp := fun vs H Q _ => ∃ (d1 d2 : Addr) (T1 T2 : List Int) (p1 p2 : Nat) (r1 r2 : Int), vs = [.ref d1, .ref d2] ∧ RuleAt H d1 T1 p1 r1 ∧ RuleAt H d2 T2 p2 r2 ∧ p1 ≤ T1.length ∧ p2 ≤ T2.length ∧ p1 ≤ 40 ∧ p2 ≤ 40 ∧
  ∀ H' q, Same H H' → H' q = some (.tup [.int ((max (T1.length - p1) (T2.length - p2) : Nat) : Int), .int ((Nat.lcm p1 p2 : Nat) : Int)]) → Q (.ref q) H'
def sp_values_to (_ : PySem.W.Frag) : Sp := fun vs H Q _ => ∃ (d : Addr) (T : List Int) (p : Nat) (r : Int) (n : Nat), vs = [.ref d, .int (n : Int)] ∧ RuleAt H d T p r ∧ RuleOk T p r ∧ RB T p r ∧ n ≤ 5000 ∧
  ∀ H' q, Same H H' → (∀ b o, H b = some o → b ≠ q) → H' q = some (.lst ((vals T p r n).map V.int)) → Q (.ref q) H'
def sp_check_told (_ : PySem.W.Frag) : Sp := fun vs H Q _ => ∃ n : Int, vs = [.int n] ∧ n ≤ 5000 ∧ Q .non H
theorem ps_no {X : Cx} {st : Stmt} : PS X st (fun _ _ _ => False) := by
  constructor
  intros
  contradiction
section
variable {X : Cx}
theorem cr_lcm : CallR X (.builtin "math.lcm") (fun vs H Q => ∃ a b : Nat, vs = [.int (a : Int), .int (b : Int)] ∧ a < 1000000 ∧ b < 1000000 ∧ Q (.int ((Nat.lcm a b : Nat) : Int)) H) := by
  intro pins s σ H vs us Q I r h
  obtain ⟨a, b, rfl, ha, hb, q⟩ := h
  obtain ⟨t, u, rfl⟩ := Vals.int2 r
  refine PySem.W.mc_lcm (by omega) (by omega) fun _ => ?_
  rw [Int.natAbs_natCast, Int.natAbs_natCast]
  exact ⟨.int _, H, I.tok _, ⟨_, rfl⟩, q⟩
end
theorem vals_len (T : List Int) (p : Nat) (r : Int) (n : Nat) : (vals T p r n).length = n := by unfold vals; rw [List.length_map, List.length_range]
theorem vals_get {T : List Int} {p : Nat} {r : Int} {n i : Nat} (h : i < n) : ((vals T p r n).map V.int)[i]? = some (.int (vl T p r i)) := by
  unfold vals
  rw [List.getElem?_map, List.getElem?_map, List.getElem?_range h]
  rfl
theorem vals_take {T : List Int} {p : Nat} {r : Int} {n : Nat} (h : n ≤ T.length) : T.take n = vals T p r n := by
  refine List.ext_getElem? fun i => ?_
  unfold vals
  by_cases q : i < n
  · rw [List.getElem?_take_of_lt q, List.getElem?_map, List.getElem?_range q, List.getElem?_eq_getElem (by omega)]
    show some _ = some (vl T p r i)
    rw [vl_lt (by omega), List.getD_eq_getElem?_getD, List.getElem?_eq_getElem (by omega)]
    rfl
  · rw [List.getElem?_eq_none (by rw [List.length_take]; omega), List.getElem?_eq_none (by rw [List.length_map, List.length_range]; omega)]
theorem vals_succ {T : List Int} {p : Nat} {r : Int} {n : Nat} : vals T p r (n + 1) = vals T p r n ++ [vl T p r n] := by
  unfold vals
  rw [List.range_succ, List.map_append]
  rfl
section
variable {P : Program} {w : World} {K : PySem.W.Frag} {mg : Str → Option Value} {base : Heap}
abbrev s_begin_of : Stmt := topS 11
abbrev N_begin_of : List Str := ["rule"]
theorem sc_begin_of : FnScope N_begin_of ["rule"] (defScope s_begin_of) := ⟨rfl, rfl, rfl, by decide +kernel, rfl, by decide +kernel, by decide +kernel⟩
theorem ok_begin_of (T : Txt mg) (D : Df K mg "begin_of" s_begin_of ["rule"]) : Cal P w K mg base "begin_of" ["rule"] 1 (sp_begin_of K) := by
  refine D.cal sc_begin_of (fun vs H Q E h => ?_) (fun f cdv A outer s H vs Q E hr h => ?_)
  · obtain ⟨d, T0, p, r, rfl, _⟩ := h
    rfl
  obtain ⟨d, T0, p, r, rfl, ⟨t, hd, ht⟩, p1, k⟩ := h
  refine ⟨_, (pss_one (ps_ret (pe_op op_sub (pe_callB call_len_seq (by rfl) T.n_len (by decide +kernel) (pa_cons (pe_ix ix_tup (pv 0) pe_int (fun _ _ => rfl)) pa_nil)) (pe_ix ix_tup (pv 0) pe_int (fun _ _ => rfl))))), ?_⟩
  refine ⟨_, rfl, _, _, _, _, rfl, rfl, SqT.of hd, atI_nat (j := 0) rfl, _, _, rfl, .inr (SqT.of ht), _, rfl, _, _, _, _, rfl, rfl, SqT.of hd, atI_nat (j := 1) rfl, _, _, rfl, rfl, ?_⟩
  have e : (((T0.map V.int).length : Nat) : Int) - (p : Int) = ((T0.length - p : Nat) : Int) := by rw [len_int]; omega
  have k := k
  rw [← e] at k
  exact k
abbrev s_rise_in : Stmt := topS 12
abbrev N_rise_in : List Str := ["rule", "turn"]
theorem sc_rise_in : FnScope N_rise_in ["rule", "turn"] (defScope s_rise_in) := ⟨rfl, rfl, rfl, by decide +kernel, rfl, by decide +kernel, by decide +kernel⟩
theorem ok_rise_in (T : Txt mg) (D : Df K mg "rise_in" s_rise_in ["rule", "turn"]) : Cal P w K mg base "rise_in" ["rule", "turn"] 1 (sp_rise_in K) := by
  refine D.cal sc_rise_in (fun vs H Q E h => ?_) (fun f cdv A outer s H vs Q E hr h => ?_)
  · obtain ⟨d, T0, p, r, t, rfl, _⟩ := h
    rfl
  obtain ⟨d, T0, p, r, n, rfl, ⟨t, hd, ht⟩, o, b, k⟩ := h
  refine ⟨_, (pss_one (ps_ret (pe_op op_mul (pe_ix ix_tup (pv 0) pe_int (fun _ _ => rfl)) (pe_op op_fdivW (pv 1) (pe_ix ix_tup (pv 0) pe_int (fun _ _ => rfl)))))), ?_⟩
  exact ⟨_, rfl, _, _, _, _, rfl, rfl, SqT.of hd, atI_nat (j := 2) rfl, _, rfl, _, rfl, _, _, _, _, rfl, rfl, SqT.of hd, atI_nat (j := 1) rfl, _, _, rfl, rfl, b.div o, _, _, rfl, rfl, b.mulR' o, k⟩
abbrev s_common_turn : Stmt := topS 13
abbrev N_common_turn : List Str := ["one", "other"]
theorem sc_common_turn : FnScope N_common_turn ["one", "other"] (defScope s_common_turn) := ⟨rfl, rfl, rfl, by decide +kernel, rfl, by decide +kernel, by decide +kernel⟩
theorem ok_common_turn (T : Txt mg) (D : Df K mg "common_turn" s_common_turn ["one", "other"]) (C_begin_of : Cal P w K mg base "begin_of" ["rule"] 1 (sp_begin_of K)) : Cal P w K mg base "common_turn" ["one", "other"] 2 (sp_common_turn K) := by
  obtain ⟨f_begin_of, fd_begin_of, G_begin_of, m_begin_of, k_begin_of, b_begin_of⟩ := C_begin_of
  refine D.cal sc_common_turn (fun vs H Q E h => ?_) (fun f cdv A outer s H vs Q E hr h => ?_)
  · obtain ⟨d1, d2, T1, T2, p1, p2, r1, r2, rfl, _⟩ := h
    rfl
  obtain ⟨d1, d2, T1, T2, p1, p2, r1, r2, rfl, R1, R2, l1, l2, b1, b2, k⟩ := h
  obtain ⟨t1, hd1, ht1⟩ := id R1
  obtain ⟨t2, hd2, ht2⟩ := id R2
  refine ⟨_, (pss_one (ps_ret (pe_tup (pa_cons (pe_callB (call_max2 rfl) (by rfl) T.n_max (by decide +kernel) (pa_cons (pe_call G_begin_of (hr.mono (by decide)) (by rfl) m_begin_of k_begin_of b_begin_of .nil pass0 (pa_cons (pv 0) pa_nil)) (pa_cons (pe_call G_begin_of (hr.mono (by decide)) (by rfl) m_begin_of k_begin_of b_begin_of .nil pass0 (pa_cons (pv 1) pa_nil)) pa_nil))) (pa_cons (pe_callBfun cr_lcm (by rfl) T.g_lcm (pa_cons (pe_ix ix_tup (pv 0) pe_int (fun _ _ => rfl)) (pa_cons (pe_ix ix_tup (pv 1) pe_int (fun _ _ => rfl)) pa_nil))) pa_nil))))), ?_⟩
  refine ⟨_, rfl, d1, T1, p1, r1, rfl, R1, l1, _, rfl, d2, T2, p2, r2, rfl, R2, l2, _, _, rfl, ?_⟩
  refine ⟨_, rfl, _, _, _, _, rfl, rfl, SqT.of hd1, atI_nat (j := 1) rfl, _, rfl, _, _, _, _, rfl, rfl, SqT.of hd2, atI_nat (j := 1) rfl, p1, p2, rfl, by omega, by omega, (by show 2 ≤ sizeLine; decide), fun q nq => ?_⟩
  have e : (if ((T2.length - p2 : Nat) : Int) > ((T1.length - p1 : Nat) : Int) then ((T2.length - p2 : Nat) : Int) else ((T1.length - p1 : Nat) : Int)) = ((max (T1.length - p1) (T2.length - p2) : Nat) : Int) := by
    split <;> omega
  refine k _ q (same_upd nq) ?_
  rw [← e]
  exact upd_same
abbrev s_values_to : Stmt := topS 10
abbrev N_values_to : List Str := ["rule", "count", "table", "period", "rise", "values", "x"]
theorem sc_values_to : FnScope N_values_to ["rule", "count"] (defScope s_values_to) := ⟨rfl, rfl, rfl, by decide +kernel, rfl, by decide +kernel, by decide +kernel⟩
theorem ok_values_to (T : Txt mg) (D : Df K mg "values_to" s_values_to ["rule", "count"]) : Cal P w K mg base "values_to" ["rule", "count"] 1 (sp_values_to K) := by
  refine D.cal sc_values_to (fun vs H Q E h => ?_) (fun f cdv A outer s H vs Q E hr h => ?_)
  · obtain ⟨d, T0, p, r, n, rfl, _⟩ := h
    rfl
  obtain ⟨d, T0, p, r, n, rfl, ⟨t, hd, ht⟩, o, b, nb, k⟩ := h
  have p0 := o.p0
  have p1 := o.p1
  have bl := b.len
  have ll := len_int T0
  have lm : (T0.map V.int).length = T0.length := List.length_map ..
  refine ⟨_, (pss_cons (ps_asg (pv 0) (pg_tup (by rfl) (pgs_cons (pg_name (i := 2) sc_values_to.nd rfl (Or.inl rfl)) (pgs_cons (pg_name (i := 3) sc_values_to.nd rfl (Or.inl rfl)) (pgs_cons (pg_name (i := 4) sc_values_to.nd rfl (Or.inl rfl)) pgs_nil)))))
    (pss_cut (ps_set (i := 5) sc_values_to.nd rfl (Or.inl rfl) (pe_callTy call_list_of (by rfl) T.n_list (by decide +kernel) (pa_cons (pe_slice sl_tupA (pv 2) po_none (po_some (pv 1))) pa_nil)))
    (pss_cons (ps_for PassesOwn.never rfl (pi_range2 (by rfl) T.n_range (pa_cons (pe_callB call_len_seq (by rfl) T.n_len (by decide +kernel) (pa_cons (pv 2) pa_nil)) (pa_cons (pv 1) pa_nil))) (pg_name (i := 6) sc_values_to.nd rfl (Or.inl rfl))
      (pss_one (ps_expr (pe_bm PySem.F.plainAttrs_list PySem.F.slot_list_append PySem.F.type_list_append mt_append (pv 5) (pa_cons (pe_op op_add (pe_ix ix_list (pv 5) (pe_op op_sub (pv 6) (pv 3)) (fun _ _ => rfl)) (pv 4)) pa_nil)))))
    (pss_one (ps_ret (pv 5)))))), ?_⟩
  refine ⟨_, rfl, _, _, rfl, SqT.of hd, rfl, _, _, rfl, _, _, rfl, _, _, rfl, rfl, ?_⟩
  refine ⟨fun σ H1 => ∃ q, σ = [some (.ref d), some (.int (n : Int)), some (.ref t), some (.int (p : Int)), some (.int r), some (.ref q), none] ∧ Same H H1 ∧ (∀ b o, H b = some o → b ≠ q) ∧ H1 q = some (.lst ((vals T0 p r (min n T0.length)).map V.int)), ?_, ?_⟩
  · have tk : (T0.map V.int).take n = (vals T0 p r (min n T0.length)).map V.int := by
      rw [← vals_take (Nat.min_le_right ..), ← List.map_take]
      congr 1
      rcases Nat.le_total n T0.length with h | h
      · rw [Nat.min_eq_left h]
      · rw [Nat.min_eq_right h, List.take_length, List.take_of_length_le h]
    refine ⟨_, rfl, _, rfl, _, rfl, _, _, rfl, SqT.of ht, fun wh => ?_, fun _ q1 nq1 => ?_⟩
    · have w2 : (T0.map V.int).take n = T0.map V.int := by
        have := wh.2
        rw [HT.sIx_nat] at this
        exact List.take_of_length_le (by omega)
      refine ⟨_, _, rfl, .inr (SqT.of ht), fun q nq => ⟨q, rfl, same_upd nq, fun b o h => ne_of_none h nq, ?_⟩⟩
      rw [upd_same, ← w2, tk]
    · have s1 := same_upd (o := .tup (cutV (T0.map V.int) none (some (n : Int)))) nq1
      refine ⟨_, _, rfl, .inr (SqT.of upd_same), fun q nq => ⟨q, rfl, s1.trans (same_upd nq), fun b o h => ne_of_none (s1 _ _ h) nq, ?_⟩⟩
      rw [upd_same, cut_all, tk]
  · rintro σ H1 ⟨q, rfl, s1, ne, hq⟩
    have ht1 := s1 _ _ ht
    refine ⟨_, rfl, _, _, rfl, .inr (SqT.of ht1), _, rfl, _, _, rfl, ⟨by rw [ll]; omega, by rw [ll]; omega, by omega, by omega⟩, ?_⟩
    refine for_range (lo := _) (n := _) (fun i σ H2 => ∃ v, σ = [some (.ref d), some (.int (n : Int)), some (.ref t), some (.int (p : Int)), some (.int r), some (.ref q), v] ∧ Same H H2 ∧ H2 q = some (.lst ((vals T0 p r (min n T0.length + i)).map V.int)))
      ⟨none, rfl, s1, hq⟩ ?_ ?_
    · rintro i σ H2 hi ⟨v, rfl, s2, hq2⟩
      rw [ll] at hi
      have hi : T0.length + i < n := by omega
      have em : min n T0.length = T0.length := by omega
      rw [em] at hq2 ⊢
      have e1 : (((T0.map V.int).length : Nat) : Int) + (i : Int) - (p : Int) = ((T0.length + i - p : Nat) : Int) := by rw [ll]; omega
      refine ⟨_, rfl, .inl ⟨rfl, _, SqL.of hq2⟩, _, rfl, _, rfl, _, rfl, _, _, rfl, rfl, _, _, _, _, rfl, rfl, SqL.of hq2, at_of e1 (vals_get (by omega)), _, rfl, _, _, rfl, rfl, q, _, _, rfl, rfl, hq2, ?_, _, rfl, fun b o h => ?_, ?_⟩
      · rw [List.length_map, vals_len]
        exact Nat.lt_of_le_of_lt (show T0.length + i ≤ 5000 by omega) (by decide)
      · rw [upd_ne (ne b o h)]
        exact s2 _ _ h
      · rw [upd_same, ← Nat.add_assoc, vals_succ, List.map_append, vl_step (x := T0.length + i) p0 p1 (by omega)]
        rfl
    · rintro σ H2 ⟨v, rfl, s2, hq2⟩
      refine ⟨_, rfl, k H2 q s2 ne ?_⟩
      rw [hq2, ll]
      congr 4
      omega
abbrev s_check_told : Stmt := topS 9
abbrev N_check_told : List Str := ["number"]
theorem sc_check_told : FnScope N_check_told ["number"] (defScope s_check_told) := ⟨rfl, rfl, rfl, by decide +kernel, rfl, by decide +kernel, by decide +kernel⟩
theorem ok_check_told (T : Txt mg) (D : Df K mg "check_told" s_check_told ["number"]) : Cal P w K mg base "check_told" ["number"] 1 (sp_check_told K) := by
  refine D.cal sc_check_told (fun vs H Q E h => ?_) (fun f cdv A outer s H vs Q E hr h => ?_)
  · obtain ⟨n, rfl, _⟩ := h
    rfl
  obtain ⟨n, rfl, hn, k⟩ := h
  obtain ⟨_, hMAX_TOLD⟩ := T.c_MAX_TOLD
  refine ⟨_, (pss_one (ps_if (pt_cmpR op_gt (pv 0) (pe_glob (v := .int 5000) rfl hMAX_TOLD ⟨_, rfl⟩) (nomark _)) (pss_one ps_no) pss_nil)), ?_⟩
  exact ⟨_, rfl, _, _, rfl, rfl, _, rfl, iteN (by omega) k⟩
end
end Sm

set_option Elab.async false
set_option linter.all false
set_option maxRecDepth 100000
set_option maxHeartbeats 16000000
namespace Sm
open PySem PySem.Spec PyProof.Rows L2
open C8 (pss_cut tCut)
def sp_cycle_of (K : PySem.W.Frag) : Sp := fun vs H Q _ => ∃ (a : Addr) (I : List Int), vs = [.ref a] ∧ H a = some (.lst (I.map V.int)) ∧ 0 < I.length ∧ I.length ≤ 2000 ∧ ∀ H' s, Same H H' → Cyc I s → Q (.int (s : Int)) H'
theorem ints_eqvAll : ∀ I J : List Int, PyData.eqvAll (I.map PyData.int) (J.map PyData.int) = decide (I = J)
  | [], [] => by simp [PyData.eqvAll]
  | [], j :: J => by simp [PyData.eqvAll]
  | i :: I, [] => by simp [PyData.eqvAll]
  | i :: I, j :: J => by
    have := ints_eqvAll I J
    simp only [List.map_cons, PyData.eqvAll, this]
    simp [PyData.eqv]
    rfl
theorem ints_eqv (I J : List Int) : PyData.eqv (.list (I.map PyData.int)) (.list (J.map PyData.int)) = decide (I = J) := by
  rw [← ints_eqvAll]
  simp [PyData.eqv]
theorem ints_shaped (I : List Int) : SeqAt.shaped (.list (I.map PyData.int)) = true := by
  have a : PyData.canLayAll0 (I.map PyData.int) = true := by
    induction I with
    | nil => rfl
    | cons i I ih => simp [PyData.canLayAll0, PyData.canLay0, ih]
  have b := depth_ints I
  have c : PyData.depth (.list (I.map PyData.int)) ≤ 64 := by
    simp only [PyData.depth]
    omega
  simp [SeqAt.shaped, PyData.canLay0, a, c]
theorem cut_from {xs : List V} {n : Nat} (h : n ≤ xs.length) : cutV xs (some (n : Int)) none = xs.drop n := by
  unfold cutV
  rw [HT.sIx_none, HT.sIx_nat, Nat.min_eq_left h]
  exact List.take_of_length_le (by rw [List.length_drop]; omega)
section
variable {P : Program} {w : World} {K : PySem.W.Frag} {mg : Str → Option Value} {base : Heap}
abbrev s_cycle_of : Stmt := topS 7
abbrev N_cycle_of : List Str := ["items", "turn"]
theorem sc_cycle_of : FnScope N_cycle_of ["items"] (defScope s_cycle_of) := ⟨rfl, rfl, rfl, by decide +kernel, rfl, by decide +kernel, by decide +kernel⟩
theorem ok_cycle_of (T : Txt mg) (D : Df K mg "cycle_of" s_cycle_of ["items"]) : Cal P w K mg base "cycle_of" ["items"] 1 (sp_cycle_of K) := by
  refine D.cal sc_cycle_of (fun vs H Q E h => ?_) (fun f cdv A outer s H vs Q E hr h => ?_)
  · obtain ⟨a, I, rfl, _⟩ := h
    rfl
  obtain ⟨a, I, rfl, hS, i0, i1, k⟩ := h
  have ll := len_int I
  have lm : (I.map V.int).length = I.length := List.length_map ..
  refine ⟨_, (pss_cons (ps_for PassesOwn.never rfl (pi_range2 (by rfl) T.n_range (pa_cons pe_int (pa_cons (pe_callB call_len_seq (by rfl) T.n_len (by decide +kernel) (pa_cons (pv 0) pa_nil)) pa_nil))) (pg_name (i := 1) sc_cycle_of.nd rfl (Or.inl rfl))
      (pss_one (ps_if (PW.pt (pw_and (pt_cmpR op_eq (pe_op op_modN (pe_callB call_len_seq (by rfl) T.n_len (by decide +kernel) (pa_cons (pv 0) pa_nil)) (pv 1)) pe_int (nomark _)) (pw_and1 (pt_cmpR (op_eqD hr.units) (pv 0) (pe_op op_cat (pe_slice sl_list (pv 0) (po_some (pv 1)) po_none) (pe_slice sl_list (pv 0) po_none (po_some (pv 1)))) (nomark _))))) (pss_one (ps_ret (pv 1))) pss_nil)))
    (pss_one (ps_ret (pe_callB call_len_seq (by rfl) T.n_len (by decide +kernel) (pa_cons (pv 0) pa_nil))))), ?_⟩
  refine ⟨_, rfl, _, _, rfl, .inl (SqL.of hS), _, _, rfl, ⟨by omega, by omega, by rw [ll]; omega, by rw [ll]; omega⟩, ?_⟩
  refine for_range (lo := _) (n := _) (fun i σ H' => ∃ v, σ = [some (.ref a), v] ∧ Same H H' ∧ H' a = some (.lst (I.map V.int)) ∧ ∀ t, 0 < t → t ≤ i → t < I.length → t ∣ I.length → ¬ Rot I t)
    ⟨none, rfl, Same.refl _, hS, fun t h1 h2 => absurd h1 (by omega)⟩ ?_ ?_
  · rintro i σ H' hi ⟨v, rfl, s, hS, least⟩
    rw [ll] at hi
    have hi : 1 + i < I.length := by omega
    have more : (1 + i ∣ I.length → ¬ Rot I (1 + i)) → ∀ t, 0 < t → t ≤ i + 1 → t < I.length → t ∣ I.length → ¬ Rot I t := by
      intro h t h1 h2 h3 h4
      by_cases q : t = 1 + i
      · subst q
        exact h h4
      · exact least t h1 (by omega) h3 h4
    refine ⟨_, rfl, _, _, rfl, .inl (SqL.of hS), _, rfl, _, _, rfl, rfl, (by omega), rfl, _, rfl, ite3 (fun e => ?_) (fun e => ?_)⟩
    · rw [ll] at e
      have dv : 1 + i ∣ I.length := dvd_of (V.int.inj e)
      refine ⟨_, rfl, _, rfl, _, rfl, _, rfl, a, _, rfl, SqL.of hS, fun c nc => ?_⟩
      have e1 : cutV (I.map V.int) (some (1 + (i : Int))) none = (I.drop (1 + i)).map V.int := by
        rw [show (1 : Int) + (i : Int) = ((1 + i : Nat) : Int) by omega, cut_from (by rw [lm]; omega), List.map_drop]
      have e2 : cutV (I.map V.int) none (some (1 + (i : Int))) = (I.take (1 + i)).map V.int := by
        rw [show (1 : Int) + (i : Int) = ((1 + i : Nat) : Int) by omega, cut_all, List.map_take]
      have s1 := same_upd (o := .lst (cutV (I.map V.int) (some (1 + (i : Int))) none)) nc
      refine ⟨_, rfl, _, rfl, _, rfl, a, _, rfl, SqL.of (s1 _ _ hS), fun d nd => ?_⟩
      have s2 := same_upd (o := .lst (cutV (I.map V.int) none (some (1 + (i : Int))))) nd
      refine ⟨_, _, _, _, rfl, rfl, s2 _ _ upd_same, upd_same, ?_, fun g ng => ?_⟩
      · rw [e1, e2, List.length_map, List.length_map, List.length_drop, List.length_take]
        exact Nat.le_trans (show I.length - (1 + i) + min (1 + i) I.length ≤ 2000 by omega) (by decide)
      rw [e1, e2] at *
      have s3 := same_upd (o := .lst ((I.drop (1 + i)).map V.int ++ (I.take (1 + i)).map V.int)) ng
      have sz := s1.trans (s2.trans s3)
      have hg : ∀ H9 : Hp, H9 = upd (upd (upd H' c (.lst ((I.drop (1 + i)).map V.int))) d (.lst ((I.take (1 + i)).map V.int))) g (.lst ((I.drop (1 + i)).map V.int ++ (I.take (1 + i)).map V.int)) → H9 g = some (.lst ((I.drop (1 + i) ++ I.take (1 + i)).map V.int)) := by
        rintro H9 rfl
        rw [upd_same, List.map_append]
      have hg := hg _ rfl
      generalize upd (upd (upd H' c (.lst ((I.drop (1 + i)).map V.int))) d (.lst ((I.take (1 + i)).map V.int))) g (.lst ((I.drop (1 + i)).map V.int ++ (I.take (1 + i)).map V.int)) = H9 at sz hg ⊢
      refine ⟨dataI I, dataI (I.drop (1 + i) ++ I.take (1 + i)), .lst (SqL.of (sz _ _ hS)) (dp_ints _), .lst (SqL.of hg) (dp_ints _), ints_shaped _, ints_shaped _, ?_⟩
      unfold dataI
      rw [ints_eqv]
      refine ⟨_, rfl, ite3 (fun r => ?_) (fun r => ?_)⟩
      · refine ⟨_, rfl, ?_⟩
        have z : (1 : Int) + (i : Int) = ((1 + i : Nat) : Int) := by omega
        rw [z]
        exact k H9 (1 + i) (s.trans sz) ⟨by omega, by omega, dv, fun _ => r, fun t h1 h2 h3 => least t h1 (by omega) (by omega) h3⟩
      · exact ⟨_, rfl, s.trans sz, sz _ _ hS, more fun _ => r⟩
    · exact iteF ⟨_, rfl, s, hS, more fun dv => absurd (congrArg V.int (by rw [ll]; exact of_dvd dv)) e⟩
  · rintro σ H' ⟨v, rfl, s, hS, least⟩
    rw [ll] at least
    refine ⟨_, rfl, _, _, rfl, .inl (SqL.of hS), ?_⟩
    rw [ll]
    exact k H' I.length s ⟨i0, Nat.le_refl _, Nat.dvd_refl _, fun h => absurd h (Nat.lt_irrefl _), fun t h1 h2 h3 => least t h1 (by omega) (by omega) h3⟩
end
end Sm

set_option Elab.async false
set_option linter.all false
set_option maxRecDepth 100000
set_option maxHeartbeats 16000000
namespace Sm
open PySem PySem.Spec PyProof.Rows L2
open C8 (pss_cut tCut)
def sp_shortest (K : PySem.W.Frag) : Sp := fun vs H Q _ => ∃ (a : Addr) (T : List Int) (p : Nat) (r : Int), vs = [.ref a, .int (p : Int), .int r] ∧ H a = some (.lst (T.map V.int)) ∧ RuleOk T p r ∧ RB T p r ∧
  ∀ H' d' T' p' r', Same H H' → RuleAt H' d' T' p' r' → Cut T p r T' p' r' → Short T' p' r' → (∀ x, vl T' p' r' x = vl T p r x) → Q (.ref d') H'
abbrev sp_told := sp_shortest
theorem steps_split {T : List Int} {p : Nat} {r : Int} (o : RuleW T p r) : ((List.range (p - 1)).map fun i => T.getD (T.length - p + (i + 1)) 0 - T.getD (T.length - p + i) 0) ++ [T.getD (T.length - p + 0) 0 + r - T.getD (T.length - 1) 0] = stepsOf T p r := by
  have p0 := o.p0
  have p1 := o.p1
  obtain ⟨q, rfl⟩ : ∃ q, p = q + 1 := ⟨p - 1, by omega⟩
  unfold stepsOf
  rw [List.range_succ, List.map_append, Nat.add_sub_cancel]
  congr 1
  · refine List.map_congr_left fun i hi => ?_
    have hi := List.mem_range.mp hi
    rw [vl_lt (by omega), vl_lt (by omega), Nat.add_assoc]
  · show [_] = [vl T (q + 1) r (T.length - (q + 1) + q + 1) - vl T (q + 1) r (T.length - (q + 1) + q)]
    have e := vl_add p0 p1 (r := r) (x := T.length - (q + 1)) (Nat.le_refl _)
    rw [show T.length - (q + 1) + q + 1 = T.length - (q + 1) + (q + 1) by omega, e, vl_lt (by omega), vl_lt (by omega), show T.length - (q + 1) + q = T.length - 1 by omega]
    rfl
section
variable {P : Program} {w : World} {K : PySem.W.Frag} {mg : Str → Option Value} {base : Heap}
abbrev s_shortest : Stmt := topS 6
abbrev N_shortest : List Str := ["table", "period", "rise", "tail", "steps", "turn", "gain", "count", "at"]
theorem sc_shortest : FnScope N_shortest ["table", "period", "rise"] (defScope s_shortest) := ⟨rfl, rfl, rfl, by decide +kernel, rfl, by decide +kernel, by decide +kernel⟩
theorem ok_shortest (T : Txt mg) (D : Df K mg "shortest" s_shortest ["table", "period", "rise"]) (C_cycle_of : Cal P w K mg base "cycle_of" ["items"] 1 (sp_cycle_of K)) : Cal P w K mg base "shortest" ["table", "period", "rise"] 2 (sp_shortest K) := by
  obtain ⟨f_cycle_of, fd_cycle_of, G_cycle_of, m_cycle_of, k_cycle_of, b_cycle_of⟩ := C_cycle_of
  refine D.cal sc_shortest (fun vs H Q E h => ?_) (fun f cdv A outer s H vs Q E hr h => ?_)
  · obtain ⟨a, T0, p, r, rfl, _⟩ := h
    rfl
  obtain ⟨a, T0, p, r, rfl, hS, o, b, k⟩ := h
  have p0 := o.p0
  have p1 := o.p1
  have bl := b.len
  have r0 := o.r0
  have ll := len_int T0
  have lm : (T0.map V.int).length = T0.length := List.length_map ..
  have lo : (((T0.map V.int).length : Nat) : Int) - (p : Int) = ((T0.length - p : Nat) : Int) := by rw [ll]; omega
  refine ⟨_, (pss_cons (ps_set (i := 3) sc_shortest.nd rfl (Or.inr rfl) (pe_slice sl_list (pv 0) (po_some (pe_op op_sub (pe_callB call_len_seq (by rfl) T.n_len (by decide +kernel) (pa_cons (pv 0) pa_nil)) (pv 1))) po_none))
    (pss_cons (ps_setLc (i := 4) (own := [("at", 8)]) (g := gName 8) (tt := tYes) rfl sc_shortest.nd rfl rfl (sw_true rfl rfl rfl (by decide +kernel)) (pi_range1 (by rfl) T.n_range (pa_cons (pe_op op_sub (pv 1) pe_int) pa_nil)) (blkOk_by (own := [("at", 8)]) (N := N_shortest) (sc := defScope s_shortest) (by decide +kernel)) (fun _ _ _ _ _ => pg_name (i := 8) sc_shortest.nd rfl (Or.inl rfl)) (fun _ _ _ _ _ => pts_nil) (fun _ _ _ _ _ => (pe_op op_sub (pe_ix (show IxR _ (rIxL K) from ix_list) (pv 3) (pe_op op_add (pv 8) pe_int) (fun _ _ => rfl)) (pe_ix (show IxR _ (rIxL K) from ix_list) (pv 3) (pv 8) (fun _ _ => rfl)))))
    (pss_cons (ps_set (i := 5) sc_shortest.nd rfl (Or.inl rfl) (pe_call G_cycle_of (hr.mono (by decide)) (by rfl) m_cycle_of k_cycle_of b_cycle_of .nil pass0 (pa_cons (pe_op op_cat (pv 4) (pe_lst (pa_cons (pe_op op_sub (pe_op op_add (pe_ix ix_list (pv 3) pe_int (fun _ _ => rfl)) (pv 2)) (pe_ix ix_list (pv 3) (pe_un un_neg pe_int) (fun _ _ => rfl))) pa_nil))) pa_nil)))
    (pss_cons (ps_set (i := 6) sc_shortest.nd rfl (Or.inl rfl) (pe_op op_fdivW (pe_op op_mul (pv 2) (pv 5)) (pv 1)))
    (pss_cons (ps_set (i := 7) sc_shortest.nd rfl (Or.inl rfl) (pe_callB call_len_seq (by rfl) T.n_len (by decide +kernel) (pa_cons (pv 0) pa_nil)))
    (pss_cons (ps_while PassesOwn.never (PW.pt (pw_and (pt_cmpR op_gt (pv 7) (pv 5) (nomark _)) (pw_and1 (pt_cmpR op_eq (pe_ix ix_list (pv 0) (pe_op op_sub (pv 7) pe_int) (fun _ _ => rfl)) (pe_op op_add (pe_ix ix_list (pv 0) (pe_op op_sub (pe_op op_sub (pv 7) pe_int) (pv 5)) (fun _ _ => rfl)) (pv 6)) (nomark _)))))
      (pss_one (ps_aug (i := 7) sc_shortest.nd rfl (Or.inl rfl) pe_int ip_sub)))
    (pss_one (ps_ret (pe_tup (pa_cons (pe_callTy call_tuple_of (by rfl) T.n_tuple (by decide +kernel) (pa_cons (pe_slice sl_list (pv 0) po_none (po_some (pv 7))) pa_nil)) (pa_cons (pv 5) (pa_cons (pv 6) pa_nil)))))))))))), ?_⟩
  refine ⟨_, rfl, _, rfl, _, _, rfl, .inl (SqL.of hS), _, rfl, _, _, rfl, rfl, _, rfl, a, _, rfl, SqL.of hS, fun c nc => ?_⟩
  rw [lo, cut_from (by rw [lm]; omega), ← List.map_drop]
  have s1 := same_upd (o := .lst ((T0.drop (T0.length - p)).map V.int)) nc
  have hc : upd H c (.lst ((T0.drop (T0.length - p)).map V.int)) c = some (.lst ((T0.drop (T0.length - p)).map V.int)) := upd_same
  generalize upd H c (.lst ((T0.drop (T0.length - p)).map V.int)) = H1 at s1 hc ⊢
  have tl : (T0.drop (T0.length - p)).length = p := by rw [List.length_drop]; omega
  have tg : ∀ i, i < p → ((T0.drop (T0.length - p)).map V.int)[i]? = some (.int (T0.getD (T0.length - p + i) 0)) := by
    intro i hi
    rw [List.getElem?_map, List.getElem?_drop, List.getElem?_eq_getElem (by omega), List.getD_eq_getElem?_getD, List.getElem?_eq_getElem (by omega)]
    rfl
  have cnt : ((p : Int) - 1).toNat = p - 1 := by omega
  refine ⟨_, rfl, _, _, rfl, rfl, _, rfl, (by omega), (by omega), fun D nD => ?_⟩
  rw [cnt]
  have sD := same_upd (o := .lst []) nD
  refine lc_range (lo := 0) (n := p - 1) (fun j H' => Same H1 H' ∧ H' D = some (.lst (((List.range j).map fun i => T0.getD (T0.length - p + (i + 1)) 0 - T0.getD (T0.length - p + i) 0).map V.int))) ⟨sD, upd_same⟩ ?_ ?_
  · rintro j H' hj ⟨s', hD⟩
    refine ⟨rfl, ?_⟩
    unfold tYes
    refine iteT ?_
    have e1 : (0 : Int) + (j : Int) + 1 = ((j + 1 : Nat) : Int) := by omega
    have e0 : (0 : Int) + (j : Int) = (j : Int) := Int.zero_add _
    refine ⟨_, rfl, _, rfl, _, _, rfl, rfl, _, _, _, _, rfl, rfl, SqL.of (s' _ _ hc), at_of e1 (tg (j + 1) (by omega)), _, rfl, _, rfl, _, _, _, _, rfl, rfl, SqL.of (s' _ _ hc), at_of e0 (tg j (by omega)), _, _, rfl, rfl, _, hD, ?_, fun b o e => ?_, ?_⟩
    · rw [List.length_map, List.length_map, List.length_range]
      exact Nat.lt_of_le_of_lt (show j ≤ 2000 by omega) (by decide)
    · rw [upd_ne (ne_of_none e nD)]
      exact s' _ _ e
    · rw [upd_same, List.range_succ, List.map_append, List.map_append]
      rfl
  rintro H2 ⟨s2, hD⟩
  have hc2 := s2 _ _ hc
  have g0 := tg 0 p0
  have gl := tg (p - 1) (by omega)
  rw [show T0.length - p + (p - 1) = T0.length - 1 by omega] at gl
  refine ⟨_, rfl, _, rfl, _, _, _, _, rfl, rfl, SqL.of hc2, atI_nat (j := 0) g0, _, rfl, _, _, rfl, rfl, _, rfl, _, rfl, _, _, _, _, rfl, rfl, SqL.of hc2, atI_neg1 (by rw [List.length_map, tl]; exact p0) (by rw [List.length_map, tl]; exact gl), _, _, rfl, rfl, (by show 1 ≤ sizeLine; decide), fun e ne => ?_⟩
  have se := same_upd (o := .lst [.int (T0.getD (T0.length - p + 0) 0 + r - T0.getD (T0.length - 1) 0)]) ne
  refine ⟨_, _, _, _, rfl, rfl, se _ _ hD, upd_same, ?_, fun g ng => ?_⟩
  · rw [List.length_map, List.length_map, List.length_range]
    exact Nat.le_trans (show p - 1 + 1 ≤ 2000 by omega) (by decide)
  have sg := same_upd (o := .lst ((((List.range (p - 1)).map fun i => T0.getD (T0.length - p + (i + 1)) 0 - T0.getD (T0.length - p + i) 0).map V.int) ++ [.int (T0.getD (T0.length - p + 0) 0 + r - T0.getD (T0.length - 1) 0)])) ng
  have hg : ∀ H9 : Hp, H9 g = some (.lst ((((List.range (p - 1)).map fun i => T0.getD (T0.length - p + (i + 1)) 0 - T0.getD (T0.length - p + i) 0).map V.int) ++ [.int (T0.getD (T0.length - p + 0) 0 + r - T0.getD (T0.length - 1) 0)])) → H9 g = some (.lst ((stepsOf T0 p r).map V.int)) := by
    intro H9 h
    rw [h, ← steps_split o.w, List.map_append]
    rfl
  have s3 := s1.trans (s2.trans (se.trans sg))
  refine ⟨g, stepsOf T0 p r, rfl, hg _ upd_same, by rw [stepsOf_len]; exact p0, by rw [stepsOf_len]; omega, fun H3 s s4 cyc => ?_⟩
  obtain ⟨s0, sp, sd, hs, hm⟩ := cyc_rule o cyc
  have sz := s3.trans s4
  have hS3 := sz _ _ hS
  refine ⟨_, rfl, _, rfl, _, _, rfl, rfl, b.mulR' o, _, rfl, _, _, rfl, rfl, b.div o, _, rfl, _, _, rfl, .inl (SqL.of hS3), ?_⟩
  have c0 : 0 ≤ r * (s : Int) / (p : Int) := Int.ediv_nonneg (Int.mul_nonneg r0 (by omega)) (by omega)
  have c1 : r * (s : Int) / (p : Int) ≤ r := by
    have h1 : r * (s : Int) ≤ r * (p : Int) := Int.mul_le_mul_of_nonneg_left (by omega) r0
    have h2 := Int.ediv_le_ediv (show (0 : Int) < (p : Int) by omega) h1
    rw [Int.mul_ediv_cancel _ (by omega)] at h2
    exact h2
  have all := rep_all o hs
  obtain ⟨cc, ec⟩ : ∃ cc, cc = r * (s : Int) / (p : Int) := ⟨_, rfl⟩
  rw [← ec] at c0 c1 all
  refine ⟨fun m σ H' => σ = [some (.ref a), some (.int (p : Int)), some (.int r), some (.ref c), some (.ref D), some (.int (s : Int)), some (.int cc), some (.int ((m + s : Nat) : Int)), none] ∧ H' = H3 ∧ m + s ≤ T0.length ∧ ∀ y, m ≤ y → vl T0 p r (y + s) = vl T0 p r y + cc, ⟨T0.length - s, ?_, rfl, by omega, fun y hy => all y (by omega)⟩, ?_⟩
  · rw [ec, show T0.length - s + s = T0.length by omega, ← ll]
    rfl
  rintro m σ H' ⟨rfl, rfl, al, ha⟩
  have fin : (m = 0 ∨ vl T0 p r (m - 1 + s) ≠ T0.getD (m - 1) 0 + cc) → ∀ (H5 : Hp) (t' : Addr), Same H' H5 → H5 t' = some (.tup ((T0.take (m + s)).map V.int)) → ∀ q, H5 q = none → Q (.ref q) (upd H5 q (.tup [.ref t', .int (s : Int), .int cc])) := by
    intro st H5 t' sm h5 q nq
    have sq := same_upd (o := .tup [.ref t', .int (s : Int), .int cc]) nq
    have am : m ≤ T0.length - p := by
      rcases Nat.lt_or_ge (T0.length - p) m with w | w
      · exfalso
        rcases st with z | z
        · omega
        · apply z
          rw [all (m - 1) (by omega), vl_lt (by omega)]
      · exact w
    refine k _ q (T0.take (m + s)) s cc (sz.trans (sm.trans sq)) ⟨t', upd_same, sq _ _ h5⟩ ⟨?_, sp, c1, fun i hi => ?_⟩ (cut_short o s0 sd am c0 ha hm st) (cut_vl s0 (by omega) ha)
    · rw [List.length_take]
      omega
    · rw [List.length_take] at hi
      exact getD_take (by omega)
  have out : (m = 0 ∨ vl T0 p r (m - 1 + s) ≠ T0.getD (m - 1) 0 + cc) → ∀ (g : Addr), H' g = none → ∀ (xs : List V), xs = (T0.take (m + s)).map V.int → ∀ t', upd H' g (.lst xs) t' = none → ∀ q, upd (upd H' g (.lst xs)) t' (.tup xs) q = none → Q (.ref q) (upd (upd (upd H' g (.lst xs)) t' (.tup xs)) q (.tup [.ref t', .int (s : Int), .int cc])) := by
    rintro st g ng xs rfl t' nt q nq
    exact fin st _ t' ((same_upd ng).trans (same_upd nt)) upd_same q nq
  have cx : cutV (T0.map V.int) none (some ((m + s : Nat) : Int)) = (T0.take (m + s)).map V.int := by rw [cut_all, List.map_take]
  refine ⟨_, rfl, _, rfl, _, _, rfl, rfl, _, rfl, ?_⟩
  by_cases e : ((m + s : Nat) : Int) > (s : Int)
  · have e1 : ((m + s : Nat) : Int) - 1 = ((m + s - 1 : Nat) : Int) := by omega
    have e2 : ((m + s : Nat) : Int) - 1 - (s : Int) = ((m - 1 : Nat) : Int) := by omega
    refine iteP e ⟨_, rfl, _, rfl, _, _, rfl, rfl, _, _, _, _, rfl, rfl, SqL.of hS3, at_of e1 (get_int (by omega)), _, rfl, _, rfl, _, _, rfl, rfl, _, rfl, _, _, rfl, rfl, _, _, _, _, rfl, rfl, SqL.of hS3, at_of e2 (get_int (by omega)), _, rfl, _, _, rfl, rfl, rfl, _, rfl, ?_⟩
    have e4 : vl T0 p r (m - 1 + s) = T0.getD (m + s - 1) 0 := by rw [show m - 1 + s = m + s - 1 by omega, vl_lt (by omega)]
    by_cases e3 : T0.getD (m + s - 1) 0 = T0.getD (m - 1) 0 + cc
    · refine iteP (congrArg V.int e3) ⟨fun σ H'' => σ = [some (.ref a), some (.int (p : Int)), some (.int r), some (.ref c), some (.ref D), some (.int (s : Int)), some (.int cc), some (.int ((m - 1 + s : Nat) : Int)), none] ∧ H'' = H' ∧ m - 1 + s ≤ T0.length ∧ ∀ y, m - 1 ≤ y → vl T0 p r (y + s) = vl T0 p r y + cc, fun σ' H3 hw => ⟨m - 1, by omega, hw⟩, ?_⟩
      have e5 : ((m + s : Nat) : Int) - 1 = ((m - 1 + s : Nat) : Int) := by omega
      refine ⟨_, rfl, _, _, rfl, rfl, ⟨by rw [← e5]; rfl, rfl, by omega, fun y hy => ?_⟩⟩
      by_cases q : y = m - 1
      · rw [q, e4, e3, vl_lt (by omega)]
      · exact ha y (by omega)
    · refine iteN (fun q => e3 (V.int.inj q)) ?_
      refine ⟨_, rfl, _, rfl, _, rfl, a, _, rfl, SqL.of hS3, fun g ng => ⟨_, _, rfl, .inl ⟨SqL.of upd_same, fun t' nt => ⟨_, rfl, _, rfl, (by show 3 ≤ sizeLine; decide), fun q nq => ?_⟩⟩⟩⟩
      exact out (.inr (by rw [e4]; exact e3)) g ng _ cx t' nt q nq
  · refine iteN e (iteF ?_)
    refine ⟨_, rfl, _, rfl, _, rfl, a, _, rfl, SqL.of hS3, fun g ng => ⟨_, _, rfl, .inl ⟨SqL.of upd_same, fun t' nt => ⟨_, rfl, _, rfl, (by show 3 ≤ sizeLine; decide), fun q nq => ?_⟩⟩⟩⟩
    exact out (.inl (by omega)) g ng _ cx t' nt q nq
end
end Sm

set_option Elab.async false
set_option linter.all false
set_option maxRecDepth 100000
set_option maxHeartbeats 16000000
namespace Sm
open PySem PySem.Spec PyProof.Rows L2
open C8 (pss_cut tCut)
abbrev MM : Int := 10000000000000000
def sp_sum_rule (_ : PySem.W.Frag) : Sp := fun vs H Q _ => ∃ (d1 d2 : Addr) (T1 T2 : List Int) (p1 p2 : Nat) (r1 r2 : Int), vs = [.ref d1, .ref d2] ∧ RuleAt H d1 T1 p1 r1 ∧ RuleAt H d2 T2 p2 r2 ∧ RuleOk T1 p1 r1 ∧ RuleOk T2 p2 r2 ∧ RS MM T1 p1 r1 ∧ RS MM T2 p2 r2 ∧
  ∀ H' d' T' p' r', Same H H' → RuleAt H' d' T' p' r' → RB T' p' r' → Short T' p' r' → (∀ x, vl T' p' r' x = vl T1 p1 r1 x + vl T2 p2 r2 x) → Q (.ref d') H'
abbrev sp_l_sum := sp_sum_rule
theorem sum_tab {T1 T2 : List Int} {p1 p2 B t ka kb : Nat} {r1 r2 : Int} (o1 : RuleOk T1 p1 r1) (o2 : RuleOk T2 p2 r2) (b1 : RS MM T1 p1 r1) (b2 : RS MM T2 p2 r2) (hB1 : T1.length - p1 ≤ B) (hB2 : T2.length - p2 ≤ B) (hB : B ≤ 300) (t0 : 0 < t) (ht : t ≤ 1600)
    (ea : ka * p1 = t) (eb : kb * p2 = t) (ha : ka ≤ 40) (hb : kb ≤ 40) :
    RuleOk ((List.range (B + t)).map fun x => vl T1 p1 r1 x + vl T2 p2 r2 x) t (r1 * (ka : Int) + r2 * (kb : Int)) ∧ RB ((List.range (B + t)).map fun x => vl T1 p1 r1 x + vl T2 p2 r2 x) t (r1 * (ka : Int) + r2 * (kb : Int)) ∧
    ∀ x, vl ((List.range (B + t)).map fun x => vl T1 p1 r1 x + vl T2 p2 r2 x) t (r1 * (ka : Int) + r2 * (kb : Int)) x = vl T1 p1 r1 x + vl T2 p2 r2 x := by
  have z1 := o1.r0
  have z2 := o2.r0
  have turn : ∀ x, B ≤ x → vl T1 p1 r1 (x + t) + vl T2 p2 r2 (x + t) = vl T1 p1 r1 x + vl T2 p2 r2 x + (r1 * (ka : Int) + r2 * (kb : Int)) := by
    intro x hx
    have e1 := vl_addk o1.p0 o1.p1 (r := r1) (x := x) (by omega) ka
    have e2 := vl_addk o2.p0 o2.p1 (r := r2) (x := x) (by omega) kb
    rw [ea] at e1
    rw [eb] at e2
    rw [e1, e2, Int.mul_comm r1, Int.mul_comm r2]
    omega
  have m1 : 0 ≤ r1 * (ka : Int) := Int.mul_nonneg z1 (by omega)
  have m2 : 0 ≤ r2 * (kb : Int) := Int.mul_nonneg z2 (by omega)
  have u1 : r1 * (ka : Int) ≤ MM * 40 := Int.mul_le_mul b1.r1 (by omega) (by omega) (by decide)
  have u2 : r2 * (kb : Int) ≤ MM * 40 := Int.mul_le_mul b2.r1 (by omega) (by omega) (by decide)
  refine ⟨tab_ok t0 (by omega) turn (fun x => ?_) (fun x => ?_), ⟨by rw [tab_len]; omega, ?_, fun i hi => ?_⟩, tab_vl t0 turn⟩
  · have := o1.pos x
    have := o2.pos x
    omega
  · have := o1.up x
    have := o2.up x
    omega
  · have : MM * 40 + MM * 40 ≤ 1000000000000000000 := by decide
    omega
  · rw [tab_len] at hi
    rw [tab_getD hi]
    have h1 := b1.vl o1 (by decide) i
    have h2 := b2.vl o2 (by decide) i
    have h3 : MM * ((i : Int) + 1) ≤ MM * 2000 := Int.mul_le_mul_of_nonneg_left (by omega) (by decide)
    have : MM * 2000 + MM * 2000 ≤ 100000000000000000000 := by decide
    omega
section
variable {P : Program} {w : World} {K : PySem.W.Frag} {mg : Str → Option Value} {base : Heap}
abbrev s_told : Stmt := topS 8
abbrev N_told : List Str := ["table", "period", "rise", "rule"]
theorem sc_told : FnScope N_told ["table", "period", "rise"] (defScope s_told) := ⟨rfl, rfl, rfl, by decide +kernel, rfl, by decide +kernel, by decide +kernel⟩
theorem ok_told (T : Txt mg) (D : Df K mg "told" s_told ["table", "period", "rise"]) (C_check_told : Cal P w K mg base "check_told" ["number"] 1 (sp_check_told K)) (C_shortest : Cal P w K mg base "shortest" ["table", "period", "rise"] 2 (sp_shortest K)) : Cal P w K mg base "told" ["table", "period", "rise"] 3 (sp_told K) := by
  obtain ⟨f_check_told, fd_check_told, G_check_told, m_check_told, k_check_told, b_check_told⟩ := C_check_told
  obtain ⟨f_shortest, fd_shortest, G_shortest, m_shortest, k_shortest, b_shortest⟩ := C_shortest
  refine D.cal sc_told (fun vs H Q E h => ?_) (fun f cdv A outer s H vs Q E hr h => ?_)
  · obtain ⟨a, T0, p, r, rfl, _⟩ := h
    rfl
  obtain ⟨a, T0, p, r, rfl, hS, o, b, k⟩ := h
  have bl := b.len
  refine ⟨_, (pss_cons (ps_set (i := 3) sc_told.nd rfl (Or.inl rfl) (pe_call G_shortest (hr.mono (by decide)) (by rfl) m_shortest k_shortest b_shortest .nil pass0 (pa_cons (pv 0) (pa_cons (pv 1) (pa_cons (pv 2) pa_nil)))))
    (pss_cons (ps_expr (pe_call G_check_told (hr.mono (by decide)) (by rfl) m_check_told k_check_told b_check_told .nil pass0 (pa_cons (pe_callB call_len_seq (by rfl) T.n_len (by decide +kernel) (pa_cons (pe_ix ix_tup (pv 3) pe_int (fun _ _ => rfl)) pa_nil)) pa_nil)))
    (pss_one (ps_ret (pv 3))))), ?_⟩
  refine ⟨_, rfl, _, rfl, _, rfl, a, T0, p, r, rfl, hS, o, b, fun H1 d' T' p' r' s1 R cut sh hv => ?_⟩
  obtain ⟨t, hd, ht⟩ := id R
  have cl := cut.len
  exact ⟨_, rfl, _, _, _, _, rfl, rfl, SqT.of hd, atI_nat (j := 0) rfl, _, _, rfl, .inr (SqT.of ht), _, rfl, by rw [len_int]; omega, _, rfl, k H1 d' T' p' r' s1 R cut sh hv⟩
abbrev s_sum_rule : Stmt := topS 15
abbrev N_sum_rule : List Str := ["one", "other", "begin", "turn", "left", "right", "sums", "x"]
theorem sc_sum_rule : FnScope N_sum_rule ["one", "other"] (defScope s_sum_rule) := ⟨rfl, rfl, rfl, by decide +kernel, rfl, by decide +kernel, by decide +kernel⟩
theorem ok_sum_rule (T : Txt mg) (D : Df K mg "sum_rule" s_sum_rule ["one", "other"]) (C_told : Cal P w K mg base "told" ["table", "period", "rise"] 3 (sp_told K)) (C_rise_in : Cal P w K mg base "rise_in" ["rule", "turn"] 1 (sp_rise_in K)) (C_values_to : Cal P w K mg base "values_to" ["rule", "count"] 1 (sp_values_to K)) (C_common_turn : Cal P w K mg base "common_turn" ["one", "other"] 2 (sp_common_turn K)) : Cal P w K mg base "sum_rule" ["one", "other"] 4 (sp_sum_rule K) := by
  obtain ⟨f_told, fd_told, G_told, m_told, k_told, b_told⟩ := C_told
  obtain ⟨f_rise_in, fd_rise_in, G_rise_in, m_rise_in, k_rise_in, b_rise_in⟩ := C_rise_in
  obtain ⟨f_values_to, fd_values_to, G_values_to, m_values_to, k_values_to, b_values_to⟩ := C_values_to
  obtain ⟨f_common_turn, fd_common_turn, G_common_turn, m_common_turn, k_common_turn, b_common_turn⟩ := C_common_turn
  refine D.cal sc_sum_rule (fun vs H Q E h => ?_) (fun f cdv A outer s H vs Q E hr h => ?_)
  · obtain ⟨d1, d2, T1, T2, p1, p2, r1, r2, rfl, _⟩ := h
    rfl
  obtain ⟨d1, d2, T1, T2, p1, p2, r1, r2, rfl, R1, R2, o1, o2, b1, b2, k⟩ := h
  have l1 := o1.p1
  have l2 := o2.p1
  have z1 := o1.p0
  have z2 := o2.p0
  have bl1 := b1.len
  have bl2 := b2.len
  have c1 := b1.turn
  have c2 := b2.turn
  have rb1 := b1.rb (by decide)
  have rb2 := b2.rb (by decide)
  -- the common turn
  obtain ⟨ka, hka⟩ := Nat.dvd_lcm_left p1 p2
  obtain ⟨kb, hkb⟩ := Nat.dvd_lcm_right p1 p2
  have lcm0 : 0 < Nat.lcm p1 p2 := Nat.lcm_pos z1 z2
  have lcm2 : Nat.lcm p1 p2 ≤ p1 * p2 := PySem.W.mc_lcm_le p1 p2
  have lcm1 : Nat.lcm p1 p2 ≤ 1600 := by
    have h2 : p1 * p2 ≤ 40 * 40 := Nat.mul_le_mul c1 c2
    omega
  have da : Nat.lcm p1 p2 / p1 = ka := by rw [hka]; exact Nat.mul_div_cancel_left ka z1
  have db : Nat.lcm p1 p2 / p2 = kb := by rw [hkb]; exact Nat.mul_div_cancel_left kb z2
  have ea : ka * p1 = Nat.lcm p1 p2 := by rw [Nat.mul_comm]; exact hka.symm
  have eb : kb * p2 = Nat.lcm p1 p2 := by rw [Nat.mul_comm]; exact hkb.symm
  have ka1 : ka ≤ 40 := by
    rw [hka] at lcm2
    have := Nat.le_of_mul_le_mul_left lcm2 z1
    omega
  have kb1 : kb ≤ 40 := by
    rw [hkb, Nat.mul_comm p1 p2] at lcm2
    have := Nat.le_of_mul_le_mul_left lcm2 z2
    omega
  refine ⟨_, (pss_cons (ps_asg (pe_call G_common_turn (hr.mono (by decide)) (by rfl) m_common_turn k_common_turn b_common_turn .nil pass0 (pa_cons (pv 0) (pa_cons (pv 1) pa_nil))) (pg_tup (by rfl) (pgs_cons (pg_name (i := 2) sc_sum_rule.nd rfl (Or.inl rfl)) (pgs_cons (pg_name (i := 3) sc_sum_rule.nd rfl (Or.inl rfl)) pgs_nil))))
    (pss_cons (ps_set (i := 4) sc_sum_rule.nd rfl (Or.inr rfl) (pe_call G_values_to (hr.mono (by decide)) (by rfl) m_values_to k_values_to b_values_to .nil pass0 (pa_cons (pv 0) (pa_cons (pe_op op_add (pv 2) (pv 3)) pa_nil))))
    (pss_cons (ps_set (i := 5) sc_sum_rule.nd rfl (Or.inr rfl) (pe_call G_values_to (hr.mono (by decide)) (by rfl) m_values_to k_values_to b_values_to .nil pass0 (pa_cons (pv 1) (pa_cons (pe_op op_add (pv 2) (pv 3)) pa_nil))))
    (pss_cons (ps_setLc (i := 6) (own := [("x", 7)]) (g := gName 7) (tt := tYes) rfl sc_sum_rule.nd rfl rfl (sw_true rfl rfl rfl (by decide +kernel)) (pi_range1 (by rfl) T.n_range (pa_cons (pe_op op_add (pv 2) (pv 3)) pa_nil)) (blkOk_by (own := [("x", 7)]) (N := N_sum_rule) (sc := defScope s_sum_rule) (by decide +kernel)) (fun _ _ _ _ _ => pg_name (i := 7) sc_sum_rule.nd rfl (Or.inl rfl)) (fun _ _ _ _ _ => pts_nil) (fun _ _ _ _ _ => (pe_op op_add (pe_ix (show IxR _ (rIxL K) from ix_list) (pv 4) (pv 7) (fun _ _ => rfl)) (pe_ix (show IxR _ (rIxL K) from ix_list) (pv 5) (pv 7) (fun _ _ => rfl)))))
    (pss_one (ps_ret (pe_call G_told (hr.mono (by decide)) (by rfl) m_told k_told b_told .nil pass0 (pa_cons (pv 6) (pa_cons (pv 3) (pa_cons (pe_op op_add (pe_call G_rise_in (hr.mono (by decide)) (by rfl) m_rise_in k_rise_in b_rise_in .nil pass0 (pa_cons (pv 0) (pa_cons (pv 3) pa_nil))) (pe_call G_rise_in (hr.mono (by decide)) (by rfl) m_rise_in k_rise_in b_rise_in .nil pass0 (pa_cons (pv 1) (pa_cons (pv 3) pa_nil)))) pa_nil)))))))))), ?_⟩
  refine ⟨_, rfl, _, rfl, d1, d2, T1, T2, p1, p2, r1, r2, rfl, R1, R2, l1, l2, c1, c2, fun H1 q1 s1 hq1 => ?_⟩
  refine ⟨_, _, rfl, SqT.of hq1, rfl, _, _, rfl, _, _, rfl, rfl, ?_⟩
  generalize hB : max (T1.length - p1) (T2.length - p2) = B
  generalize hL : Nat.lcm p1 p2 = t at lcm0 lcm1 da db ea eb
  have Bb : B ≤ 300 := by omega
  refine ⟨_, rfl, _, rfl, _, rfl, _, _, rfl, rfl, d1, T1, p1, r1, B + t, rfl, R1.same s1, o1, rb1, by omega, fun H2 L s2 nL hL2 => ?_⟩
  refine ⟨_, rfl, _, rfl, _, rfl, _, _, rfl, rfl, d2, T2, p2, r2, B + t, rfl, (R2.same s1).same s2, o2, rb2, by omega, fun H3 M s3 nM hM => ?_⟩
  have hL3 := s3 _ _ hL2
  have s := s1.trans (s2.trans s3)
  have cnt : ((B : Int) + (t : Int)).toNat = B + t := by omega
  refine ⟨_, rfl, _, rfl, _, _, rfl, rfl, _, rfl, (by omega), (by omega), fun U nU => ?_⟩
  rw [cnt]
  have sU := same_upd (o := .lst []) nU
  obtain ⟨ok, rb, hv⟩ := sum_tab o1 o2 b1 b2 (B := B) (t := t) (by omega) (by omega) Bb lcm0 lcm1 ea eb ka1 kb1
  refine lc_range (lo := 0) (n := B + t) (fun j H' => Same H3 H' ∧ H' U = some (.lst (((List.range j).map fun x => vl T1 p1 r1 x + vl T2 p2 r2 x).map V.int))) ⟨sU, upd_same⟩ ?_ ?_
  · rintro j H' hj ⟨s', hU⟩
    refine ⟨rfl, ?_⟩
    unfold tYes
    refine iteT ?_
    refine ⟨_, rfl, _, rfl, _, _, _, _, rfl, rfl, SqL.of (s' _ _ hL3), at_of (Int.zero_add _) (vals_get hj), _, rfl, _, rfl, _, _, _, _, rfl, rfl, SqL.of (s' _ _ hM), at_of (Int.zero_add _) (vals_get hj), _, _, rfl, rfl, _, hU, ?_, fun b o e => ?_, ?_⟩
    · rw [List.length_map, List.length_map, List.length_range]
      exact Nat.lt_of_le_of_lt (show j ≤ 2000 by omega) (by decide)
    · rw [upd_ne (ne_of_none e nU)]
      exact s' _ _ e
    · rw [upd_same, List.range_succ, List.map_append, List.map_append]
      rfl
  · rintro H4 ⟨s4, hU⟩
    have R1' := (R1.same s).same s4
    have R2' := (R2.same s).same s4
    refine ⟨_, rfl, _, rfl, _, rfl, _, rfl, d1, T1, p1, r1, t, rfl, R1', o1, rb1, _, rfl, _, rfl, d2, T2, p2, r2, t, rfl, R2', o2, rb2, _, _, rfl, rfl, ?_⟩
    rw [da, db]
    exact ⟨U, _, t, _, rfl, hU, ok, rb, fun H5 d' T' p' r' s5 R cut sh hv' => k H5 d' T' p' r' (s.trans (s4.trans s5)) R (cut.rb rb) sh fun x => (hv' x).trans (hv x)⟩
end
end Sm

set_option Elab.async false
set_option linter.all false
set_option maxRecDepth 100000
set_option maxHeartbeats 16000000
namespace Sm
open PySem PySem.Spec PyProof.Rows L2
open C8 (pss_cut tCut)
def sp_l_against (_ : PySem.W.Frag) : Sp := fun vs H Q _ => ∃ (d : Addr) (T : List Int) (p : Nat) (r : Int), vs = [.ref d] ∧ RuleAt H d T p r ∧ RuleOk T p r ∧ RS 10000000000000 T p r ∧
  ∀ H' d' T' p' r', Same H H' → RuleAt H' d' T' p' r' → RS MM T' p' r' → Short T' p' r' → Q (.ref d') H'
def agF (T : List Int) (p : Nat) (r m : Int) (x : Nat) : Int := (x : Int) * m + T.getD 0 0 - vl T p r x
theorem ag_step {T : List Int} {p : Nat} {r m : Int} (o : RuleOk T p r) (h : ∀ x, x < T.length → vl T p r (x + 1) - vl T p r x ≤ m) : ∀ x, vl T p r (x + 1) - vl T p r x ≤ m := by
  intro x
  induction x using Nat.strongRecOn with
  | _ x ih =>
    have p0 := o.p0
    have p1 := o.p1
    by_cases q : x < T.length
    · exact h x q
    · have := ih (x - p) (by omega)
      have e1 := vl_step p0 p1 (r := r) (x := x) (by omega)
      have e2 := vl_step p0 p1 (r := r) (x := x + 1) (by omega)
      rw [show x + 1 - p = x - p + 1 by omega] at e2
      omega
theorem ag_up {T : List Int} {p : Nat} {r m : Int} (o : RuleOk T p r) (h : ∀ x, x < T.length → vl T p r (x + 1) - vl T p r x ≤ m) (x : Nat) : agF T p r m x ≤ agF T p r m (x + 1) := by
  have := ag_step o h x
  unfold agF
  rw [Int.natCast_add, Int.add_mul]
  simp
  omega
theorem ag_turn {T : List Int} {p : Nat} {r m : Int} (o : RuleOk T p r) {x : Nat} (hx : T.length - p ≤ x) : agF T p r m (x + p) = agF T p r m x + ((p : Int) * m - r) := by
  have := vl_add o.p0 o.p1 (r := r) hx
  unfold agF
  rw [this, Int.natCast_add, Int.add_mul]
  omega
theorem ag_pos {T : List Int} {p : Nat} {r m : Int} (o : RuleOk T p r) (h : ∀ x, x < T.length → vl T p r (x + 1) - vl T p r x ≤ m) : ∀ x, 0 ≤ agF T p r m x
  | 0 => by
    unfold agF
    have p0 := o.p0
    have p1 := o.p1
    rw [vl_lt (by omega)]
    simp
  | x + 1 => Int.le_trans (ag_pos o h x) (ag_up o h x)
theorem ag_rise {T : List Int} {p : Nat} {r m : Int} (o : RuleOk T p r) (h : ∀ x, x < T.length → vl T p r (x + 1) - vl T p r x ≤ m) : 0 ≤ (p : Int) * m - r := by
  have e := ag_turn (m := m) o (x := T.length - p) (Nat.le_refl _)
  have up : ∀ k, agF T p r m (T.length - p) ≤ agF T p r m (T.length - p + k) := by
    intro k
    induction k with
    | zero => exact Int.le_refl _
    | succ k ih => exact Int.le_trans ih (ag_up o h _)
  have := up p
  omega
theorem ag_ok {T : List Int} {p : Nat} {r m : Int} (o : RuleOk T p r) (h : ∀ x, x < T.length → vl T p r (x + 1) - vl T p r x ≤ m) : RuleOk ((List.range (T.length - p + p)).map (agF T p r m)) p ((p : Int) * m - r) :=
  tab_ok o.p0 (ag_rise o h) (fun x hx => ag_turn o hx) (ag_pos o h) (ag_up o h)
theorem ag_rs {T : List Int} {p : Nat} {r m : Int} (o : RuleOk T p r) (b : RS 10000000000000 T p r) (m0 : 0 ≤ m) (m1 : m ≤ 20000000000000) : RS MM ((List.range (T.length - p + p)).map (agF T p r m)) p ((p : Int) * m - r) := by
  have p1 := o.p1
  have bl := b.len
  have bt := b.turn
  have r0 := o.r0
  refine ⟨by rw [tab_len]; omega, bt, ?_, fun i hi => ?_⟩
  · have h1 : (p : Int) * m ≤ 40 * 20000000000000 := Int.mul_le_mul (by omega) m1 m0 (by decide)
    have : (40 : Int) * 20000000000000 ≤ MM := by decide
    omega
  · rw [tab_len] at hi
    rw [tab_getD hi]
    unfold agF
    have h1 : (i : Int) * m ≤ 300 * 20000000000000 := Int.mul_le_mul (by omega) m1 m0 (by decide)
    have h2 := b.top 0 (by have := o.p0; omega)
    have h3 := o.pos i
    have : (300 : Int) * 20000000000000 + 10000000000000 ≤ MM := by decide
    omega
section
variable {P : Program} {w : World} {K : PySem.W.Frag} {mg : Str → Option Value} {base : Heap}
abbrev s_l_sum : Stmt := topS 24
abbrev N_l_sum : List Str := ["_law_one_here", "_law_other", "_law_begin", "_law_period", "_law_table", "_law_x"]
theorem sc_l_sum : FnScope N_l_sum ["_law_one_here", "_law_other"] (defScope s_l_sum) := ⟨rfl, rfl, rfl, by decide +kernel, rfl, by decide +kernel, by decide +kernel⟩
theorem ok_l_sum (T : Txt mg) (D : Df K mg "_law_sum" s_l_sum ["_law_one_here", "_law_other"]) (C_l_least : Cal P w K mg base "_law_least" ["_law_rule_here"] 3 (sp_l_least K)) (C_l_value : Cal P w K mg base "_law_value" ["_law_rule_here", "_law_x"] 1 (sp_l_value K)) : Cal P w K mg base "_law_sum" ["_law_one_here", "_law_other"] 4 (sp_l_sum K) := by
  obtain ⟨f_l_least, fd_l_least, G_l_least, m_l_least, k_l_least, b_l_least⟩ := C_l_least
  obtain ⟨f_l_value, fd_l_value, G_l_value, m_l_value, k_l_value, b_l_value⟩ := C_l_value
  refine D.cal sc_l_sum (fun vs H Q E h => ?_) (fun f cdv A outer s H vs Q E hr h => ?_)
  · obtain ⟨d1, d2, T1, T2, p1, p2, r1, r2, rfl, _⟩ := h
    rfl
  obtain ⟨d1, d2, T1, T2, p1, p2, r1, r2, rfl, R1, R2, o1, o2, b1, b2, k⟩ := h
  obtain ⟨t1, hd1, ht1⟩ := id R1
  obtain ⟨t2, hd2, ht2⟩ := id R2
  have l1 := o1.p1
  have l2 := o2.p1
  have z1 := o1.p0
  have z2 := o2.p0
  have bl1 := b1.len
  have bl2 := b2.len
  have c1 := b1.turn
  have c2 := b2.turn
  have rb1 := b1.rb (by decide)
  have rb2 := b2.rb (by decide)
  have ll1 := len_int T1
  have ll2 := len_int T2
  obtain ⟨B, hB, hB1, hB2, hB3⟩ : ∃ B : Nat, (if (((T2.map V.int).length : Nat) : Int) - (p2 : Int) > (((T1.map V.int).length : Nat) : Int) - (p1 : Int) then (((T2.map V.int).length : Nat) : Int) - (p2 : Int) else (((T1.map V.int).length : Nat) : Int) - (p1 : Int)) = (B : Int) ∧ T1.length - p1 ≤ B ∧ T2.length - p2 ≤ B ∧ B ≤ 300 := by
    rw [ll1, ll2]
    refine ⟨max (T1.length - p1) (T2.length - p2), ?_, by omega, by omega, by omega⟩
    split <;> omega
  have hP : (p1 : Int) * (p2 : Int) = ((p1 * p2 : Nat) : Int) := (Int.natCast_mul ..).symm
  have pp : p1 * p2 ≤ 40 * 40 := Nat.mul_le_mul c1 c2
  have pp0 : 0 < p1 * p2 := Nat.mul_pos z1 z2
  refine ⟨_, (pss_cons (ps_par (i := 2) (j := 3) (by rfl) sc_l_sum.nd rfl rfl (by decide) rfl rfl (pa_cons (pe_callB (call_max2 rfl) (by rfl) T.n_max (by decide +kernel) (pa_cons (pe_op op_sub (pe_callB call_len_seq (by rfl) T.n_len (by decide +kernel) (pa_cons (pe_ix ix_tup (pv 0) pe_int (fun _ _ => rfl)) pa_nil)) (pe_ix ix_tup (pv 0) pe_int (fun _ _ => rfl))) (pa_cons (pe_op op_sub (pe_callB call_len_seq (by rfl) T.n_len (by decide +kernel) (pa_cons (pe_ix ix_tup (pv 1) pe_int (fun _ _ => rfl)) pa_nil)) (pe_ix ix_tup (pv 1) pe_int (fun _ _ => rfl))) pa_nil))) (pa_cons (pe_op op_mul (pe_ix ix_tup (pv 0) pe_int (fun _ _ => rfl)) (pe_ix ix_tup (pv 1) pe_int (fun _ _ => rfl))) pa_nil)) (by rfl))
    (pss_cons (ps_set (i := 4) sc_l_sum.nd rfl (Or.inl rfl) (pe_callTy call_tuple_of (by rfl) T.n_tuple (by decide +kernel) (pa_cons (pe_lc (own := [("_law_x", 5)]) (g := gName 5) (tt := tYes) rfl sc_l_sum.nd (pi_range1 (by rfl) T.n_range (pa_cons (pe_op op_add (pv 2) (pv 3)) pa_nil)) (blkOk_by (own := [("_law_x", 5)]) (N := N_l_sum) (sc := defScope s_l_sum) (by decide +kernel)) (fun _ _ _ _ _ => pg_name (i := 5) sc_l_sum.nd rfl (Or.inl rfl)) (fun _ _ _ _ _ => pts_nil) (fun _ _ _ _ _ => (pe_op op_add (pe_call G_l_value (hr.mono (by decide)) (by rfl) m_l_value k_l_value b_l_value .nil pass0 (pa_cons (pv 0) (pa_cons (pv 5) pa_nil))) (pe_call G_l_value (hr.mono (by decide)) (by rfl) m_l_value k_l_value b_l_value .nil pass0 (pa_cons (pv 1) (pa_cons (pv 5) pa_nil)))))) pa_nil)))
    (pss_one (ps_ret (pe_call G_l_least (hr.mono (by decide)) (by rfl) m_l_least k_l_least b_l_least .nil pass0 (pa_cons (pe_tup (pa_cons (pv 4) (pa_cons (pv 3) (pa_cons (pe_op op_add (pe_op op_mul (pe_ix ix_tup (pv 0) pe_int (fun _ _ => rfl)) (pe_ix ix_tup (pv 1) pe_int (fun _ _ => rfl))) (pe_op op_mul (pe_ix ix_tup (pv 1) pe_int (fun _ _ => rfl)) (pe_ix ix_tup (pv 0) pe_int (fun _ _ => rfl)))) pa_nil)))) pa_nil)))))), ?_⟩
  refine ⟨_, rfl, _, _, _, _, rfl, rfl, SqT.of hd1, atI_nat (j := 0) rfl, _, _, rfl, .inr (SqT.of ht1), _, rfl, _, _, _, _, rfl, rfl, SqT.of hd1, atI_nat (j := 1) rfl, _, _, rfl, rfl, ?_⟩
  refine ⟨_, rfl, _, _, _, _, rfl, rfl, SqT.of hd2, atI_nat (j := 0) rfl, _, _, rfl, .inr (SqT.of ht2), _, rfl, _, _, _, _, rfl, rfl, SqT.of hd2, atI_nat (j := 1) rfl, _, _, rfl, rfl, _, _, rfl, ?_⟩
  refine ⟨_, rfl, _, _, _, _, rfl, rfl, SqT.of hd1, atI_nat (j := 1) rfl, _, rfl, _, _, _, _, rfl, rfl, SqT.of hd2, atI_nat (j := 1) rfl, _, _, rfl, rfl, .inl ⟨by omega, by omega⟩, V.int (B : Int), V.int ((p1 * p2 : Nat) : Int), (by rw [← hB, ← hP]), ?_⟩
  obtain ⟨ok, rb, hv⟩ := sum_tab o1 o2 b1 b2 (B := B) (t := p1 * p2) (ka := p2) (kb := p1) hB1 hB2 hB3 pp0 pp (Nat.mul_comm _ _) rfl c2 c1
  generalize hL : p1 * p2 = t at ok rb hv pp pp0 ⊢
  have cnt : ((B : Int) + (t : Int)).toNat = B + t := by omega
  refine ⟨_, rfl, _, rfl, _, _, rfl, rfl, _, rfl, (by omega), (by omega), fun U nU => ?_⟩
  rw [cnt]
  have sU := same_upd (o := .lst []) nU
  refine lc_range (lo := 0) (n := B + t) (fun j H' => Same H H' ∧ H' U = some (.lst (((List.range j).map fun x => vl T1 p1 r1 x + vl T2 p2 r2 x).map V.int))) ⟨sU, upd_same⟩ ?_ ?_
  · rintro j H' hj ⟨s', hU⟩
    refine ⟨rfl, ?_⟩
    unfold tYes
    refine iteT ?_
    refine ⟨_, rfl, _, rfl, d1, T1, p1, r1, j, congrArg (fun z => [V.ref d1, V.int z]) (Int.zero_add _), R1.same s', o1, rb1, _, rfl, _, rfl, d2, T2, p2, r2, j, congrArg (fun z => [V.ref d2, V.int z]) (Int.zero_add _), R2.same s', o2, rb2, _, _, rfl, rfl, _, hU, ?_, fun b o e => ?_, ?_⟩
    · rw [List.length_map, List.length_map, List.length_range]
      exact Nat.lt_of_le_of_lt (show j ≤ 2000 by omega) (by decide)
    · rw [upd_ne (ne_of_none e nU)]
      exact s' _ _ e
    · rw [upd_same, List.range_succ, List.map_append, List.map_append]
      rfl
  · rintro H4 ⟨s4, hU⟩
    refine ⟨_, _, rfl, .inl ⟨SqL.of hU, fun t' nt => ?_⟩⟩
    have st := same_upd (o := .tup (((List.range (B + t)).map fun x => vl T1 p1 r1 x + vl T2 p2 r2 x).map V.int)) nt
    have hd1' := (s4.trans st) _ _ hd1
    have hd2' := (s4.trans st) _ _ hd2
    refine ⟨_, rfl, _, rfl, _, rfl, _, _, _, _, rfl, rfl, SqT.of hd1', atI_nat (j := 2) rfl, _, rfl, _, _, _, _, rfl, rfl, SqT.of hd2', atI_nat (j := 1) rfl, _, _, rfl, rfl, rb1.mulR' o1, _, rfl, _, _, _, _, rfl, rfl, SqT.of hd2', atI_nat (j := 2) rfl, _, rfl, _, _, _, _, rfl, rfl, SqT.of hd1', atI_nat (j := 1) rfl, _, _, rfl, rfl, rb2.mulR' o2, _, _, rfl, rfl, (by show 3 ≤ sizeLine; decide), fun q nq => ?_⟩
    have sq := same_upd (o := .tup [.ref t', .int (t : Int), .int (r1 * (p2 : Int) + r2 * (p1 : Int))]) nq
    exact ⟨q, _, t, _, rfl, ⟨t', upd_same, sq _ _ upd_same⟩, ok, rb, fun H5 d' T' p' r' s5 R cut sh hv' => k H5 d' T' p' r' (s4.trans (st.trans (sq.trans s5))) R (cut.rb rb) sh fun x => (hv' x).trans (hv x)⟩
abbrev s_l_against : Stmt := topS 25
abbrev N_l_against : List Str := ["_law_rule_here", "_law_table", "_law_period", "_law_rise", "_law_steep", "_law_found", "_law_x", "_law_item"]
theorem sc_l_against : FnScope N_l_against ["_law_rule_here"] (defScope s_l_against) := ⟨rfl, rfl, rfl, by decide +kernel, rfl, by decide +kernel, by decide +kernel⟩
theorem ok_l_against (T : Txt mg) (D : Df K mg "_law_against" s_l_against ["_law_rule_here"]) (C_l_least : Cal P w K mg base "_law_least" ["_law_rule_here"] 3 (sp_l_least K)) (C_l_value : Cal P w K mg base "_law_value" ["_law_rule_here", "_law_x"] 1 (sp_l_value K)) : Cal P w K mg base "_law_against" ["_law_rule_here"] 4 (sp_l_against K) := by
  obtain ⟨f_l_least, fd_l_least, G_l_least, m_l_least, k_l_least, b_l_least⟩ := C_l_least
  obtain ⟨f_l_value, fd_l_value, G_l_value, m_l_value, k_l_value, b_l_value⟩ := C_l_value
  refine D.cal sc_l_against (fun vs H Q E h => ?_) (fun f cdv A outer s H vs Q E hr h => ?_)
  · obtain ⟨d, T0, p, r, rfl, _⟩ := h
    rfl
  obtain ⟨d, T0, p, r, rfl, R, o, b, k⟩ := h
  obtain ⟨t, hd, ht⟩ := id R
  have p0 := o.p0
  have p1 := o.p1
  have bl := b.len
  have ll := len_int T0
  have lm : (T0.map V.int).length = T0.length := List.length_map ..
  refine ⟨_, (pss_cons (ps_asg (pv 0) (pg_tup (by rfl) (pgs_cons (pg_name (i := 1) sc_l_against.nd rfl (Or.inr rfl)) (pgs_cons (pg_name (i := 2) sc_l_against.nd rfl (Or.inl rfl)) (pgs_cons (pg_name (i := 3) sc_l_against.nd rfl (Or.inl rfl)) pgs_nil)))))
    (pss_cons (ps_set (i := 4) sc_l_against.nd rfl (Or.inr rfl) (pe_callB (cr_max rfl) (by rfl) T.n_max (by decide +kernel) (pa_cons (pe_lc (own := [("_law_x", 6)]) (g := gName 6) (tt := tYes) rfl sc_l_against.nd (pi_range1 (by rfl) T.n_range (pa_cons (pe_callB call_len_seq (by rfl) T.n_len (by decide +kernel) (pa_cons (pv 1) pa_nil)) pa_nil)) (blkOk_by (own := [("_law_x", 6)]) (N := N_l_against) (sc := defScope s_l_against) (by decide +kernel)) (fun _ _ _ _ _ => pg_name (i := 6) sc_l_against.nd rfl (Or.inl rfl)) (fun _ _ _ _ _ => pts_nil) (fun _ _ _ _ _ => (pe_op op_sub (pe_call G_l_value (hr.mono (by decide)) (by rfl) m_l_value k_l_value b_l_value .nil pass0 (pa_cons (pv 0) (pa_cons (pe_op op_add (pv 6) pe_int) pa_nil))) (pe_call G_l_value (hr.mono (by decide)) (by rfl) m_l_value k_l_value b_l_value .nil pass0 (pa_cons (pv 0) (pa_cons (pv 6) pa_nil)))))) pa_nil)))
    (pss_cons (ps_set (i := 5) sc_l_against.nd rfl (Or.inl rfl) (pe_callTy call_tuple_of (by rfl) T.n_tuple (by decide +kernel) (pa_cons (pe_lc (own := [("_law_x", 6), ("_law_item", 7)]) (g := gTup K 2 (gCons (gName 6) (gCons (gName 7) gNil))) (tt := tYes) rfl sc_l_against.nd (pi_enumT (by rfl) T.n_enumerate (pa_cons (pv 1) pa_nil)) (blkOk_by (own := [("_law_x", 6), ("_law_item", 7)]) (N := N_l_against) (sc := defScope s_l_against) (by decide +kernel)) (fun _ _ _ _ _ => pg_tup (by rfl) (pgs_cons (pg_name (i := 6) sc_l_against.nd rfl (Or.inl rfl)) (pgs_cons (pg_name (i := 7) sc_l_against.nd rfl (Or.inl rfl)) pgs_nil))) (fun _ _ _ _ _ => pts_nil) (fun _ _ _ _ _ => (pe_op op_sub (pe_op op_add (pe_op op_mul (pv 6) (pv 4)) (pe_ix (show IxR _ (rIxT K) from ix_tup) (pv 1) pe_int (fun _ _ => rfl))) (pv 7)))) pa_nil)))
    (pss_one (ps_ret (pe_call G_l_least (hr.mono (by decide)) (by rfl) m_l_least k_l_least b_l_least .nil pass0 (pa_cons (pe_tup (pa_cons (pv 5) (pa_cons (pv 2) (pa_cons (pe_op op_sub (pe_op op_mul (pv 2) (pv 4)) (pv 3)) pa_nil)))) pa_nil))))))), ?_⟩
  refine ⟨_, rfl, _, _, rfl, SqT.of hd, rfl, _, _, rfl, _, _, rfl, _, _, rfl, rfl, ?_⟩
  have rb := b.rb (by decide)
  have cnt : (((T0.map V.int).length : Nat) : Int).toNat = T0.length := by rw [ll]; omega
  refine ⟨_, rfl, _, _, rfl, .inr (SqT.of ht), _, rfl, (by rw [ll]; omega), (by rw [ll]; omega), fun D nD => ?_⟩
  rw [cnt]
  have sD := same_upd (o := .lst []) nD
  refine lc_range (lo := 0) (n := T0.length) (fun j H' => Same H H' ∧ H' D = some (.lst (((List.range j).map fun x => vl T0 p r (x + 1) - vl T0 p r x).map V.int))) ⟨sD, upd_same⟩ ?_ ?_
  · rintro j H' hj ⟨s', hU⟩
    refine ⟨rfl, ?_⟩
    unfold tYes
    refine iteT ?_
    refine ⟨_, rfl, _, rfl, _, _, rfl, rfl, d, T0, p, r, j + 1, congrArg (fun z => [V.ref d, V.int z]) (show (0 : Int) + (j : Int) + 1 = ((j + 1 : Nat) : Int) by omega), R.same s', o, rb, _, rfl, _, rfl, d, T0, p, r, j, congrArg (fun z => [V.ref d, V.int z]) (Int.zero_add _), R.same s', o, rb, _, _, rfl, rfl, _, hU, ?_, fun b o e => ?_, ?_⟩
    · rw [List.length_map, List.length_map, List.length_range]
      exact Nat.lt_of_le_of_lt (show j ≤ 2000 by omega) (by decide)
    · rw [upd_ne (ne_of_none e nD)]
      exact s' _ _ e
    · rw [upd_same, List.range_succ, List.map_append, List.map_append]
      rfl
  rintro H1 ⟨s1, hD⟩
  refine ⟨_, _, rfl, SqL.of hD, by rw [List.length_map, List.length_range]; omega, fun m hm hle => ?_⟩
  have step : ∀ x, x < T0.length → vl T0 p r (x + 1) - vl T0 p r x ≤ m := fun x hx => hle _ (List.mem_map.mpr ⟨x, List.mem_range.mpr hx, rfl⟩)
  have m0 : 0 ≤ m := by
    have h1 := step 0 (by omega)
    have h2 := o.up 0
    omega
  have m1 : m ≤ 20000000000000 := by
    obtain ⟨x, hx, rfl⟩ := List.mem_map.mp hm
    have hx := List.mem_range.mp hx
    have h0 := o.pos x
    have h1 := b.r1
    by_cases q : x + 1 < T0.length
    · rw [vl_lt q]
      have := b.top (x + 1) q
      omega
    · rw [vl_step (x := x + 1) p0 p1 (by omega), vl_lt (x := x + 1 - p) (by omega)]
      have := b.top (x + 1 - p) (by omega)
      omega
  have ht1 := s1 _ _ ht
  refine ⟨_, rfl, t, _, rfl, SqT.of ht1, fun U nU => ?_⟩
  have sU := same_upd (o := .lst []) nU
  refine lc_it (walk_enumT (K := K) (a := t) (xs := T0.map V.int)) (fun j H' => Same H1 H' ∧ H' U = some (.lst (((List.range j).map (agF T0 p r m)).map V.int))) ⟨sU, upd_same⟩ (fun j H' _ h => SqT.of (h.1 _ _ ht1)) ?_ ?_
  · rintro j x H' H'' hj ⟨s', hU⟩ ⟨T', x1, y, rfl, hT, rfl, hx1, hy⟩
    rw [lm] at hj
    have hx1 := (Option.some.inj hx1).symm
    subst hx1
    have hy : (T0.map V.int)[j]? = some y := hy
    rw [get_int hj] at hy
    have hy := (Option.some.inj hy).symm
    subst hy
    have sT := same_upd (o := .tup [.int (j : Int), .int (T0.getD j 0)]) hT
    have hU' := sT _ _ hU
    have s'' := s'.trans sT
    refine ⟨T', _, rfl, SqT.of upd_same, rfl, _, _, rfl, _, _, rfl, rfl, ?_⟩
    refine ⟨rfl, ?_⟩
    unfold tYes
    refine iteT ?_
    refine ⟨_, rfl, _, rfl, _, _, rfl, rfl, .inl ⟨by omega, by omega⟩, _, rfl, _, _, _, _, rfl, rfl, SqT.of (s'' _ _ ht1), atI_nat (j := 0) (get_int (by omega)), _, _, rfl, rfl, _, rfl, _, _, rfl, rfl, _, hU', ?_, fun b o e => ?_, ?_⟩
    · rw [List.length_map, List.length_map, List.length_range]
      exact Nat.lt_of_le_of_lt (show j ≤ 2000 by omega) (by decide)
    · rw [upd_ne (ne_of_none e nU)]
      exact s'' _ _ e
    · rw [upd_same, List.range_succ, List.map_append, List.map_append]
      show some (HO.lst (_ ++ [V.int ((j : Int) * m + T0.getD 0 0 - T0.getD j 0)])) = some (HO.lst (_ ++ [V.int ((j : Int) * m + T0.getD 0 0 - vl T0 p r j)]))
      rw [vl_lt hj]
  · rintro H4 ⟨s4, hU⟩
    rw [lm, show T0.length = T0.length - p + p by omega] at hU
    refine ⟨_, _, rfl, .inl ⟨SqL.of hU, fun t' nt => ?_⟩⟩
    have st := same_upd (o := .tup (((List.range (T0.length - p + p)).map (agF T0 p r m)).map V.int)) nt
    refine ⟨_, rfl, _, rfl, _, rfl, _, rfl, _, _, rfl, rfl, .inl ⟨by omega, by omega⟩, _, rfl, _, _, rfl, rfl, (by show 3 ≤ sizeLine; decide), fun q nq => ?_⟩
    have sq := same_upd (o := .tup [.ref t', .int (p : Int), .int ((p : Int) * m - r)]) nq
    have rs := ag_rs o b m0 m1
    exact ⟨q, _, p, _, rfl, ⟨t', upd_same, sq _ _ upd_same⟩, ag_ok o step, rs.rb (by decide), fun H5 d' T' p' r' s5 R' cut sh hv' => k H5 d' T' p' r' (s1.trans (s4.trans (st.trans (sq.trans s5)))) R' (cut.rs rs) sh⟩
end
end Sm

set_option Elab.async false
set_option linter.all false
set_option maxRecDepth 100000
set_option maxHeartbeats 16000000
namespace Sm
open PySem PySem.Spec PyProof.Rows L2
/-! ### rules as data -/
def rD (T : List Int) (p : Nat) (r : Int) : PyData := .tuple [.tuple (T.map PyData.int), .int (p : Int), .int r]
theorem log_small {i : Int} (h0 : 0 ≤ i) (h1 : i ≤ 100000000000000000000) : i.natAbs.log2 < 1920 :=
  Nat.lt_of_lt_of_le (PySem.Flt.log2_lt_of (k := 310) (by decide) (by omega)) (by decide)
theorem RuleAt.dp {K : PySem.W.Frag} {H : Hp} {d : Addr} {T : List Int} {p : Nat} {r : Int} (R : RuleAt H d T p r) : Dp K H (.ref d) (rD T p r) := by
  obtain ⟨t, h1, h2⟩ := R
  exact .tup (SqT.of h1) (.cons (.tup (SqT.of h2) (dp_ints T)) (.cons (.int _) (.cons (.int _) .nil)))
/-- data that can be shown -/
structure Shw (d : PyData) : Prop where
  sh : PyData.showable d = true
  nd : PyData.hasDict d = false
  dep : d.depth ≤ 5
  len : d.shown.length ≤ 4000000
theorem mem_getD {T : List Int} {n : Int} (h : n ∈ T) : ∃ i, i < T.length ∧ T.getD i 0 = n := by
  obtain ⟨i, hi, e⟩ := List.mem_iff_getElem.mp h
  exact ⟨i, hi, by rw [List.getD_eq_getElem?_getD, List.getElem?_eq_getElem hi, e]; rfl⟩
theorem rD_shw {T : List Int} {p : Nat} {r : Int} (o : RuleOk T p r) (b : RB T p r) : Shw (rD T p r) := by
  have bl := b.len
  have p1 := o.p1
  have r0 := o.r0
  have r1 := b.r1
  have sm : ∀ n ∈ T, n.natAbs.log2 < 1920 := fun n hn => by
    obtain ⟨i, hi, rfl⟩ := mem_getD hn
    exact log_small (o.nn i hi) (b.top i hi)
  have sp : (p : Int).natAbs.log2 < 1920 := log_small (by omega) (by omega)
  have sr : r.natAbs.log2 < 1920 := log_small r0 (by omega)
  have lp := PyProof.Rows.int_text_len_1921 sp
  have lr := PyProof.Rows.int_text_len_1921 sr
  have dep := depth_ints T
  obtain ⟨s1, s2⟩ := shown_ints sm
  have t1 := PySem.tupleText_len_le (PyData.shownAll (T.map PyData.int))
  refine ⟨?_, ?_, ?_, ?_⟩
  · unfold rD
    simp only [PyData.showable, PyData.showableAll, showable_ints sm, decide_eq_true sp, decide_eq_true sr, Bool.and_self]
  · unfold rD
    simp only [PyData.hasDict, PyData.hasDictAll, hasDict_ints, Bool.or_self]
  · unfold rD
    simp only [PyData.depth, PyData.depthAll]
    omega
  · unfold rD
    simp only [PyData.shown, PyData.shownAll]
    have t2 := PySem.tupleText_len_le [tupleText (PyData.shownAll (T.map PyData.int)), Str.ofString (toString (p : Int)), Str.ofString (toString r)]
    simp only [List.map_cons, List.map_nil, List.sum_cons, List.sum_nil, List.length_cons, List.length_nil] at t2
    omega
theorem shw2 {a b : PyData} (ha : Shw a) (hb : Shw b) : PyData.showable (.list [a, b]) = true ∧ PyData.hasDict (.list [a, b]) = false ∧ PyData.depth (.list [a, b]) ≤ 60 ∧ (PyData.shown (.list [a, b])).length ≤ sizeLine := by
  have d1 := ha.dep
  have d2 := hb.dep
  have l1 := ha.len
  have l2 := hb.len
  refine ⟨?_, ?_, ?_, ?_⟩
  · simp only [PyData.showable, PyData.showableAll, ha.sh, hb.sh, Bool.and_self]
  · simp only [PyData.hasDict, PyData.hasDictAll, ha.nd, hb.nd, Bool.or_self]
  · simp only [PyData.depth, PyData.depthAll]
    omega
  · simp only [PyData.shown, PyData.shownAll]
    have t := listText_len_le [a.shown, b.shown]
    simp only [List.map_cons, List.map_nil, List.sum_cons, List.sum_nil, List.length_cons, List.length_nil] at t
    rw [sizeLine_eq]
    omega
theorem shw3 {a b c : PyData} (ha : Shw a) (hb : Shw b) (hc : Shw c) : PyData.showable (.list [a, b, c]) = true ∧ PyData.hasDict (.list [a, b, c]) = false ∧ PyData.depth (.list [a, b, c]) ≤ 60 ∧ (PyData.shown (.list [a, b, c])).length ≤ sizeLine := by
  have d1 := ha.dep
  have d2 := hb.dep
  have d3 := hc.dep
  have l1 := ha.len
  have l2 := hb.len
  have l3 := hc.len
  refine ⟨?_, ?_, ?_, ?_⟩
  · simp only [PyData.showable, PyData.showableAll, ha.sh, hb.sh, hc.sh, Bool.and_self]
  · simp only [PyData.hasDict, PyData.hasDictAll, ha.nd, hb.nd, hc.nd, Bool.or_self]
  · simp only [PyData.depth, PyData.depthAll]
    omega
  · simp only [PyData.shown, PyData.shownAll]
    have t := listText_len_le [a.shown, b.shown, c.shown]
    simp only [List.map_cons, List.map_nil, List.sum_cons, List.sum_nil, List.length_cons, List.length_nil] at t
    rw [sizeLine_eq]
    omega
theorem sizes7 {H : Hp} {t1 t2 t3 t4 t5 t6 t7 : Addr} {i : Nat} (hi : i < 7) (h1 : H t1 = some (.tup [.int 4, .int 4, .int 2])) (h2 : H t2 = some (.tup [.int 0, .int 12, .int 3])) (h3 : H t3 = some (.tup [.int 20, .int 6, .int (10 ^ 9)]))
    (h4 : H t4 = some (.tup [.int 8, .int 30, .int 1])) (h5 : H t5 = some (.tup [.int 160, .int 30, .int (10 ^ 9)])) (h6 : H t6 = some (.tup [.int 0, .int 40, .int 1])) (h7 : H t7 = some (.tup [.int 30, .int 39, .int 5])) :
    ∃ (tv : Addr) (lo wi ta : Int), [V.ref t1, V.ref t2, V.ref t3, V.ref t4, V.ref t5, V.ref t6, V.ref t7][i]? = some (.ref tv) ∧ H tv = some (.tup [.int lo, .int wi, .int ta]) ∧ 0 ≤ lo ∧ lo ≤ 200 ∧ 1 ≤ wi ∧ wi ≤ 40 ∧ 0 ≤ ta ∧ ta ≤ 1000000000 := by
  obtain rfl | rfl | rfl | rfl | rfl | rfl | rfl : i = 0 ∨ i = 1 ∨ i = 2 ∨ i = 3 ∨ i = 4 ∨ i = 5 ∨ i = 6 := by omega
  · exact ⟨t1, 4, 4, 2, rfl, h1, by decide, by decide, by decide, by decide, by decide, by decide⟩
  · exact ⟨t2, 0, 12, 3, rfl, h2, by decide, by decide, by decide, by decide, by decide, by decide⟩
  · exact ⟨t3, 20, 6, 10 ^ 9, rfl, h3, by decide, by decide, by decide, by decide, by decide, by decide⟩
  · exact ⟨t4, 8, 30, 1, rfl, h4, by decide, by decide, by decide, by decide, by decide, by decide⟩
  · exact ⟨t5, 160, 30, 10 ^ 9, rfl, h5, by decide, by decide, by decide, by decide, by decide, by decide⟩
  · exact ⟨t6, 0, 40, 1, rfl, h6, by decide, by decide, by decide, by decide, by decide, by decide⟩
  · exact ⟨t7, 30, 39, 5, rfl, h7, by decide, by decide, by decide, by decide, by decide, by decide⟩
/-- a rule in the heap, the shortest one of its values -/
def RK (H : Hp) (d : Addr) : Prop := ∃ (T : List Int) (p : Nat) (r : Int), RuleAt H d T p r ∧ RS MM T p r ∧ Short T p r
theorem RK.same {H H' : Hp} {d : Addr} (h : RK H d) (s : Same H H') : RK H' d := by
  obtain ⟨T, p, r, R, q⟩ := h
  exact ⟨T, p, r, R.same s, q⟩
theorem RK.fr {H H' : Hp} {d a l : Addr} {n : Int} (h : RK H d) (f : Fr a l H H') (D : Deck H a l n) : RK H' d := by
  obtain ⟨T, p, r, R, q⟩ := h
  exact ⟨T, p, r, R.fr f D, q⟩
theorem nought_short : Short [0] 1 0 := by
  refine ⟨⟨by decide, by decide, by decide, fun i hi => ?_, fun i hi => ?_, by decide⟩, fun s c h1 h2 => by omega, .inl rfl⟩
  · have hi : i < 1 := hi
    rw [show i = 0 by omega]
    decide
  · have hi : i + 1 < 1 := hi
    omega
theorem nought_rs : RS MM [0] 1 0 := by
  refine ⟨by decide, by decide, by decide, fun i hi => ?_⟩
  have hi : i < 1 := hi
  rw [show i = 0 by omega]
  decide
end Sm

set_option Elab.async false
set_option linter.all false
set_option maxRecDepth 100000
set_option maxHeartbeats 32000000
namespace Sm
open PySem PySem.Spec PyProof.Rows L2
def sp_law (K : PySem.W.Frag) : Sp := fun vs H Q _ => ∃ (a : Addr) (ns : List Int), vs = [.ref a] ∧ SqL K H a (ns.map V.int) ∧ ns.length ≤ 63 ∧ ∀ H', Q (.bl true) H'
theorem RuleAt.updL {H : Hp} {d U : Addr} {T : List Int} {p : Nat} {r : Int} {xs ys : List V} (R : RuleAt H d T p r) (hU : H U = some (.lst xs)) : RuleAt (upd H U (.lst ys)) d T p r := by
  obtain ⟨t, h1, h2⟩ := R
  refine ⟨t, ?_, ?_⟩
  · rw [upd_ne (ne_of h1 hU (by intro q; cases q))]
    exact h1
  · rw [upd_ne (ne_of h2 hU (by intro q; cases q))]
    exact h2
theorem RK.updL {H : Hp} {d U : Addr} {xs ys : List V} (h : RK H d) (hU : H U = some (.lst xs)) : RK (upd H U (.lst ys)) d := by
  obtain ⟨T, p, r, R, q⟩ := h
  exact ⟨T, p, r, R.updL hU, q⟩
theorem Deck.updO {H : Hp} {p l U : Addr} {n : Int} {o : HO} (D : Deck H p l n) (h : U ≠ p ∧ U ≠ l) : Deck (upd H U o) p l n := by
  obtain ⟨cells, hl, hc⟩ := D.hl
  exact ⟨by rw [upd_ne h.1.symm]; exact D.hp, cells, by rw [upd_ne h.2.symm]; exact hl, hc⟩
section
variable {P : Program} {w : World} {K : PySem.W.Frag} {mg : Str → Option Value} {base : Heap}
abbrev s_law : Stmt := topS 26
abbrev N_law : List Str := ["_law_script", "_law_deck_here", "_law_turn", "_law_sizes", "_law_long", "_law_wide", "_law_tall", "_law_one_here", "_law_others", "_law_other", "_law_due", "_law_shown", "_law_told"]
theorem sc_law : FnScope N_law ["_law_script"] (defScope s_law) := ⟨rfl, rfl, rfl, by decide +kernel, rfl, by decide +kernel, by decide +kernel⟩
theorem ok_lawG {f : Addr} {fd : FuncData} (T : Txt mg) (F : Fun K "law" "law" s_law f fd) (C_sum_rule : Cal P w K mg base "sum_rule" ["one", "other"] 4 (sp_sum_rule K)) (C_l_sum : Cal P w K mg base "_law_sum" ["_law_one_here", "_law_other"] 4 (sp_l_sum K)) (C_l_against : Cal P w K mg base "_law_against" ["_law_rule_here"] 4 (sp_l_against K)) (C_l_rule : Cal P w K mg base "_law_rule" ["_law_deck_here", "_law_long", "_law_wide", "_law_tall"] 4 (sp_l_rule K)) (C_l_deck : Cal P w K mg base "_law_deck" ["_law_script"] 1 (sp_l_deck K)) : FnG P w K mg base 5 f fd ["_law_script"] (sp_law K) := by
  obtain ⟨f_sum_rule, fd_sum_rule, G_sum_rule, m_sum_rule, k_sum_rule, b_sum_rule⟩ := C_sum_rule
  obtain ⟨f_l_sum, fd_l_sum, G_l_sum, m_l_sum, k_l_sum, b_l_sum⟩ := C_l_sum
  obtain ⟨f_l_against, fd_l_against, G_l_against, m_l_against, k_l_against, b_l_against⟩ := C_l_against
  obtain ⟨f_l_rule, fd_l_rule, G_l_rule, m_l_rule, k_l_rule, b_l_rule⟩ := C_l_rule
  obtain ⟨f_l_deck, fd_l_deck, G_l_deck, m_l_deck, k_l_deck, b_l_deck⟩ := C_l_deck
  refine FnG.body F sc_law (fun vs H Q E h => ?_) (fun cdv A outer s H vs Q E gu hr h => ?_)
  · obtain ⟨a, ns, rfl, _⟩ := h
    rfl
  obtain ⟨a, ns, rfl, hS, hlen, kk⟩ := h
  refine ⟨_, (pss_cons (ps_set (i := 1) sc_law.nd rfl (Or.inl rfl) (pe_call G_l_deck (hr.mono (by decide)) (by rfl) m_l_deck k_l_deck b_l_deck .nil pass0 (pa_cons (pv 0) pa_nil)))
    (pss_cons (ps_for PassesOwn.never rfl (pi_range1 (by rfl) T.n_range (pa_cons pe_int pa_nil)) (pg_name (i := 2) sc_law.nd rfl (Or.inl rfl))
      (pss_cons (ps_set (i := 3) sc_law.nd rfl (Or.inl rfl) (pe_lst (pa_cons (pe_tup (pa_cons pe_int (pa_cons pe_int (pa_cons pe_int pa_nil)))) (pa_cons (pe_tup (pa_cons pe_int (pa_cons pe_int (pa_cons pe_int pa_nil)))) (pa_cons (pe_tup (pa_cons pe_int (pa_cons pe_int (pa_cons (pe_op op_pow pe_int pe_int) pa_nil)))) (pa_cons (pe_tup (pa_cons pe_int (pa_cons pe_int (pa_cons pe_int pa_nil)))) (pa_cons (pe_tup (pa_cons pe_int (pa_cons pe_int (pa_cons (pe_op op_pow pe_int pe_int) pa_nil)))) (pa_cons (pe_tup (pa_cons pe_int (pa_cons pe_int (pa_cons pe_int pa_nil)))) (pa_cons (pe_tup (pa_cons pe_int (pa_cons pe_int (pa_cons pe_int pa_nil)))) pa_nil)))))))))
    (pss_cons (ps_asg (pe_ix ix_list (pv 3) (pv 2) (fun _ _ => rfl)) (pg_tup (by rfl) (pgs_cons (pg_name (i := 4) sc_law.nd rfl (Or.inl rfl)) (pgs_cons (pg_name (i := 5) sc_law.nd rfl (Or.inl rfl)) (pgs_cons (pg_name (i := 6) sc_law.nd rfl (Or.inl rfl)) pgs_nil)))))
    (pss_cons (ps_set (i := 7) sc_law.nd rfl (Or.inl rfl) (pe_call G_l_rule (hr.mono (by decide)) (by rfl) m_l_rule k_l_rule b_l_rule .nil pass0 (pa_cons (pv 1) (pa_cons (pv 4) (pa_cons (pv 5) (pa_cons (pv 6) pa_nil))))))
    (pss_cons (ps_set (i := 8) sc_law.nd rfl (Or.inl rfl) (pe_lst (pa_cons (pe_call G_l_rule (hr.mono (by decide)) (by rfl) m_l_rule k_l_rule b_l_rule .nil pass0 (pa_cons (pv 1) (pa_cons (pv 4) (pa_cons (pv 5) (pa_cons (pv 6) pa_nil))))) (pa_cons (pe_call G_l_rule (hr.mono (by decide)) (by rfl) m_l_rule k_l_rule b_l_rule .nil pass0 (pa_cons (pv 1) (pa_cons pe_int (pa_cons pe_int (pa_cons (pe_op op_pow pe_int pe_int) pa_nil))))) (pa_cons (pv 7) (pa_cons (pe_tup (pa_cons (pe_tup (pa_cons pe_int pa_nil)) (pa_cons pe_int (pa_cons pe_int pa_nil)))) pa_nil))))))
    (pss_cons (ps_expr (pe_bm PySem.F.plainAttrs_list PySem.F.slot_list_append PySem.F.type_list_append mt_append (pv 8) (pa_cons (pe_call G_l_against (hr.mono (by decide)) (by rfl) m_l_against k_l_against b_l_against .nil pass0 (pa_cons (pv 7) pa_nil)) pa_nil)))
    (pss_one (ps_for PassesOwn.never rfl (pi_list (pv 8)) (pg_name (i := 9) sc_law.nd rfl (Or.inl rfl))
      (pss_cons (ps_par (i := 10) (j := 11) (by rfl) sc_law.nd rfl rfl (by decide) rfl rfl (pa_cons (pe_call G_l_sum (hr.mono (by decide)) (by rfl) m_l_sum k_l_sum b_l_sum .nil pass0 (pa_cons (pv 7) (pa_cons (pv 9) pa_nil))) (pa_cons (pe_callB (call_repr_data gu ⟨_, hr⟩) (by rfl) T.n_repr (by decide +kernel) (pa_cons (pe_lst (pa_cons (pv 7) (pa_cons (pv 9) pa_nil))) pa_nil)) pa_nil)) (by rfl))
    (pss_cons (ps_set (i := 12) sc_law.nd rfl (Or.inl rfl) (pe_lst (pa_cons (pe_call G_sum_rule (hr.mono (by decide)) (by rfl) m_sum_rule k_sum_rule b_sum_rule .nil pass0 (pa_cons (pv 7) (pa_cons (pv 9) pa_nil))) (pa_cons (pe_call G_sum_rule (hr.mono (by decide)) (by rfl) m_sum_rule k_sum_rule b_sum_rule .nil pass0 (pa_cons (pv 9) (pa_cons (pv 7) pa_nil))) (pa_cons (pe_call G_sum_rule (hr.mono (by decide)) (by rfl) m_sum_rule k_sum_rule b_sum_rule .nil pass0 (pa_cons (pv 7) (pa_cons (pv 9) pa_nil))) pa_nil)))))
    (pss_one (ps_if (PW.pt (pw_or (pt_cmpR op_ne (pe_callB (call_repr_data gu ⟨_, hr⟩) (by rfl) T.n_repr (by decide +kernel) (pa_cons (pv 12) pa_nil)) (pe_callB (call_repr_data gu ⟨_, hr⟩) (by rfl) T.n_repr (by decide +kernel) (pa_cons (pe_op op_rep (pe_lst (pa_cons (pv 10) pa_nil)) pe_int) pa_nil)) (nomark _)) (pw_or1 (pt_cmpR op_ne (pe_callB (call_repr_data gu ⟨_, hr⟩) (by rfl) T.n_repr (by decide +kernel) (pa_cons (pe_lst (pa_cons (pv 7) (pa_cons (pv 9) pa_nil))) pa_nil)) (pv 11) (nomark _))))) (pss_one (ps_ret pe_bl)) pss_nil))))))))))))
    (pss_one (ps_ret pe_bl)))), ?_⟩
  refine ⟨_, rfl, a, ns, rfl, hS, hlen, fun H1 p l s1 D1 => ?_⟩
  refine ⟨7, rfl, (by decide), (by decide), for_range (lo := 0) (n := 7) (fun i σ H' => ∃ (n : Int) (v2 v3 v4 v5 v6 v7 v8 v9 v10 v11 v12 : Option V), σ = [some (.ref a), some (.ref p), v2, v3, v4, v5, v6, v7, v8, v9, v10, v11, v12] ∧ Deck H' p l n ∧ 0 ≤ n ∧ n ≤ 6000 * (i : Int))
    ⟨0, none, none, none, none, none, none, none, none, none, none, none, rfl, D1, by omega, by omega⟩ ?_ ?_⟩
  · rintro i σ H2 hi ⟨n, v2, v3, v4, v5, v6, v7, v8, v9, v10, v11, v12, rfl, D2, n0, n1⟩
    refine ⟨(by show 3 ≤ sizeLine; decide), fun t1 nt1 => ⟨(by show 3 ≤ sizeLine; decide), fun t2 nt2 => ⟨_, _, rfl, rfl, ⟨by decide, by decide, by decide⟩, (by show 3 ≤ sizeLine; decide), fun t3 nt3 => ⟨(by show 3 ≤ sizeLine; decide), fun t4 nt4 =>
      ⟨_, _, rfl, rfl, ⟨by decide, by decide, by decide⟩, (by show 3 ≤ sizeLine; decide), fun t5 nt5 => ⟨(by show 3 ≤ sizeLine; decide), fun t6 nt6 => ⟨(by show 3 ≤ sizeLine; decide), fun t7 nt7 => ⟨(by show 7 ≤ sizeLine; decide), fun tb ntb => ?_⟩⟩⟩⟩⟩⟩⟩⟩
    have u1 := same_upd (o := .tup [.int 4, .int 4, .int 2]) nt1
    have u2 := same_upd (o := .tup [.int 0, .int 12, .int 3]) nt2
    have u3 := same_upd (o := .tup [.int 20, .int 6, .int (10 ^ 9)]) nt3
    have u4 := same_upd (o := .tup [.int 8, .int 30, .int 1]) nt4
    have u5 := same_upd (o := .tup [.int 160, .int 30, .int (10 ^ 9)]) nt5
    have u6 := same_upd (o := .tup [.int 0, .int 40, .int 1]) nt6
    have u7 := same_upd (o := .tup [.int 30, .int 39, .int 5]) nt7
    have ub := same_upd (o := .lst [.ref t1, .ref t2, .ref t3, .ref t4, .ref t5, .ref t6, .ref t7]) ntb
    obtain ⟨tv, lo, wi, ta, hget, htv, lo0, lo1, wi0, wi1, ta0, ta1⟩ := sizes7 hi ((u2.trans (u3.trans (u4.trans (u5.trans (u6.trans (u7.trans ub)))))) _ _ upd_same) ((u3.trans (u4.trans (u5.trans (u6.trans (u7.trans ub))))) _ _ upd_same) ((u4.trans (u5.trans (u6.trans (u7.trans ub)))) _ _ upd_same) ((u5.trans (u6.trans (u7.trans ub))) _ _ upd_same) ((u6.trans (u7.trans ub)) _ _ upd_same) ((u7.trans ub) _ _ upd_same) (ub _ _ upd_same)
    have sA := u1.trans (u2.trans (u3.trans (u4.trans (u5.trans (u6.trans (u7.trans ub))))))
    have DA := D2.same sA
    refine ⟨_, rfl, _, rfl, _, _, _, _, rfl, rfl, SqL.of upd_same, at_of (j := i) (Int.zero_add _) hget, _, _, rfl, SqT.of htv, rfl, _, _, rfl, _, _, rfl, _, _, rfl, rfl, ?_⟩
    generalize upd (upd (upd (upd (upd (upd (upd (upd H2 t1 _) t2 _) t3 _) t4 _) t5 _) t6 _) t7 _) tb _ = HA at sA DA htv ⊢
    clear u1 u2 u3 u4 u5 u6 u7 ub nt1 nt2 nt3 nt4 nt5 nt6 nt7 ntb
    -- one
    refine ⟨_, rfl, _, rfl, _, rfl, _, rfl, p, l, n, lo, wi, ta, rfl, DA, n0, by omega, lo0, lo1, wi0, wi1, ta0, ta1, fun HB d1 T1 p1 r1 nB fB DB mB0 mB1 RB1 rs1 sh1 => ?_⟩
    -- others
    refine ⟨_, rfl, _, rfl, _, rfl, _, rfl, p, l, nB, lo, wi, ta, rfl, DB, by omega, by omega, lo0, lo1, wi0, wi1, ta0, ta1, fun HC d2 T2 p2 r2 nC fC DC mC0 mC1 RC2 rs2 sh2 => ?_⟩
    refine ⟨_, rfl, _, _, rfl, rfl, ⟨by decide, by decide, by decide⟩, p, l, nC, 5, 4, 10 ^ 9, rfl, DC, by omega, by omega, by decide, by decide, by decide, by decide, by decide, by decide, fun HD d3 T3 p3 r3 nD fD DD mD0 mD1 RD3 rs3 sh3 => ?_⟩
    refine ⟨_, rfl, (by show 1 ≤ sizeLine; decide), fun z nz => ⟨(by show 3 ≤ sizeLine; decide), fun d4 nd4 => ⟨(by show 4 ≤ sizeLine; decide), fun U nU => ?_⟩⟩⟩
    have z1 := same_upd (o := .tup [.int 0]) nz
    have z2 := same_upd (o := .tup [.ref z, .int 1, .int 0]) nd4
    have z3 := same_upd (o := .lst [.ref d2, .ref d3, .ref d1, .ref d4]) nU
    have zz := z1.trans (z2.trans z3)
    have R1 := ((RB1.fr fC DB).fr fD DC).same zz
    have k1 : RK _ d1 := ⟨T1, p1, r1, R1, rs1.up (by decide), sh1⟩
    have k2 : RK _ d2 := ⟨T2, p2, r2, (RC2.fr fD DC).same zz, rs2.up (by decide), sh2⟩
    have k3 : RK _ d3 := ⟨T3, p3, r3, RD3.same zz, rs3.up (by decide), sh3⟩
    have k4 : RK _ d4 := ⟨[0], 1, 0, ⟨z, z3 _ _ upd_same, (z2.trans z3) _ _ upd_same⟩, nought_rs, nought_short⟩
    have hU : upd (upd (upd HD z (.tup [.int 0])) d4 (.tup [.ref z, .int 1, .int 0])) U (.lst [.ref d2, .ref d3, .ref d1, .ref d4]) U = some (.lst [.ref d2, .ref d3, .ref d1, .ref d4]) := upd_same
    have Un := (DD.same (z1.trans z2)).lne nU
    have DU := DD.same zz
    generalize upd (upd (upd HD z (.tup [.int 0])) d4 (.tup [.ref z, .int 1, .int 0])) U (.lst [.ref d2, .ref d3, .ref d1, .ref d4]) = HU at R1 k1 k2 k3 k4 hU DU ⊢
    clear z1 z2 z3 zz nz nd4 nU
    refine ⟨_, rfl, .inl ⟨rfl, _, SqL.of hU⟩, _, rfl, d1, T1, p1, r1, rfl, R1, sh1.ok, rs1, fun HE d5 T5 p5 r5 sE R5 rs5 sh5 => ⟨U, _, _, rfl, rfl, sE _ _ hU, (by show 4 < sizeLine; decide), ?_⟩⟩
    have hUE := sE _ _ hU
    have all : ∀ v ∈ [V.ref d2, V.ref d3, V.ref d1, V.ref d4, V.ref d5], ∃ d, v = .ref d ∧ RK (upd HE U (.lst ([.ref d2, .ref d3, .ref d1, .ref d4] ++ [.ref d5]))) d := by
      intro v hv
      simp only [List.mem_cons, List.not_mem_nil, or_false] at hv
      rcases hv with rfl | rfl | rfl | rfl | rfl
      · exact ⟨_, rfl, (k2.same sE).updL hUE⟩
      · exact ⟨_, rfl, (k3.same sE).updL hUE⟩
      · exact ⟨_, rfl, (k1.same sE).updL hUE⟩
      · exact ⟨_, rfl, (k4.same sE).updL hUE⟩
      · exact ⟨_, rfl, RK.updL ⟨T5, p5, r5, R5, rs5, sh5⟩ hUE⟩
    have R1F := (R1.same sE).updL (ys := [.ref d2, .ref d3, .ref d1, .ref d4] ++ [.ref d5]) hUE
    have DF : Deck (upd HE U (.lst ([.ref d2, .ref d3, .ref d1, .ref d4] ++ [.ref d5]))) p l nD := (DU.same sE).updO Un
    have hUF : upd HE U (.lst ([.ref d2, .ref d3, .ref d1, .ref d4] ++ [.ref d5])) U = some (.lst [.ref d2, .ref d3, .ref d1, .ref d4, .ref d5]) := upd_same
    generalize upd HE U (.lst ([.ref d2, .ref d3, .ref d1, .ref d4] ++ [.ref d5])) = HF at all R1F DF hUF ⊢
    refine ⟨_, rfl, U, rfl, ⟨_, SqL.of hUF⟩, for_list (K := K) (a := U) (xs := [.ref d2, .ref d3, .ref d1, .ref d4, .ref d5]) (fun j σ H' => Same HF H' ∧ ∃ (w9 w10 w11 w12 : Option V), σ = [some (.ref a), some (.ref p), some (.int (0 + (i : Int))), some (.ref tb), some (.int lo), some (.int wi), some (.int ta), some (.ref d1), some (.ref U), w9, w10, w11, w12])
      ⟨Same.refl _, _, _, _, _, rfl⟩ (fun j σ H' _ h => SqL.of (h.1 _ _ hUF)) ?_ ?_⟩
    · rintro j x σ H' hx ⟨s', w9, w10, w11, w12, rfl⟩
      obtain ⟨dx, rfl, Tx, px, rx, Rx, rsx, shx⟩ := all x (List.mem_of_getElem? hx)
      have A1 := R1F.same s'
      have Ax := Rx.same s'
      have b1 : RS MM T1 p1 r1 := rs1.up (by decide)
      refine ⟨_, rfl, _, rfl, d1, dx, T1, Tx, p1, px, r1, rx, rfl, A1, Ax, sh1.ok, shx.ok, b1, rsx, fun H5 e5 T5 p5 r5 s5 R5 rb5 sh5 hv5 => ?_⟩
      obtain ⟨a1, a2, a3, a4⟩ := shw2 (rD_shw sh1.ok (b1.rb (by decide))) (rD_shw shx.ok (rsx.rb (by decide)))
      refine ⟨_, rfl, _, rfl, (by show 2 ≤ sizeLine; decide), fun g1 ng1 => ?_⟩
      have sg := same_upd (o := .lst [.ref d1, .ref dx]) ng1
      have B1 := (A1.same s5).same sg
      have Bx := (Ax.same s5).same sg
      refine ⟨g1, .list [rD T1 p1 r1, rD Tx px rx], rfl, .lst (SqL.of upd_same) (.cons B1.dp (.cons Bx.dp .nil)), a1, a2, a3, a4, _, _, rfl, ?_⟩
      have R5' := R5.same sg
      generalize upd H5 g1 (.lst [.ref d1, .ref dx]) = HG at sg B1 Bx R5' ⊢
      refine ⟨_, rfl, _, rfl, d1, dx, T1, Tx, p1, px, r1, rx, rfl, B1, Bx, sh1.ok, shx.ok, b1, rsx, fun H6 e6 T6 p6 r6 s6 R6 rb6 sh6 hv6 => ?_⟩
      refine ⟨_, rfl, _, rfl, dx, d1, Tx, T1, px, p1, rx, r1, rfl, Bx.same s6, B1.same s6, shx.ok, sh1.ok, rsx, b1, fun H7 e7 T7 p7 r7 s7 R7 rb7 sh7 hv7 => ?_⟩
      refine ⟨_, rfl, _, rfl, d1, dx, T1, Tx, p1, px, r1, rx, rfl, (B1.same s6).same s7, (Bx.same s6).same s7, sh1.ok, shx.ok, b1, rsx, fun H8 e8 T8 p8 r8 s8 R8 rb8 sh8 hv8 => ?_⟩
      obtain ⟨rfl, rfl, rfl⟩ := short_one sh6 sh5 fun x => (hv6 x).trans (hv5 x).symm
      obtain ⟨rfl, rfl, rfl⟩ := short_one sh7 sh6 fun x => by rw [hv7 x, hv6 x]; exact Int.add_comm _ _
      obtain ⟨rfl, rfl, rfl⟩ := short_one sh8 sh7 fun x => by rw [hv8 x, hv7 x]; exact Int.add_comm _ _
      refine ⟨(by show 3 ≤ sizeLine; decide), fun tl ntl => ?_⟩
      have st := same_upd (o := .lst [.ref e6, .ref e7, .ref e8]) ntl
      obtain ⟨c1, c2, c3, c4⟩ := shw3 (rD_shw sh8.ok rb8) (rD_shw sh8.ok rb8) (rD_shw sh8.ok rb8)
      have q6 := ((R6.same s7).same s8).same st
      have q7 := (R7.same s8).same st
      have q8 := R8.same st
      refine ⟨_, rfl, tl, .list [rD T8 p8 r8, rD T8 p8 r8, rD T8 p8 r8], rfl, .lst (SqL.of upd_same) (.cons q6.dp (.cons q7.dp (.cons q8.dp .nil))), c1, c2, c3, c4, ?_⟩
      have h5 := ((((R5'.same s6).same s7).same s8).same st)
      have v1 := ((((B1.same s6).same s7).same s8).same st)
      have vx := ((((Bx.same s6).same s7).same s8).same st)
      generalize upd H8 tl (.lst [.ref e6, .ref e7, .ref e8]) = HT at st h5 v1 vx q6 q7 q8 ⊢
      refine ⟨_, rfl, (by show 1 ≤ sizeLine; decide), fun z nz => ?_⟩
      have sz := same_upd (o := .lst [.ref e5]) nz
      refine ⟨z, 3, _, rfl, rfl, upd_same, by decide, by decide, (by show 1 * 3 ≤ sizeLine; decide), fun q nq => ?_⟩
      have sq := same_upd (o := .lst (List.replicate (Int.toNat 3) [V.ref e5]).flatten) nq
      have h6 := (h5.same sz).same sq
      refine ⟨q, .list [rD T8 p8 r8, rD T8 p8 r8, rD T8 p8 r8], rfl, .lst (SqL.of upd_same) (.cons h6.dp (.cons h6.dp (.cons h6.dp .nil))), c1, c2, c3, c4, rfl, _, rfl, iteNP rfl ?_⟩
      have v1 := (v1.same sz).same sq
      have vx := (vx.same sz).same sq
      generalize upd (upd HT z (.lst [.ref e5])) q (.lst (List.replicate (Int.toNat 3) [V.ref e5]).flatten) = HQ at sq v1 vx ⊢
      refine ⟨_, rfl, _, rfl, (by show 2 ≤ sizeLine; decide), fun g2 ng2 => ?_⟩
      have sg2 := same_upd (o := .lst [.ref d1, .ref dx]) ng2
      refine ⟨g2, .list [rD T1 p1 r1, rD Tx px rx], rfl, .lst (SqL.of upd_same) (.cons (v1.same sg2).dp (.cons (vx.same sg2).dp .nil)), a1, a2, a3, a4, _, rfl, rfl, _, rfl, iteNP rfl ?_⟩
      exact ⟨s'.trans (s5.trans (sg.trans (s6.trans (s7.trans (s8.trans (st.trans (sz.trans (sq.trans sg2)))))))), _, _, _, _, rfl⟩
    · rintro σ H' ⟨s', w9, w10, w11, w12, rfl⟩
      exact ⟨nD, _, _, _, _, _, _, _, _, _, _, _, rfl, DF.same s', by omega, by omega⟩
  · rintro σ H' ⟨n, v2, v3, v4, v5, v6, v7, v8, v9, v10, v11, v12, rfl, D2, n0, n1⟩
    exact kk _
end
end Sm

set_option Elab.async false
set_option linter.all false
set_option maxRecDepth 100000
set_option maxHeartbeats 16000000
namespace Sm
open PySem PySem.Spec PyProof.Rows L2
theorem all_mk {l : PySem.W.OpenLaw} {w : World} {K : PySem.W.Frag} {h : Heap} {mg : Str → Option Value} {fa : Addr} (X : K.In h) (G : h.Ns mainGlobals mg) (hfa : mg "law" = some (.ref fa))
    {F_shortest : Addr} {od_shortest an_shortest : Option Addr} {sl_shortest : Array (Option Value)} {oc_shortest kV_shortest dc_shortest pm_shortest cd_shortest ct_shortest : Value} (a_shortest : PySem.W.nsIn K mainGlobals "shortest" = some (some (.ref F_shortest))) (l_shortest : K.lookup F_shortest = some ⟨oc_shortest, od_shortest, .func (PySem.W.fnOf "shortest" "shortest" (defArgs s_shortest) (defBody s_shortest) (defScope s_shortest) .none kV_shortest dc_shortest pm_shortest an_shortest cd_shortest ct_shortest), sl_shortest⟩) (c_shortest : PySem.W.codeIn K cd_shortest "shortest" = true) (k_shortest : PySem.W.keepIn K (.ref F_shortest) = true)
    {F_cycle_of : Addr} {od_cycle_of an_cycle_of : Option Addr} {sl_cycle_of : Array (Option Value)} {oc_cycle_of kV_cycle_of dc_cycle_of pm_cycle_of cd_cycle_of ct_cycle_of : Value} (a_cycle_of : PySem.W.nsIn K mainGlobals "cycle_of" = some (some (.ref F_cycle_of))) (l_cycle_of : K.lookup F_cycle_of = some ⟨oc_cycle_of, od_cycle_of, .func (PySem.W.fnOf "cycle_of" "cycle_of" (defArgs s_cycle_of) (defBody s_cycle_of) (defScope s_cycle_of) .none kV_cycle_of dc_cycle_of pm_cycle_of an_cycle_of cd_cycle_of ct_cycle_of), sl_cycle_of⟩) (c_cycle_of : PySem.W.codeIn K cd_cycle_of "cycle_of" = true) (k_cycle_of : PySem.W.keepIn K (.ref F_cycle_of) = true)
    {F_told : Addr} {od_told an_told : Option Addr} {sl_told : Array (Option Value)} {oc_told kV_told dc_told pm_told cd_told ct_told : Value} (a_told : PySem.W.nsIn K mainGlobals "told" = some (some (.ref F_told))) (l_told : K.lookup F_told = some ⟨oc_told, od_told, .func (PySem.W.fnOf "told" "told" (defArgs s_told) (defBody s_told) (defScope s_told) .none kV_told dc_told pm_told an_told cd_told ct_told), sl_told⟩) (c_told : PySem.W.codeIn K cd_told "told" = true) (k_told : PySem.W.keepIn K (.ref F_told) = true)
    {F_check_told : Addr} {od_check_told an_check_told : Option Addr} {sl_check_told : Array (Option Value)} {oc_check_told kV_check_told dc_check_told pm_check_told cd_check_told ct_check_told : Value} (a_check_told : PySem.W.nsIn K mainGlobals "check_told" = some (some (.ref F_check_told))) (l_check_told : K.lookup F_check_told = some ⟨oc_check_told, od_check_told, .func (PySem.W.fnOf "check_told" "check_told" (defArgs s_check_told) (defBody s_check_told) (defScope s_check_told) .none kV_check_told dc_check_told pm_check_told an_check_told cd_check_told ct_check_told), sl_check_told⟩) (c_check_told : PySem.W.codeIn K cd_check_told "check_told" = true) (k_check_told : PySem.W.keepIn K (.ref F_check_told) = true)
    {F_values_to : Addr} {od_values_to an_values_to : Option Addr} {sl_values_to : Array (Option Value)} {oc_values_to kV_values_to dc_values_to pm_values_to cd_values_to ct_values_to : Value} (a_values_to : PySem.W.nsIn K mainGlobals "values_to" = some (some (.ref F_values_to))) (l_values_to : K.lookup F_values_to = some ⟨oc_values_to, od_values_to, .func (PySem.W.fnOf "values_to" "values_to" (defArgs s_values_to) (defBody s_values_to) (defScope s_values_to) .none kV_values_to dc_values_to pm_values_to an_values_to cd_values_to ct_values_to), sl_values_to⟩) (c_values_to : PySem.W.codeIn K cd_values_to "values_to" = true) (k_values_to : PySem.W.keepIn K (.ref F_values_to) = true)
    {F_begin_of : Addr} {od_begin_of an_begin_of : Option Addr} {sl_begin_of : Array (Option Value)} {oc_begin_of kV_begin_of dc_begin_of pm_begin_of cd_begin_of ct_begin_of : Value} (a_begin_of : PySem.W.nsIn K mainGlobals "begin_of" = some (some (.ref F_begin_of))) (l_begin_of : K.lookup F_begin_of = some ⟨oc_begin_of, od_begin_of, .func (PySem.W.fnOf "begin_of" "begin_of" (defArgs s_begin_of) (defBody s_begin_of) (defScope s_begin_of) .none kV_begin_of dc_begin_of pm_begin_of an_begin_of cd_begin_of ct_begin_of), sl_begin_of⟩) (c_begin_of : PySem.W.codeIn K cd_begin_of "begin_of" = true) (k_begin_of : PySem.W.keepIn K (.ref F_begin_of) = true)
    {F_rise_in : Addr} {od_rise_in an_rise_in : Option Addr} {sl_rise_in : Array (Option Value)} {oc_rise_in kV_rise_in dc_rise_in pm_rise_in cd_rise_in ct_rise_in : Value} (a_rise_in : PySem.W.nsIn K mainGlobals "rise_in" = some (some (.ref F_rise_in))) (l_rise_in : K.lookup F_rise_in = some ⟨oc_rise_in, od_rise_in, .func (PySem.W.fnOf "rise_in" "rise_in" (defArgs s_rise_in) (defBody s_rise_in) (defScope s_rise_in) .none kV_rise_in dc_rise_in pm_rise_in an_rise_in cd_rise_in ct_rise_in), sl_rise_in⟩) (c_rise_in : PySem.W.codeIn K cd_rise_in "rise_in" = true) (k_rise_in : PySem.W.keepIn K (.ref F_rise_in) = true)
    {F_common_turn : Addr} {od_common_turn an_common_turn : Option Addr} {sl_common_turn : Array (Option Value)} {oc_common_turn kV_common_turn dc_common_turn pm_common_turn cd_common_turn ct_common_turn : Value} (a_common_turn : PySem.W.nsIn K mainGlobals "common_turn" = some (some (.ref F_common_turn))) (l_common_turn : K.lookup F_common_turn = some ⟨oc_common_turn, od_common_turn, .func (PySem.W.fnOf "common_turn" "common_turn" (defArgs s_common_turn) (defBody s_common_turn) (defScope s_common_turn) .none kV_common_turn dc_common_turn pm_common_turn an_common_turn cd_common_turn ct_common_turn), sl_common_turn⟩) (c_common_turn : PySem.W.codeIn K cd_common_turn "common_turn" = true) (k_common_turn : PySem.W.keepIn K (.ref F_common_turn) = true)
    {F_sum_rule : Addr} {od_sum_rule an_sum_rule : Option Addr} {sl_sum_rule : Array (Option Value)} {oc_sum_rule kV_sum_rule dc_sum_rule pm_sum_rule cd_sum_rule ct_sum_rule : Value} (a_sum_rule : PySem.W.nsIn K mainGlobals "sum_rule" = some (some (.ref F_sum_rule))) (l_sum_rule : K.lookup F_sum_rule = some ⟨oc_sum_rule, od_sum_rule, .func (PySem.W.fnOf "sum_rule" "sum_rule" (defArgs s_sum_rule) (defBody s_sum_rule) (defScope s_sum_rule) .none kV_sum_rule dc_sum_rule pm_sum_rule an_sum_rule cd_sum_rule ct_sum_rule), sl_sum_rule⟩) (c_sum_rule : PySem.W.codeIn K cd_sum_rule "sum_rule" = true) (k_sum_rule : PySem.W.keepIn K (.ref F_sum_rule) = true)
    {F_l_deck : Addr} {od_l_deck an_l_deck : Option Addr} {sl_l_deck : Array (Option Value)} {oc_l_deck kV_l_deck dc_l_deck pm_l_deck cd_l_deck ct_l_deck : Value} (a_l_deck : PySem.W.nsIn K mainGlobals "_law_deck" = some (some (.ref F_l_deck))) (l_l_deck : K.lookup F_l_deck = some ⟨oc_l_deck, od_l_deck, .func (PySem.W.fnOf "_law_deck" "_law_deck" (defArgs s_l_deck) (defBody s_l_deck) (defScope s_l_deck) .none kV_l_deck dc_l_deck pm_l_deck an_l_deck cd_l_deck ct_l_deck), sl_l_deck⟩) (c_l_deck : PySem.W.codeIn K cd_l_deck "_law_deck" = true) (k_l_deck : PySem.W.keepIn K (.ref F_l_deck) = true)
    {F_l_draw : Addr} {od_l_draw an_l_draw : Option Addr} {sl_l_draw : Array (Option Value)} {oc_l_draw kV_l_draw dc_l_draw pm_l_draw cd_l_draw ct_l_draw : Value} (a_l_draw : PySem.W.nsIn K mainGlobals "_law_draw" = some (some (.ref F_l_draw))) (l_l_draw : K.lookup F_l_draw = some ⟨oc_l_draw, od_l_draw, .func (PySem.W.fnOf "_law_draw" "_law_draw" (defArgs s_l_draw) (defBody s_l_draw) (defScope s_l_draw) .none kV_l_draw dc_l_draw pm_l_draw an_l_draw cd_l_draw ct_l_draw), sl_l_draw⟩) (c_l_draw : PySem.W.codeIn K cd_l_draw "_law_draw" = true) (k_l_draw : PySem.W.keepIn K (.ref F_l_draw) = true)
    {F_l_value : Addr} {od_l_value an_l_value : Option Addr} {sl_l_value : Array (Option Value)} {oc_l_value kV_l_value dc_l_value pm_l_value cd_l_value ct_l_value : Value} (a_l_value : PySem.W.nsIn K mainGlobals "_law_value" = some (some (.ref F_l_value))) (l_l_value : K.lookup F_l_value = some ⟨oc_l_value, od_l_value, .func (PySem.W.fnOf "_law_value" "_law_value" (defArgs s_l_value) (defBody s_l_value) (defScope s_l_value) .none kV_l_value dc_l_value pm_l_value an_l_value cd_l_value ct_l_value), sl_l_value⟩) (c_l_value : PySem.W.codeIn K cd_l_value "_law_value" = true) (k_l_value : PySem.W.keepIn K (.ref F_l_value) = true)
    {F_l_repeats : Addr} {od_l_repeats an_l_repeats : Option Addr} {sl_l_repeats : Array (Option Value)} {oc_l_repeats kV_l_repeats dc_l_repeats pm_l_repeats cd_l_repeats ct_l_repeats : Value} (a_l_repeats : PySem.W.nsIn K mainGlobals "_law_repeats" = some (some (.ref F_l_repeats))) (l_l_repeats : K.lookup F_l_repeats = some ⟨oc_l_repeats, od_l_repeats, .func (PySem.W.fnOf "_law_repeats" "_law_repeats" (defArgs s_l_repeats) (defBody s_l_repeats) (defScope s_l_repeats) .none kV_l_repeats dc_l_repeats pm_l_repeats an_l_repeats cd_l_repeats ct_l_repeats), sl_l_repeats⟩) (c_l_repeats : PySem.W.codeIn K cd_l_repeats "_law_repeats" = true) (k_l_repeats : PySem.W.keepIn K (.ref F_l_repeats) = true)
    {F_l_least : Addr} {od_l_least an_l_least : Option Addr} {sl_l_least : Array (Option Value)} {oc_l_least kV_l_least dc_l_least pm_l_least cd_l_least ct_l_least : Value} (a_l_least : PySem.W.nsIn K mainGlobals "_law_least" = some (some (.ref F_l_least))) (l_l_least : K.lookup F_l_least = some ⟨oc_l_least, od_l_least, .func (PySem.W.fnOf "_law_least" "_law_least" (defArgs s_l_least) (defBody s_l_least) (defScope s_l_least) .none kV_l_least dc_l_least pm_l_least an_l_least cd_l_least ct_l_least), sl_l_least⟩) (c_l_least : PySem.W.codeIn K cd_l_least "_law_least" = true) (k_l_least : PySem.W.keepIn K (.ref F_l_least) = true)
    {F_l_rule : Addr} {od_l_rule an_l_rule : Option Addr} {sl_l_rule : Array (Option Value)} {oc_l_rule kV_l_rule dc_l_rule pm_l_rule cd_l_rule ct_l_rule : Value} (a_l_rule : PySem.W.nsIn K mainGlobals "_law_rule" = some (some (.ref F_l_rule))) (l_l_rule : K.lookup F_l_rule = some ⟨oc_l_rule, od_l_rule, .func (PySem.W.fnOf "_law_rule" "_law_rule" (defArgs s_l_rule) (defBody s_l_rule) (defScope s_l_rule) .none kV_l_rule dc_l_rule pm_l_rule an_l_rule cd_l_rule ct_l_rule), sl_l_rule⟩) (c_l_rule : PySem.W.codeIn K cd_l_rule "_law_rule" = true) (k_l_rule : PySem.W.keepIn K (.ref F_l_rule) = true)
    {F_l_sum : Addr} {od_l_sum an_l_sum : Option Addr} {sl_l_sum : Array (Option Value)} {oc_l_sum kV_l_sum dc_l_sum pm_l_sum cd_l_sum ct_l_sum : Value} (a_l_sum : PySem.W.nsIn K mainGlobals "_law_sum" = some (some (.ref F_l_sum))) (l_l_sum : K.lookup F_l_sum = some ⟨oc_l_sum, od_l_sum, .func (PySem.W.fnOf "_law_sum" "_law_sum" (defArgs s_l_sum) (defBody s_l_sum) (defScope s_l_sum) .none kV_l_sum dc_l_sum pm_l_sum an_l_sum cd_l_sum ct_l_sum), sl_l_sum⟩) (c_l_sum : PySem.W.codeIn K cd_l_sum "_law_sum" = true) (k_l_sum : PySem.W.keepIn K (.ref F_l_sum) = true)
    {F_l_against : Addr} {od_l_against an_l_against : Option Addr} {sl_l_against : Array (Option Value)} {oc_l_against kV_l_against dc_l_against pm_l_against cd_l_against ct_l_against : Value} (a_l_against : PySem.W.nsIn K mainGlobals "_law_against" = some (some (.ref F_l_against))) (l_l_against : K.lookup F_l_against = some ⟨oc_l_against, od_l_against, .func (PySem.W.fnOf "_law_against" "_law_against" (defArgs s_l_against) (defBody s_l_against) (defScope s_l_against) .none kV_l_against dc_l_against pm_l_against an_l_against cd_l_against ct_l_against), sl_l_against⟩) (c_l_against : PySem.W.codeIn K cd_l_against "_law_against" = true) (k_l_against : PySem.W.keepIn K (.ref F_l_against) = true)
    {F_law : Addr} {od_law an_law : Option Addr} {sl_law : Array (Option Value)} {oc_law kV_law dc_law pm_law cd_law ct_law : Value} (a_law : PySem.W.nsIn K mainGlobals "law" = some (some (.ref F_law))) (l_law : K.lookup F_law = some ⟨oc_law, od_law, .func (PySem.W.fnOf "law" "law" (defArgs s_law) (defBody s_law) (defScope s_law) .none kV_law dc_law pm_law an_law cd_law ct_law), sl_law⟩) (c_law : PySem.W.codeIn K cd_law "law" = true) (k_law : PySem.W.keepIn K (.ref F_law) = true)
    (z_abs : PySem.W.nsIn K mainGlobals "abs" = some none)
    (z_enumerate : PySem.W.nsIn K mainGlobals "enumerate" = some none)
    (z_int : PySem.W.nsIn K mainGlobals "int" = some none)
    (z_len : PySem.W.nsIn K mainGlobals "len" = some none)
    (z_list : PySem.W.nsIn K mainGlobals "list" = some none)
    (z_max : PySem.W.nsIn K mainGlobals "max" = some none)
    (z_range : PySem.W.nsIn K mainGlobals "range" = some none)
    (z_repr : PySem.W.nsIn K mainGlobals "repr" = some none)
    (z_tuple : PySem.W.nsIn K mainGlobals "tuple" = some none)
    (g_lcm : PySem.W.nsIn K mainGlobals "lcm" = some (some (.builtin "math.lcm")))
    {t_MAX_TOLD : Tok} (g_MAX_TOLD : PySem.W.nsIn K mainGlobals "MAX_TOLD" = some (some (.int 5000 t_MAX_TOLD))) :
    ∃ fd : FuncData, (∀ (s : Shared) (v : Value), BindsTo s fd ⟨[v], []⟩ [("_law_script", v)]) ∧ ∀ base : Heap, K.In base → base.Ns mainGlobals mg → FnG l.prog w K mg base 5 fa fd ["_law_script"] (sp_law K) := by
  have e := hfa.symm.trans (PySem.W.mg_of X G a_law)
  cases e
  have T : Txt mg := ⟨PySem.W.mg_none_of X G z_abs, PySem.W.mg_none_of X G z_enumerate, PySem.W.mg_none_of X G z_int, PySem.W.mg_none_of X G z_len, PySem.W.mg_none_of X G z_list, PySem.W.mg_none_of X G z_max, PySem.W.mg_none_of X G z_range, PySem.W.mg_none_of X G z_repr, PySem.W.mg_none_of X G z_tuple, PySem.W.mg_of X G g_lcm, ⟨_, PySem.W.mg_of X G g_MAX_TOLD⟩⟩
  have D_shortest : Df K mg "shortest" s_shortest ["table", "period", "rise"] := ⟨_, _, fun_mk (st := s_shortest) l_shortest c_shortest k_shortest, PySem.W.mg_of X G a_shortest, (fun_mk (st := s_shortest) l_shortest c_shortest k_shortest).binds (ps := ["table", "period", "rise"]) fun _ _ _ _ _ _ us hl => match us, hl with | [_, _, _], _ => rfl⟩
  have D_cycle_of : Df K mg "cycle_of" s_cycle_of ["items"] := ⟨_, _, fun_mk (st := s_cycle_of) l_cycle_of c_cycle_of k_cycle_of, PySem.W.mg_of X G a_cycle_of, (fun_mk (st := s_cycle_of) l_cycle_of c_cycle_of k_cycle_of).binds (ps := ["items"]) fun _ _ _ _ _ _ us hl => match us, hl with | [_], _ => rfl⟩
  have D_told : Df K mg "told" s_told ["table", "period", "rise"] := ⟨_, _, fun_mk (st := s_told) l_told c_told k_told, PySem.W.mg_of X G a_told, (fun_mk (st := s_told) l_told c_told k_told).binds (ps := ["table", "period", "rise"]) fun _ _ _ _ _ _ us hl => match us, hl with | [_, _, _], _ => rfl⟩
  have D_check_told : Df K mg "check_told" s_check_told ["number"] := ⟨_, _, fun_mk (st := s_check_told) l_check_told c_check_told k_check_told, PySem.W.mg_of X G a_check_told, (fun_mk (st := s_check_told) l_check_told c_check_told k_check_told).binds (ps := ["number"]) fun _ _ _ _ _ _ us hl => match us, hl with | [_], _ => rfl⟩
  have D_values_to : Df K mg "values_to" s_values_to ["rule", "count"] := ⟨_, _, fun_mk (st := s_values_to) l_values_to c_values_to k_values_to, PySem.W.mg_of X G a_values_to, (fun_mk (st := s_values_to) l_values_to c_values_to k_values_to).binds (ps := ["rule", "count"]) fun _ _ _ _ _ _ us hl => match us, hl with | [_, _], _ => rfl⟩
  have D_begin_of : Df K mg "begin_of" s_begin_of ["rule"] := ⟨_, _, fun_mk (st := s_begin_of) l_begin_of c_begin_of k_begin_of, PySem.W.mg_of X G a_begin_of, (fun_mk (st := s_begin_of) l_begin_of c_begin_of k_begin_of).binds (ps := ["rule"]) fun _ _ _ _ _ _ us hl => match us, hl with | [_], _ => rfl⟩
  have D_rise_in : Df K mg "rise_in" s_rise_in ["rule", "turn"] := ⟨_, _, fun_mk (st := s_rise_in) l_rise_in c_rise_in k_rise_in, PySem.W.mg_of X G a_rise_in, (fun_mk (st := s_rise_in) l_rise_in c_rise_in k_rise_in).binds (ps := ["rule", "turn"]) fun _ _ _ _ _ _ us hl => match us, hl with | [_, _], _ => rfl⟩
  have D_common_turn : Df K mg "common_turn" s_common_turn ["one", "other"] := ⟨_, _, fun_mk (st := s_common_turn) l_common_turn c_common_turn k_common_turn, PySem.W.mg_of X G a_common_turn, (fun_mk (st := s_common_turn) l_common_turn c_common_turn k_common_turn).binds (ps := ["one", "other"]) fun _ _ _ _ _ _ us hl => match us, hl with | [_, _], _ => rfl⟩
  have D_sum_rule : Df K mg "sum_rule" s_sum_rule ["one", "other"] := ⟨_, _, fun_mk (st := s_sum_rule) l_sum_rule c_sum_rule k_sum_rule, PySem.W.mg_of X G a_sum_rule, (fun_mk (st := s_sum_rule) l_sum_rule c_sum_rule k_sum_rule).binds (ps := ["one", "other"]) fun _ _ _ _ _ _ us hl => match us, hl with | [_, _], _ => rfl⟩
  have D_l_deck : Df K mg "_law_deck" s_l_deck ["_law_script"] := ⟨_, _, fun_mk (st := s_l_deck) l_l_deck c_l_deck k_l_deck, PySem.W.mg_of X G a_l_deck, (fun_mk (st := s_l_deck) l_l_deck c_l_deck k_l_deck).binds (ps := ["_law_script"]) fun _ _ _ _ _ _ us hl => match us, hl with | [_], _ => rfl⟩
  have D_l_draw : Df K mg "_law_draw" s_l_draw ["_law_deck_here", "_law_many"] := ⟨_, _, fun_mk (st := s_l_draw) l_l_draw c_l_draw k_l_draw, PySem.W.mg_of X G a_l_draw, (fun_mk (st := s_l_draw) l_l_draw c_l_draw k_l_draw).binds (ps := ["_law_deck_here", "_law_many"]) fun _ _ _ _ _ _ us hl => match us, hl with | [_, _], _ => rfl⟩
  have D_l_value : Df K mg "_law_value" s_l_value ["_law_rule_here", "_law_x"] := ⟨_, _, fun_mk (st := s_l_value) l_l_value c_l_value k_l_value, PySem.W.mg_of X G a_l_value, (fun_mk (st := s_l_value) l_l_value c_l_value k_l_value).binds (ps := ["_law_rule_here", "_law_x"]) fun _ _ _ _ _ _ us hl => match us, hl with | [_, _], _ => rfl⟩
  have D_l_repeats : Df K mg "_law_repeats" s_l_repeats ["_law_rule_here", "_law_step", "_law_more"] := ⟨_, _, fun_mk (st := s_l_repeats) l_l_repeats c_l_repeats k_l_repeats, PySem.W.mg_of X G a_l_repeats, (fun_mk (st := s_l_repeats) l_l_repeats c_l_repeats k_l_repeats).binds (ps := ["_law_rule_here", "_law_step", "_law_more"]) fun _ _ _ _ _ _ us hl => match us, hl with | [_, _, _], _ => rfl⟩
  have D_l_least : Df K mg "_law_least" s_l_least ["_law_rule_here"] := ⟨_, _, fun_mk (st := s_l_least) l_l_least c_l_least k_l_least, PySem.W.mg_of X G a_l_least, (fun_mk (st := s_l_least) l_l_least c_l_least k_l_least).binds (ps := ["_law_rule_here"]) fun _ _ _ _ _ _ us hl => match us, hl with | [_], _ => rfl⟩
  have D_l_rule : Df K mg "_law_rule" s_l_rule ["_law_deck_here", "_law_long", "_law_wide", "_law_tall"] := ⟨_, _, fun_mk (st := s_l_rule) l_l_rule c_l_rule k_l_rule, PySem.W.mg_of X G a_l_rule, (fun_mk (st := s_l_rule) l_l_rule c_l_rule k_l_rule).binds (ps := ["_law_deck_here", "_law_long", "_law_wide", "_law_tall"]) fun _ _ _ _ _ _ us hl => match us, hl with | [_, _, _, _], _ => rfl⟩
  have D_l_sum : Df K mg "_law_sum" s_l_sum ["_law_one_here", "_law_other"] := ⟨_, _, fun_mk (st := s_l_sum) l_l_sum c_l_sum k_l_sum, PySem.W.mg_of X G a_l_sum, (fun_mk (st := s_l_sum) l_l_sum c_l_sum k_l_sum).binds (ps := ["_law_one_here", "_law_other"]) fun _ _ _ _ _ _ us hl => match us, hl with | [_, _], _ => rfl⟩
  have D_l_against : Df K mg "_law_against" s_l_against ["_law_rule_here"] := ⟨_, _, fun_mk (st := s_l_against) l_l_against c_l_against k_l_against, PySem.W.mg_of X G a_l_against, (fun_mk (st := s_l_against) l_l_against c_l_against k_l_against).binds (ps := ["_law_rule_here"]) fun _ _ _ _ _ _ us hl => match us, hl with | [_], _ => rfl⟩
  have D_law : Df K mg "law" s_law ["_law_script"] := ⟨_, _, fun_mk (st := s_law) l_law c_law k_law, PySem.W.mg_of X G a_law, (fun_mk (st := s_law) l_law c_law k_law).binds (ps := ["_law_script"]) fun _ _ _ _ _ _ us hl => match us, hl with | [_], _ => rfl⟩
  refine ⟨PySem.W.fnOf "law" "law" (defArgs s_law) (defBody s_law) (defScope s_law) .none kV_law dc_law pm_law an_law cd_law ct_law, fun s v => .of_eq rfl, fun base _ _ => ?_⟩
  have C_cycle_of : Cal l.prog w K mg base "cycle_of" ["items"] 1 (sp_cycle_of K) := ok_cycle_of T D_cycle_of
  have C_check_told : Cal l.prog w K mg base "check_told" ["number"] 1 (sp_check_told K) := ok_check_told T D_check_told
  have C_values_to : Cal l.prog w K mg base "values_to" ["rule", "count"] 1 (sp_values_to K) := ok_values_to T D_values_to
  have C_begin_of : Cal l.prog w K mg base "begin_of" ["rule"] 1 (sp_begin_of K) := ok_begin_of T D_begin_of
  have C_rise_in : Cal l.prog w K mg base "rise_in" ["rule", "turn"] 1 (sp_rise_in K) := ok_rise_in T D_rise_in
  have C_l_deck : Cal l.prog w K mg base "_law_deck" ["_law_script"] 1 (sp_l_deck K) := ok_l_deck T D_l_deck
  have C_l_draw : Cal l.prog w K mg base "_law_draw" ["_law_deck_here", "_law_many"] 1 (sp_l_draw K) := ok_l_draw T D_l_draw
  have C_l_value : Cal l.prog w K mg base "_law_value" ["_law_rule_here", "_law_x"] 1 (sp_l_value K) := ok_l_value T D_l_value
  have C_shortest : Cal l.prog w K mg base "shortest" ["table", "period", "rise"] 2 (sp_shortest K) := ok_shortest T D_shortest C_cycle_of
  have C_common_turn : Cal l.prog w K mg base "common_turn" ["one", "other"] 2 (sp_common_turn K) := ok_common_turn T D_common_turn C_begin_of
  have C_l_repeats : Cal l.prog w K mg base "_law_repeats" ["_law_rule_here", "_law_step", "_law_more"] 2 (sp_l_repeats K) := ok_l_repeats T D_l_repeats C_l_value
  have C_told : Cal l.prog w K mg base "told" ["table", "period", "rise"] 3 (sp_told K) := ok_told T D_told C_check_told C_shortest
  have C_l_least : Cal l.prog w K mg base "_law_least" ["_law_rule_here"] 3 (sp_l_least K) := ok_l_least T D_l_least C_l_value C_l_repeats
  have C_sum_rule : Cal l.prog w K mg base "sum_rule" ["one", "other"] 4 (sp_sum_rule K) := ok_sum_rule T D_sum_rule C_told C_rise_in C_values_to C_common_turn
  have C_l_rule : Cal l.prog w K mg base "_law_rule" ["_law_deck_here", "_law_long", "_law_wide", "_law_tall"] 4 (sp_l_rule K) := ok_l_rule T D_l_rule C_l_least C_l_draw
  have C_l_sum : Cal l.prog w K mg base "_law_sum" ["_law_one_here", "_law_other"] 4 (sp_l_sum K) := ok_l_sum T D_l_sum C_l_least C_l_value
  have C_l_against : Cal l.prog w K mg base "_law_against" ["_law_rule_here"] 4 (sp_l_against K) := ok_l_against T D_l_against C_l_least C_l_value
  exact ok_lawG T (fun_mk (st := s_law) l_law c_law k_law) C_sum_rule C_l_sum C_l_against C_l_rule C_l_deck

end Sm
open PySem PySem.W PyProof.Rows in
set_option maxRecDepth 100000 in
set_option maxHeartbeats 0 in
theorem PySem.Challenge.cw_smallchange_k06_sums_of_rules_holds : PySem.Challenge.rw_smallchange_k06_sums_of_rules.Holds := by
  w_on; o_law; k_head; (case hw => w_witness2)
  k_fill
  refine Sm.walk_at_law (l := PySem.Challenge.rw_smallchange_k06_sums_of_rules) (k := 5) (x := "_law_script") (sp := Sm.sp_law) rfl rfl ⟨rfl, by decide, by decide⟩ (fun w h Y => PySem.W.kIn_of Y) ?F (fun _ _ a ns hl hS => ⟨a, ns, rfl, hS, hl, fun _ => rfl⟩)
  case F =>
    intro w mg fa h KX G hmg
    refine' Sm.all_mk KX G hmg ?a_shortest ?l_shortest ?c_shortest ?k_shortest ?a_cycle_of ?l_cycle_of ?c_cycle_of ?k_cycle_of ?a_told ?l_told ?c_told ?k_told ?a_check_told ?l_check_told ?c_check_told ?k_check_told ?a_values_to ?l_values_to ?c_values_to ?k_values_to ?a_begin_of ?l_begin_of ?c_begin_of ?k_begin_of ?a_rise_in ?l_rise_in ?c_rise_in ?k_rise_in ?a_common_turn ?l_common_turn ?c_common_turn ?k_common_turn ?a_sum_rule ?l_sum_rule ?c_sum_rule ?k_sum_rule ?a_l_deck ?l_l_deck ?c_l_deck ?k_l_deck ?a_l_draw ?l_l_draw ?c_l_draw ?k_l_draw ?a_l_value ?l_l_value ?c_l_value ?k_l_value ?a_l_repeats ?l_l_repeats ?c_l_repeats ?k_l_repeats ?a_l_least ?l_l_least ?c_l_least ?k_l_least ?a_l_rule ?l_l_rule ?c_l_rule ?k_l_rule ?a_l_sum ?l_l_sum ?c_l_sum ?k_l_sum ?a_l_against ?l_l_against ?c_l_against ?k_l_against ?a_law ?l_law ?c_law ?k_law ?z_abs ?z_enumerate ?z_int ?z_len ?z_list ?z_max ?z_range ?z_repr ?z_tuple ?g_lcm ?g_MAX_TOLD
    (case a_shortest => k_is)
    (case l_shortest => k_is)
    (case c_shortest => k_is)
    (case k_shortest => k_is)
    (case a_cycle_of => k_is)
    (case l_cycle_of => k_is)
    (case c_cycle_of => k_is)
    (case k_cycle_of => k_is)
    (case a_told => k_is)
    (case l_told => k_is)
    (case c_told => k_is)
    (case k_told => k_is)
    (case a_check_told => k_is)
    (case l_check_told => k_is)
    (case c_check_told => k_is)
    (case k_check_told => k_is)
    (case a_values_to => k_is)
    (case l_values_to => k_is)
    (case c_values_to => k_is)
    (case k_values_to => k_is)
    (case a_begin_of => k_is)
    (case l_begin_of => k_is)
    (case c_begin_of => k_is)
    (case k_begin_of => k_is)
    (case a_rise_in => k_is)
    (case l_rise_in => k_is)
    (case c_rise_in => k_is)
    (case k_rise_in => k_is)
    (case a_common_turn => k_is)
    (case l_common_turn => k_is)
    (case c_common_turn => k_is)
    (case k_common_turn => k_is)
    (case a_sum_rule => k_is)
    (case l_sum_rule => k_is)
    (case c_sum_rule => k_is)
    (case k_sum_rule => k_is)
    (case a_l_deck => k_is)
    (case l_l_deck => k_is)
    (case c_l_deck => k_is)
    (case k_l_deck => k_is)
    (case a_l_draw => k_is)
    (case l_l_draw => k_is)
    (case c_l_draw => k_is)
    (case k_l_draw => k_is)
    (case a_l_value => k_is)
    (case l_l_value => k_is)
    (case c_l_value => k_is)
    (case k_l_value => k_is)
    (case a_l_repeats => k_is)
    (case l_l_repeats => k_is)
    (case c_l_repeats => k_is)
    (case k_l_repeats => k_is)
    (case a_l_least => k_is)
    (case l_l_least => k_is)
    (case c_l_least => k_is)
    (case k_l_least => k_is)
    (case a_l_rule => k_is)
    (case l_l_rule => k_is)
    (case c_l_rule => k_is)
    (case k_l_rule => k_is)
    (case a_l_sum => k_is)
    (case l_l_sum => k_is)
    (case c_l_sum => k_is)
    (case k_l_sum => k_is)
    (case a_l_against => k_is)
    (case l_l_against => k_is)
    (case c_l_against => k_is)
    (case k_l_against => k_is)
    (case a_law => k_is)
    (case l_law => k_is)
    (case c_law => k_is)
    (case k_law => k_is)
    (case z_abs => k_is)
    (case z_enumerate => k_is)
    (case z_int => k_is)
    (case z_len => k_is)
    (case z_list => k_is)
    (case z_max => k_is)
    (case z_range => k_is)
    (case z_repr => k_is)
    (case z_tuple => k_is)
    (case g_lcm => k_is)
    (case g_MAX_TOLD => k_is)

