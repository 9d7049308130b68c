import PyProof.Rows.All
import Wide.All
import OpenK.AllK
import Wide.FinOn
import HandS.ForMost
import HandS.Wide
import HandS.Codes
import PyProof.ReprRoads
import HandS.Conv
import HandS.IsInst
import HandS.Style
import HandS.TupAny
import HandS.ForExc
import HandS.ExcIs
import HandS.ExcInit
import HandS.ExcField
import HandS.ExcOwn
import KE.KExcIs
import KE.KExcInit
import PyProof.ExcBaseAll.LookupError
import HandS.Lambda
import HandS.Dict
import HandS.OwnEq
import HandS.SlotsOwn
import KE.KCallOwn
import KE.KOpsOwn
import KE.KFmtOwn
import OpenK.KMeth
import PyProof.AssignAttr
import HandS.Gcd
import KE.KMathGC
import HandS.TupMul
import PySem.Challenge.RW_smallchange_k73_rules_above_and_below
set_option Elab.async false
set_option linter.all false
set_option maxRecDepth 100000
set_option maxHeartbeats 4000000
namespace Sm
open PySem PySem.Spec PyProof.Rows L2
/-! ### promises of defs where no repr is under way: as FnOk, with A's guards empty -/
structure FnG (P : Program) (w : World) (K : PySem.W.Frag) (mg : Str → Option Value) (base : Heap) (k : Nat) (f : Addr) (fd : FuncData) (ps : List Str) (sp : Sp) : Prop where
  len : ∀ vs H Q E, sp vs H Q E → vs.length = ps.length
  run : ∀ (A : Around) (outer : List Env) (s : Shared) (H : Hp) (args : Args) (us : List Value) (vs : List V) (Q : VK) (E : XK), A.guards = some [] → Room k A →
    Env0 P w K mg base A outer s H → BindsTo s fd args (ps.zip us) → Vals vs us → sp vs H Q E → codeAny (model P w) A (.call (.ref f) args) (CR CX0 outer P w H s Q E) s
section
variable {P : Program} {w : World} {K : PySem.W.Frag} {mg : Str → Option Value} {base : Heap} {k : Nat} {f : Addr} {fd : FuncData} {ps : List Str} {sp : Sp}
theorem FnG.of (F : FnOk P w K mg base CX0 k f fd ps sp) : FnG P w K mg base k f fd ps sp :=
  ⟨F.len, fun A outer s H args us vs Q E _ hr e b v h => F.run A outer s H args us vs Q E hr e b v h⟩
theorem FnG.body {x : Str} {st : Stmt} {N : List Str} (F : Fun K x x st f fd) (S : FnScope N ps (defScope st)) (len : ∀ vs H Q E, sp vs H Q E → vs.length = ps.length)
    (hb : ∀ (cdv : Value) (A : Around) (outer : List Env) (s : Shared) (H : Hp) (vs : List V) (Q : VK) (E : XK), A.guards = some [] → Room k (A.deeper (envOfC x (defScope st) s.heap.objs.size f cdv)) → sp vs H Q E →
      ∃ t, PSs (cxOf CX0 P w K mg base N x (defScope st) f cdv A outer s H E).nox (defBody st) t ∧ t { nx := fun _ H' => Q .non H', rt := Q } (start N vs) H) : FnG P w K mg base (k + 1) f fd ps sp := by
  obtain ⟨oc, od, kV, doc, pm, an, cdv, ct, osl, efd, look, code⟩ := F.ex
  subst efd
  constructor
  · exact len
  intro A outer s H args us vs Q E guard room e0 bind rel want
  have inn : K.In s.heap := e0.mod.kin.keeps fun b o e => (e0.bs b o e).1
  have nolim : s.heap.NoLimit := e0.mod.nolimit.keeps fun b o e => (e0.bs b o e).1
  refine codeAny_call_function room.depth (inn _ _ look) rfl S.co S.gen rfl (PySem.W.codeRec_of inn code) (bind _ _ _ _ ?_)
  refine wpAny_newFunctionEnv_cells S.kind ?_ ?_
  · rintro ⟨n, v⟩ there
    have := S.par n (List.of_mem_zip there).1
    cases this with
    | inl q => exact .inl q
    | inr q => exact .inr ⟨q, PySem.W.cellsFrom_some _ _ _ (.inl q)⟩
  · intro env eenv s1 laid
    subst eenv
    refine ⟨nolim.keeps laid.toInCall.keep, codeAny_func ?_⟩
    obtain ⟨t, der, goal⟩ := hb cdv A outer s H vs Q E guard (room.deeper _) want
    have I := inv_start (CX := CX0) (E := E) S room.hd e0 (len _ _ _ _ want) rel laid
    refine wpAny_mono (der.nox.run [] s1 (start N vs) H _ I goal) (fun out s' got => ?_) fun e s' got => got
    match out, got with
    | .ret u, ⟨v, σ', H', J, rv, q⟩ => exact ⟨v, H', J.os, J.bare, J.base, J.hok, rv, q⟩
    | .next, ⟨σ', H', J, q⟩ => exact ⟨V.non, H', J.os, J.bare, J.base, J.hok, rfl, q⟩
    | .brk, ⟨_, _, _, q⟩ => exact q.elim
    | .cont, ⟨_, _, _, q⟩ => exact q.elim
end
section
variable {X : Cx} {k : Nat} {f : Addr} {fd : FuncData} {ps : List Str} {sp : Sp} {x : Str} {p pos : Pos} {e : Expr} {es : List Expr} {t : TA}
theorem pe_callG (F : FnG X.prog X.w X.K X.mg X.base k f fd ps sp) (gu : X.A.guards = some []) (hr : Room k X.A) (hg : Gl X x) (hm : X.mg x = some (.ref f)) (hk : PySem.W.keepIn X.K (.ref f) = true) (hb : Binds X.K fd ps [])
    (ha : PA X (e :: es) t) (hdb : (x == ("__debug__" : Str)) = false := by decide) (he : starEach (e :: es) X.env = (false, eval e X.env) :: starEach es X.env := by rfl) (hpl : (backTo pos (starEach es X.env)).any (·.1) = false := by rfl) :
    PE X (.Call (.Name x p) (e :: es) [] pos) (tCall sp [] E0 t) := by
  constructor
  intro pins s σ H Q I want
  refine wpAny_Call_Name_kw (ld_glob I hg hm ?_ hdb)
  refine PySem.W.callWith_K (h₀ := X.base) I.ok.mod.kin hk (thn (ha.run pos pins s σ H _ I want) ?_) he hpl
  rintro us s1 ⟨vs, H1, I1, rel, q⟩
  refine ⟨I1.kIn, ?_⟩
  have q : sp vs H1 Q E0 := by
    have q : sp (vs ++ []) H1 Q E0 := q
    rw [List.append_nil] at q
    exact q
  have b := hb s1 us I1.kIn (by rw [List.append_nil, ← rel.length]; exact F.len _ _ _ _ q)
  rw [List.append_nil] at b
  refine wpAny_call (codeAny_mono (F.run X.A X.stack s1 H1 ⟨us, []⟩ us vs Q E0 gu hr I1.env0 b rel q) ?_)
  rintro (e | out) s' got
  · exact got.elim
  · match out, got with
    | .ret u, got => exact I1.after got
    | .next, got => exact got.elim
    | .brk, got => exact got.elim
    | .cont, got => exact got.elim
/-- repr of data at any depth -/
theorem call_repr_data (gu : X.A.guards = some []) (room : ∃ k, Room k X.A) : CallR X (.builtin "repr") (fun xs H Q => ∃ a d, xs = [.ref a] ∧ Dp X.K H (.ref a) d ∧ PyData.showable d = true ∧ PyData.hasDict d = false ∧ d.depth ≤ 60 ∧ d.shown.length ≤ sizeLine ∧ Q (.str d.shown) H) := by
  intro pins s σ H xs us Q I rel want
  obtain ⟨a, d, rfl, data, sh, nd, dep, len, q⟩ := want
  obtain ⟨u, rfl, ru⟩ := vals1 rel
  obtain ⟨as, reads⟩ := Dp.reads I d _ u data ru
  cases ru
  obtain ⟨k, room⟩ := room
  have un := room.un
  exact repr_of_reads' reads sh (PyData.noDict_hsm nd) gu (by omega) (fun _ _ e => e) (fun h' v tk keep => ⟨.str d.shown, H, I.kept keep, ⟨_, rfl⟩, q⟩) len
end
/-! ### the law's own call, at the caller's place -/
theorem law_at {P : Program} {w : World} {K : PySem.W.Frag} {mg mb : Str → Option Value} {k : Nat} {fa a : Addr} {fd : FuncData} {x : Str} {sp : Sp} {s₁ : Shared} {vs : List Value} {ns : List Int}
    (KX : K.In s₁.heap) (hns : s₁.heap.Ns mainGlobals mg) (hb : s₁.heap.Ns builtinsNs mb) (hbb : ∀ x : Str, x ≠ "__name__" → mb x = bootBuiltins x) (hlim : s₁.heap.NoLimit) (hg : s₁.gens = #[])
    (ha : s₁.heap.get? a = some { cls := .type "list", data := .seq vs.toArray }) (hi : IntsAre vs ns) (hl : ns.length ≤ sizeLine) (hr : Room k callerA)
    (F : ∀ base : Heap, K.In base → base.Ns mainGlobals mg → FnG P w K mg base k fa fd [x] sp) (hbind : ∀ (s : Shared) (u : Value), BindsTo s fd ⟨[u], []⟩ [(x, u)])
    (hsp : ∀ H : Hp, SqL K H a (ns.map V.int) → sp [.ref a] H (fun v _ => v = .bl true) E0) :
    codeAny (model P w) callerA (.call (.ref fa) ⟨[.ref a], []⟩) (fun r s' => r = .ok (.ret (.bool true)) ∧ OldK s₁.heap s'.heap ∧ s'.os = s₁.os ∧ AllBare s'.gens) s₁ := by
  have ivs := vals_ints hi
  -- what is tracked: the script, if the module does not hold it itself
  obtain ⟨H, seq, ok, only, free⟩ : ∃ H : Hp, SqL K H a (ns.map V.int) ∧ HOk P w H s₁.heap ∧ (∀ b u, H b = some u → b = a ∧ u = .frz { cls := .type "list", data := .seq vs.toArray } (.lst (ns.map V.int))) ∧ ∀ b u, H b = some u → K.lookup b = none := by
    cases look : K.lookup a with
    | some o =>
      have same := KX a o look
      rw [ha] at same
      injection same with same
      subst same
      have empty : ∀ {u : HO}, (none : Option HO) = some u → False := fun z => nomatch z
      refine ⟨fun _ => none, .inr ⟨_, vs.toArray, _, look, rfl, rfl, rfl, ?_, ?_⟩, fun b u z => (empty z).elim, fun b u z => (empty z).elim, fun b u z => (empty z).elim⟩
      · rw [List.size_toArray, hi.length]
        exact hl
      · simpa using ivs
    | none =>
      have at_a : ∀ b u, (fun b => if b = a then some (HO.frz { cls := .type "list", data := .seq vs.toArray } (.lst (ns.map V.int))) else none : Hp) b = some u → b = a ∧ u = .frz { cls := .type "list", data := .seq vs.toArray } (.lst (ns.map V.int)) := by
        intro b u z
        by_cases e : b = a
        · have z := (if_pos e).symm.trans z
          exact ⟨e, (Option.some.inj z).symm⟩
        · exact nomatch (if_neg e).symm.trans z
      refine ⟨_, .inl (.inr ⟨_, if_pos rfl⟩), fun b u z => ?_, at_a, fun b u z => ?_⟩
      · obtain ⟨rfl, rfl⟩ := at_a b u z
        exact ⟨ha, by rw [List.length_map]; exact hl, vs, _, ivs, ha⟩
      · rw [(at_a b u z).1]
        exact look
  have stays : ∀ {b : Addr} {o : Obj}, s₁.heap.get? b = some o → (∀ u, H b ≠ some u) → (hidT s₁.heap H).get? b = some o := fun {b o} e no => hidT_get e (by
    cases z : H b with
    | none => rfl
    | some u => exact (no u z).elim)
  have spaces : ∀ {b : Addr} {m : Str → Option Value}, s₁.heap.Ns b m → (hidT s₁.heap H).Ns b m := by
    rintro b m ⟨o, es, ep, there, data, rest⟩
    refine ⟨o, es, ep, stays there fun u z => ?_, data, rest⟩
    rw [(only b u z).1, ha] at there
    injection there with there
    subst there
    exact nomatch data
  have inn : K.In (hidT s₁.heap H) := fun b o e => stays (KX b o e) fun u z => by
    rw [free b u z] at e
    exact nomatch e
  have mod : Mod K mg (hidT s₁.heap H) := by
    obtain ⟨mc, c1, c2⟩ := hlim
    exact ⟨inn, spaces hns, ⟨mb, spaces hb, hbb⟩, mc, spaces c1, c2⟩
  have e0 : Env0 P w K mg (hidT s₁.heap H) callerA [] s₁ H := by
    refine ⟨rfl, mod, fun b o e => of_hidT e, Nat.le_of_eq (hidT_size _ _), trivial, ?_, ok, .of_eq hg⟩
    intro b q
    exact absurd q (List.not_mem_nil (a := b))
  refine codeAny_mono ((F _ inn (spaces hns)).run callerA [] s₁ H ⟨[.ref a], []⟩ [.ref a] [.ref a] _ _ rfl hr e0 (hbind s₁ (.ref a)) (.cons rfl .nil) (hsp H seq)) ?_
  rintro (e | out) s' got
  · exact got.elim
  · match out, got with
    | .next, got => exact got.elim
    | .brk, got => exact got.elim
    | .cont, got => exact got.elim
    | .ret u, ⟨v, H', os, bare, un, ok', rel, q⟩ =>
      have q : v = V.bl true := q
      subst q
      have rel : u = Value.bool true := rel
      subst rel
      refine ⟨rfl, .of_keep fun b o e => ?_, os, bare⟩
      cases z : H b with
      | none => exact un.keep b o e z (List.not_mem_nil (a := b)) (List.not_mem_nil (a := b))
      | some u =>
        obtain ⟨rfl, rfl⟩ := only b u z
        have now := (ok' _ _ (un.frzs _ _ _ z)).1
        rw [ha] at e
        injection e with e
        rw [← e]
        exact now
theorem walk_at_law {l : PySem.W.OpenLaw} {k : Nat} {q : Program} {loose : List Str} {XP : (Str → Option Value) → Heap → Prop} {YP : World → Heap → Prop} {d : DefRec} {K : Params → PySem.W.Frag} {sp : PySem.W.Frag → Sp} {x : Str}
    (hn : l.most = some 63) (hdf : d.params.defaults = []) (hr : Room k callerA) (hY : ∀ (w : World) (h : Heap), YP w h → (K w.params).In h)
    (F : ∀ (w : World) (mg : Str → Option Value) (fa : Addr) (h : Heap), (K w.params).In h → h.Ns mainGlobals mg → mg d.name = some (.ref fa) →
      ∃ fd : FuncData, (∀ (s : Shared) (u : Value), BindsTo s fd ⟨[u], []⟩ [(x, u)]) ∧ ∀ base : Heap, (K w.params).In base → base.Ns mainGlobals mg → FnG l.prog w (K w.params) mg base k fa fd [x] (sp (K w.params)))
    (hsp : ∀ (K : PySem.W.Frag) (H : Hp) (a : Addr) (ns : List Int), ns.length ≤ 63 → SqL K H a (ns.map V.int) → sp K [.ref a] H (fun v _ => v = .bl true) E0) :
    PySem.W.WalkO q loose XP YP l.row.toRowW d [] (fun f vs => PySem.call f vs) := by
  refine Att.attach_call hn hdf ?_
  intro w s₀ s₁ mg mb fa o pm cd doc a vs ns G Y ho hd hcd hmg hobj hints hlen hg
  obtain ⟨fd, bind, each⟩ := F w mg fa _ (hY w _ Y) G.T.g hmg
  exact law_at (hY w _ Y) G.T.g G.T.b G.T.builtins G.T.nolimit hg hobj hints (Nat.le_trans hlen (by decide)) hr each bind fun H sq => hsp (K w.params) H a ns hlen sq
end Sm

set_option Elab.async false
set_option linter.all false
set_option maxRecDepth 100000
set_option maxHeartbeats 4000000
namespace Sm
open PySem PySem.Spec PyProof.Rows L2
section
variable {P : Program} {w : World} {K : PySem.W.Frag} {mg : Str → Option Value} {base : Heap}
def Df (K : PySem.W.Frag) (mg : Str → Option Value) (x : Str) (st : Stmt) (ps : List Str) : Prop :=
  ∃ (f : Addr) (fd : FuncData), Fun K x x st f fd ∧ mg x = some (.ref f) ∧ Binds K fd ps []
def Cal (P : Program) (w : World) (K : PySem.W.Frag) (mg : Str → Option Value) (base : Heap) (x : Str) (ps : List Str) (k : Nat) (sp : Sp) : Prop :=
  ∃ (f : Addr) (fd : FuncData), FnOk P w K mg base CX0 k f fd ps sp ∧ mg x = some (.ref f) ∧ PySem.W.keepIn K (.ref f) = true ∧ Binds K fd ps []
theorem Df.cal {x : Str} {st : Stmt} {N ps : List Str} {k : Nat} {sp : Sp} (D : Df K mg x st ps) (S : FnScope N ps (defScope st)) (len : ∀ vs H Q E, sp vs H Q E → vs.length = ps.length)
    (hbody : ∀ (f : Addr) (cdv : Value) (A : Around) (outer : List Env) (s : Shared) (H : Hp) (vs : List V) (Q : VK) (E : XK), Room k (A.deeper (envOfC x (defScope st) s.heap.objs.size f cdv)) → sp vs H Q E →
      ∃ t, PSs (cxOf CX0 P w K mg base N x (defScope st) f cdv A outer s H E).nox (defBody st) t ∧ t { nx := fun _ H' => Q .non H', rt := Q } (start N vs) H) : Cal P w K mg base x ps (k + 1) sp := by
  obtain ⟨f, fd, F, m, b⟩ := D
  exact ⟨f, fd, F.ok S len (fun cdv A outer s H vs Q E hr h => hbody f cdv A outer s H vs Q E hr h), m, F.kp, b⟩
theorem same_upd {H : Hp} {p : Addr} {o : HO} (h : H p = none) : Same H (upd H p o) := fun b x e => by
  rw [upd_ne (ne_of_none e h)]
  exact e
theorem iteP {p A B : Prop} [Decidable p] (h : p) (a : A) : if decide p = true then A else B := by
  rw [decide_eq_true h]
  exact iteT a
theorem iteN {p A B : Prop} [Decidable p] (h : ¬ p) (b : B) : if decide p = true then A else B := by
  rw [decide_eq_false h]
  exact iteF b
theorem iteNP {p A B : Prop} [Decidable p] (h : p) (b : B) : if (!decide p) = true then A else B := by
  rw [decide_eq_true h]
  exact iteF b
theorem iteNN {p A B : Prop} [Decidable p] (h : ¬ p) (a : A) : if (!decide p) = true then A else B := by
  rw [decide_eq_false h]
  exact iteT a
theorem ite3 {p A B : Prop} [Decidable p] (h1 : p → A) (h2 : ¬ p → B) : if decide p = true then A else B := by
  by_cases h : p
  · exact iteP h (h1 h)
  · exact iteN h (h2 h)
theorem fmod_pos {a b : Int} (h : 0 < b) : a.fmod b = a % b := Int.fmod_eq_emod_of_nonneg a (by omega)
end
/-! ### the deck -/
structure Deck (H : Hp) (p l : Addr) (n : Int) : Prop where
  hp : H p = some (.lst [.ref l, .int n])
  hl : ∃ cells : List Int, H l = some (.lst (cells.map V.int)) ∧ (∀ c ∈ cells, 0 ≤ c) ∧ cells.length ≤ 63
theorem deck_ne {l : Addr} {n : Int} {cells : List Int} : HO.lst [.ref l, .int n] ≠ HO.lst (cells.map V.int) := by
  intro q
  injection q with q
  cases cells with
  | nil => cases q
  | cons c r => cases (List.cons.inj q).1
/-- all but the deck is as it was -/
def Fr (p l : Addr) (H H' : Hp) : Prop := ∀ b o, b ≠ p → b ≠ l → H b = some o → H' b = some o
theorem Fr.trans {p l : Addr} {H H1 H2 : Hp} (a : Fr p l H H1) (b : Fr p l H1 H2) : Fr p l H H2 := fun c o h1 h2 h => b c o h1 h2 (a c o h1 h2 h)
theorem Same.fr {p l : Addr} {H H' : Hp} (s : Same H H') : Fr p l H H' := fun b o _ _ h => s b o h
theorem Deck.same {H H' : Hp} {p l : Addr} {n : Int} (D : Deck H p l n) (s : Same H H') : Deck H' p l n := by
  obtain ⟨cells, hl, hc⟩ := D.hl
  exact ⟨s _ _ D.hp, cells, s _ _ hl, hc⟩
theorem Fr.tup {H H' : Hp} {p l b : Addr} {n : Int} {xs : List V} (f : Fr p l H H') (D : Deck H p l n) (h : H b = some (.tup xs)) : H' b = some (.tup xs) := by
  obtain ⟨cells, hl, hc⟩ := D.hl
  exact f b _ (ne_of h D.hp (by intro q; cases q)) (ne_of h hl (by intro q; cases q)) h
def sp_l_deck (K : PySem.W.Frag) : Sp := fun vs H Q _ => ∃ (a : Addr) (ns : List Int), vs = [.ref a] ∧ SqL K H a (ns.map V.int) ∧ ns.length ≤ 63 ∧ ∀ H' p l, Same H H' → Deck H' p l 0 → Q (.ref p) H'
def sp_l_draw (K : PySem.W.Frag) : Sp := fun vs H Q _ => ∃ (p l : Addr) (n m : Int), vs = [.ref p, .int m] ∧ Deck H p l n ∧ 0 ≤ n ∧ n ≤ 1000000 ∧ 0 < m ∧ m ≤ 1000000000000000000000000000000000000000000000000000000000000 ∧
  ∀ r H', 0 ≤ r → r < m → Fr p l H H' → Deck H' p l (n + 1) → Q (.int r) H'
def sp_l_one (K : PySem.W.Frag) : Sp := fun vs H Q _ => ∃ (p l b : Addr) (n : Int) (xs : List V), vs = [.ref p, .ref b] ∧ Deck H p l n ∧ 0 ≤ n ∧ n ≤ 1000000 ∧ H b = some (.lst xs) ∧ b ≠ p ∧ b ≠ l ∧ 0 < xs.length ∧ xs.length ≤ 1000 ∧
  ∀ x H', x ∈ xs → Fr p l H H' → Deck H' p l (n + 1) → Q x H'
theorem cut63 {ns : List Int} (h : ns.length ≤ 63) : cutV (ns.map V.int) none (some 63) = ns.map V.int := by
  unfold cutV
  rw [HT.sIx_none, show HT.sIx (ns.map V.int).length (ns.map V.int).length (some 63) = min 63 (ns.map V.int).length from HT.sIx_nat _ _ 63]
  rw [List.length_map, Nat.min_eq_right h, List.drop_zero]
  exact List.take_of_length_le (by rw [List.length_map]; omega)
def absI (n : Int) : Int := if n < 0 then -n else n
theorem absI_pos (n : Int) : 0 ≤ absI n := by
  unfold absI
  split <;> omega
theorem div_draw {c m : Int} (h0 : 0 < m) (h : m ≤ 1000000000000000000000000000000000000000000000000000000000000) : CDivW c m :=
  wide_div (b := 300) h0 (by omega) (by decide) (by decide)
theorem cut_all {xs : List V} {n : Nat} : cutV xs none (some (n : Int)) = xs.take n := by
  unfold cutV
  rw [HT.sIx_none, HT.sIx_nat, List.drop_zero, Nat.sub_zero]
  rcases Nat.le_total n xs.length with h | h
  · rw [Nat.min_eq_left h]
  · rw [Nat.min_eq_right h, List.take_length, List.take_of_length_le h]
theorem ne_new {H : Hp} {p b : Addr} {o : HO} (h : H p = some o) (n : H b = none) : b ≠ p := (ne_of_none h n).symm
/-- what the deck's second list is not -/
theorem Deck.lne {H : Hp} {p l b : Addr} {n : Int} (D : Deck H p l n) (h : H b = none) : b ≠ p ∧ b ≠ l := by
  obtain ⟨cells, hl, hc⟩ := D.hl
  exact ⟨ne_new D.hp h, ne_new hl h⟩
section
variable {X : Cx}
/-- repr of an int or None -/
theorem call_repr_some : CallR X (.builtin "repr") (fun xs H Q => (∃ i, xs = [.int i] ∧ i.natAbs.log2 < 1920 ∧ Q (.str (toString i)) H) ∨ (xs = [.non] ∧ Q (.str "None") H)) := by
  intro pins s σ H xs us Q I r h
  rcases h with ⟨i, rfl, hz, q⟩ | ⟨rfl, q⟩
  · obtain ⟨u, rfl, t, rfl⟩ := vals1 r
    exact PySem.P.repr_of_int hz ⟨.str _, H, I.tok _, ⟨_, rfl⟩, q⟩
  · obtain ⟨u, rfl, rfl⟩ := vals1 r
    exact PySem.P.repr_of_none ⟨.str _, H, I.tok _, ⟨_, rfl⟩, q⟩
def dataI (ns : List Int) : PyData := .list (ns.map PyData.int)
theorem dp_ints {K : PySem.W.Frag} {H : Hp} : ∀ ns : List Int, DpAll K H (ns.map V.int) (ns.map PyData.int)
  | [] => .nil
  | n :: ns => .cons (.int n) (dp_ints ns)
theorem showable_ints : ∀ {ns : List Int}, (∀ n ∈ ns, n.natAbs.log2 < 1920) → PyData.showableAll (ns.map PyData.int) = true
  | [], _ => rfl
  | n :: ns, h => by
    have a := h n (List.mem_cons_self ..)
    have b := showable_ints (ns := ns) fun m hm => h m (List.mem_cons_of_mem _ hm)
    simp only [List.map_cons, PyData.showableAll, PyData.showable, decide_eq_true a, b, Bool.and_self]
theorem hasDict_ints : ∀ ns : List Int, PyData.hasDictAll (ns.map PyData.int) = false
  | [] => rfl
  | n :: ns => by
    simp only [List.map_cons, PyData.hasDictAll, PyData.hasDict, hasDict_ints ns, Bool.or_self]
theorem depth_ints : ∀ ns : List Int, PyData.depthAll (ns.map PyData.int) ≤ 1
  | [] => by simp [PyData.depthAll]
  | n :: ns => by
    have := depth_ints ns
    simp only [List.map_cons, PyData.depthAll, PyData.depth]
    omega
theorem shown_ints : ∀ {ns : List Int}, (∀ n ∈ ns, n.natAbs.log2 < 1920) → ((PyData.shownAll (ns.map PyData.int)).map (·.length)).sum ≤ 1921 * ns.length ∧ (PyData.shownAll (ns.map PyData.int)).length = ns.length
  | [], _ => by simp [PyData.shownAll]
  | n :: ns, h => by
    have a := PyProof.Rows.int_text_len_1921 (h n (List.mem_cons_self ..))
    obtain ⟨b, c⟩ := shown_ints (ns := ns) fun m hm => h m (List.mem_cons_of_mem _ hm)
    simp only [List.map_cons, PyData.shownAll, PyData.shown, List.sum_cons, List.length_cons]
    omega
/-- repr of a list of ints -/
theorem call_repr_ints (gu : X.A.guards = some []) (room : ∃ k, Room k X.A) : CallR X (.builtin "repr") (fun xs H Q => ∃ a ns, xs = [.ref a] ∧ SqL X.K H a (ns.map V.int) ∧ ns.length ≤ 5000 ∧ (∀ n ∈ ns, n.natAbs.log2 < 1920) ∧ Q (.str (dataI ns).shown) H) := by
  intro pins s σ H xs us Q I r h
  obtain ⟨a, ns, rfl, hS, len, small, q⟩ := h
  refine call_repr_data gu room pins s σ H _ us Q I r ⟨a, dataI ns, rfl, .lst hS (dp_ints ns), ?_, ?_, ?_, ?_, q⟩
  · unfold dataI
    simp only [PyData.showable, showable_ints small]
  · unfold dataI
    simp only [PyData.hasDict, hasDict_ints]
  · have := depth_ints ns
    unfold dataI
    simp only [PyData.depth]
    omega
  · obtain ⟨s1, s2⟩ := shown_ints small
    have := listText_len_le (PyData.shownAll (ns.map PyData.int))
    unfold dataI
    simp only [PyData.shown]
    rw [sizeLine_eq]
    omega
end
end Sm

set_option Elab.async false
set_option linter.all false
set_option maxRecDepth 100000
set_option maxHeartbeats 4000000
namespace Sm
open PySem PySem.Spec PyProof.Rows L2
/-- isinstance of the exception that the suite holds, with its dict: one class, or a tuple of classes just laid -/
def rIsX (K : PySem.W.Frag) (cls : Value) (d : Option Addr) (a : Addr) : List V → Hp → VK → Prop := fun xs H Q => ∃ (D dd : Addr) (fs : List (Str × V)), cls = .ref D ∧ d = some dd ∧ H dd = some (.xd fs) ∧ ExcC K D ∧
  ((∃ (c : V) (cv : Value) (b : Bool), xs = [.ref a, c] ∧ ClsV c cv ∧ PySem.W.kitOne K (.ref D) cv = some b ∧ Q (.bl b) H) ∨
   ∃ (tp : Addr) (cs : List V) (us : List Value) (b : Bool), xs = [.ref a, .ref tp] ∧ H tp = some (.tup cs) ∧ Paired ClsV cs us ∧ PySem.W.kitAny K (.ref D) us = some b ∧ Q (.bl b) H)
theorem call_isX {X : Cx} {a : Addr} {cls : Value} {d : Option Addr} {oe : Obj} {pn : List (Addr × Obj)} (hz : Zc cls d oe) (hf : ∃ vs, oe.data = .fields vs) : CallR (X.suite a ((a, oe) :: pn)) (.builtin "isinstance") (rIsX X.K cls d a) := by
  intro pins s σ H xs us Q I r h
  obtain ⟨D, dd, fs, rfl, rfl, ea, C, h⟩ := h
  obtain ⟨ha, _⟩ := I.pin (a, oe) (List.mem_append_left _ List.mem_cons_self)
  obtain ⟨vs, hd⟩ := hf
  have hx : ObjOk X.prog X.w H s.heap dd (.xd fs) := I.hok dd _ ea
  obtain ⟨mA, hns, hr⟩ := hx
  obtain ⟨od, ho, hl⟩ := lookIn_ns hns
  have J : PySem.W.InstAt s.heap a oe D (some od) := ⟨ha, hz.1, by unfold PySem.W.notCls; rw [hd] <;> rfl, by rw [hz.2]; exact ho⟩
  obtain ⟨cd, hc, _⟩ := PySem.W.any_some C.hd
  have Z := PySem.W.kitx_exc (x := a) (ox := oe) (od := some od) (by rw [hc]; rfl) C.hg C.hk C.hs C.ha C.hn C.ht C.hm
  rcases h with ⟨c, cv, b, rfl, k, e, q⟩ | ⟨tp, cs, ws, b, rfl, hT, k, e, q⟩
  · obtain ⟨u1, u2, rfl, r1, r2⟩ := vals2 r
    cases (show u1 = Value.ref a from r1)
    cases k.eq r2
    exact PySem.W.kia_one Z I.kIn J e (fun z => nomatch z) fun tk => ⟨.bl b, H, I.kept (t' := tk) fun _ _ z => z, rfl, q⟩
  · obtain ⟨u1, u2, rfl, r1, r2⟩ := vals2 r
    cases (show u1 = Value.ref a from r1)
    cases (show u2 = Value.ref tp from r2)
    obtain ⟨_, its, rv, o, h1, h2, n, h3⟩ := (show ObjOk X.prog X.w H s.heap tp (.tup cs) from I.hok tp _ hT)
    have e3 := ClsV.all k rv
    subst e3
    obtain ⟨oc, od', dt, sl⟩ := o
    simp only at h2 h3
    subst h2 h3
    exact PySem.W.kia_tup Z I.kIn J h1 e (fun z => nomatch z) fun tk => ⟨.bl b, H, I.kept (t' := tk) fun _ _ z => z, rfl, q⟩
theorem kit_own {K : PySem.W.Frag} {D C : Addr} {b : Bool} (h1 : PySem.W.isClsIn K C = true) (h2 : PySem.W.typeIn K (.ref C) = some (.type "type")) (h3 : PySem.W.subIn K (.ref D) (.ref C) = some b) (h4 : PySem.W.subIn K (.ref D) (.ref D) = some true) : PySem.W.kitOne K (.ref D) (.ref C) = some b := by
  unfold PySem.W.kitOne
  by_cases e : D = C
  · subst e
    rw [h4] at h3
    rw [if_pos (beq_self_eq_true _)]
    exact h3
  · rw [if_neg (fun q => e (Value.ref.inj (beq_iff_eq.mp q)))]
    have h1' : (PySem.W.clsIn K C).isSome = true := h1
    have z : ((PySem.W.clsIn K C).isSome && PySem.W.typeIn K (.ref C) == some (.type "type")) = true := by rw [h1', h2] <;> rfl
    show (if ((PySem.W.clsIn K C).isSome && PySem.W.typeIn K (.ref C) == some (.type "type")) = true then PySem.W.subIn K (.ref D) (.ref C) else none) = some b
    rw [if_pos z]
    exact h3
theorem kit_valerr {K : PySem.W.Frag} {D : Addr} {b : Bool} (h : PySem.W.subIn K (.ref D) (.type "ValueError") = some b) : PySem.W.kitOne K (.ref D) (.type "ValueError") = some b := by
  have q : ((Value.ref D) == (Value.type "ValueError")) = false := beq_eq_false_iff_ne.mpr fun z => nomatch z
  unfold PySem.W.kitOne
  rw [if_neg (by rw [q]; exact Bool.false_ne_true)]
  show (if PySem.W.kitMeta "ValueError" = true then PySem.W.subIn K (.ref D) (.type "ValueError") else none) = some b
  rw [if_pos (by decide +kernel)]
  exact h
theorem kit_cons_false {K : PySem.W.Frag} {t c : Value} {cs : List Value} {b : Bool} (h : PySem.W.kitOne K t c = some false) (hr : PySem.W.kitAny K t cs = some b) : PySem.W.kitAny K t (c :: cs) = some b := by
  unfold PySem.W.kitAny
  rw [h]
  exact hr
/-- an own exception class with one field, made by its own __init__ -/
structure XcTxt (K : PySem.W.Frag) (mg : Str → Option Value) (nm fl : Str) (C fI : Addr) : Prop where
  g : mg nm = some (.ref C)
  oex : OexC K C
  no : PySem.W.findIn K (.ref C) fl = some none
  iC : PySem.W.findIn K (.ref C) "__init__" = some (some (.ref fI))
  tI : PySem.W.typeIn K (.ref fI) = some (.type "function")
  xf : XfC K C
  ec : ExcC K C
/-- C(e), told plainly: the new exception's dict holds the field -/
def tMkF (C : Addr) (fl : Str) (ta : TA) : L2.St → Hp → XK → Prop := fun σ H Q => ta σ H fun vs H1 => ∃ v, vs = [v] ∧ ∀ d, H1 d = none → Q (.ref C) (some d) (upd H1 d (.xd [(fl, v)]))
def sp_init (K : PySem.W.Frag) (fl : Str) : Sp := fun vs H Q _ => ∃ (a C : Addr) (v : V), vs = [.ref a, v] ∧ OexC K C ∧ PySem.W.findIn K (.ref C) fl = some none ∧ H a = some (exo a C none) ∧ ∀ dx, H dx = none → dx ≠ a → Q .non (upd (upd H dx (exd dx [(fl, v)])) a (exo a C (some dx)))
theorem xc_mk {C : Addr} {fl : Str} {K : PySem.W.Frag} {ta : TA} {σ : L2.St} {H : Hp} {Q : XK} (T : OexC K C) (no : PySem.W.findIn K (.ref C) fl = some none)
    (h : ta σ H fun vs H1 => ∃ v, vs = [v] ∧ ∀ d H2, Same H1 H2 → H2 d = some (.xd [(fl, v)]) → Q (.ref C) (some d) H2) (mono : ∀ {A B : List V → Hp → Prop}, (∀ vs H1, A vs H1 → B vs H1) → ta σ H A → ta σ H B) : tMkO C (sp_init K fl) [] ta σ H Q := by
  refine mono ?_ h
  rintro vs H1 ⟨v, rfl, k⟩
  refine ⟨by show 1 ≤ 1000; decide, fun a na => ⟨a, C, v, rfl, T, no, upd_same, fun dx nd da => ⟨rfl, dx, [(fl, v)], upd_same, ?_, ?_, ?_⟩⟩⟩
  · rw [upd_ne da, upd_same]
  · rw [upd_ne da] at nd
    exact nd
  · have nd1 : H1 dx = none := by
      rw [upd_ne da] at nd
      exact nd
    refine k dx _ (fun b o hb => ?_) upd_same
    rw [upd_ne (ne_of_none hb nd1), del_ne (ne_of_none hb na), upd_ne (ne_of_none hb na), upd_ne (ne_of_none hb nd1), upd_ne (ne_of_none hb na)]
    exact hb
end Sm

set_option Elab.async false
set_option linter.all false
set_option maxRecDepth 100000
set_option maxHeartbeats 4000000
namespace Sm
open PySem PySem.Spec PyProof.Rows L2
/-! ### own exception classes over LookupError, whose __init__ stores one field -/
abbrev luTail : List Value := [.type "LookupError", .type "Exception", .type "BaseException", .type "object"]
/-- what the written part says of such a class -/
structure OexL (K : PySem.W.Frag) (C : Addr) : Prop where
  obj : ∃ nm q N bs bm sn sub ab col dd k0 k1 k2 k3 k5, K.lookup C = some (excClassObj nm q C N bs bm true sn sub ab col dd k0 k1 k2 k3 k5 "LookupError.__new__") ∧ PySem.W.excTail luTail bm = true
  facts : PySem.W.findIn K (.ref C) "__setattr__" = some (some (.builtin "object.__setattr__")) ∧ PySem.W.subIn K (.ref C) (.type "BaseException") = some true ∧ PySem.W.typeIn K (.ref C) = some (.type "type") ∧ PySem.W.keepIn K (.ref C) = true
section
open Builtin Builtin.ObjectAttr
variable {prog : Program} {w : World} {A : Around} {hp : Heap} {g : Array GenState} {dw : Drawn} {t : Nat} {os : OsState} {R : Result → Shared → Prop}
/-- object.__setattr__(x, name, v), x an exception without a dict whose class stands over a built-in one -/
theorem lu_store {K : PySem.W.Frag} {B : String} {bmB : List Value} {name : Str} {tk : Tok} {v : Value} {x C : Addr} {fv : Array Value} {cd : ClassData} (SF : StoreFacts B bmB "object.__setattr__" "object")
    (kin : K.In hp) (there : hp.get? x = some { cls := .ref C, data := .fields fv }) (known : PySem.W.clsIn K C = some cd) (over : PySem.W.excOver K C bmB = true) (dict : cd.hasDict = true) (no : PySem.W.findIn K (.ref C) name = some none)
    (told : ∀ h' tk' dx, (∀ b o, b ≠ x → hp.get? b = some o → h'.get? b = some o) → hp.objs.size ≤ dx → dx ≠ x → h'.get? x = some { cls := .ref C, dict := some dx, data := .fields fv } → h'.Ns1 dx (fun y => if y = name then some v else none) → R (.ok (.ret .none)) ⟨h', g, dw, tk', os⟩) :
    codeAny (model prog w) A (.call (.builtin "object.__setattr__") ⟨[.ref x, .str name tk, v], []⟩) R ⟨hp, g, dw, t, os⟩ := by
  have at_ : PySem.W.InstAt hp x { cls := .ref C, data := .fields fv } C none := ⟨there, rfl, rfl, trivial⟩
  have taker : PySem.W.takerIn K C name = some none := by unfold PySem.W.takerIn; rw [no]; rfl
  refine PySem.W.osa_openX (s := ⟨hp, g, dw, t, os⟩) SF kin at_ over taker fun b => ?_
  have apart : x ≠ hp.objs.size := Nat.ne_of_lt (Heap.lt_size there)
  have kls : PySem.W.Looks (model prog w) hp (classData C) cd := PySem.W.looks_clsIn kin known
  show wpAny _ _ (storeInOwnDict (.ref x) (.ref C) (.str name tk) name v b) _ _ _
  obtain ⟨n1, n2, n3, n4, n5, hd, n6, n7, n8, n9, n10⟩ := cd
  dsimp only at dict
  subst dict
  unfold storeInOwnDict ownDictForStores
  repeat (first | with_reducible refine PySem.HandSPX.store_in_new ?_ ?_ | with_reducible refine wpAny_loadPart_at there ?_ | with_reducible refine kls.at ?_ | wp_step)
  · exact ⟨_, #[], _, (Heap.get?_update_ne _ _ _ _ apart.symm).trans (Heap.get?_push_at rfl rfl), rfl, fun e he => absurd he (by simp), fun _ => rfl⟩
  · intro h' tk' names same
    have on : (hp.push { cls := .type "dict", data := .dict #[] }).get? x = some { cls := .ref C, data := .fields fv } := Heap.get?_push_of_some _ there
    refine told h' tk' hp.objs.size (fun b o hb ho => (same.2 b (Nat.ne_of_lt (Heap.lt_size ho))).trans ((Heap.get?_update_ne _ _ _ _ hb).trans (Heap.get?_push_of_some _ ho))) (Nat.le_refl _) apart.symm ((same.2 x apart).trans (Heap.get?_update_self _ on rfl)) names
end
/-- the abstract heap once the first field of the exception at a stands in its new dict at dx -/
theorem lu_un {fs : List Addr} {H : Hp} {hp h' : Heap} {a C dx : Addr} {f : Str} {y : V} (ea : H a = some (exo a C none)) (dn : hp.objs.size ≤ dx) (nd : H dx = none) (there : ∃ o, h'.get? a = some o)
    (keep : ∀ b o, b ≠ a → hp.get? b = some o → h'.get? b = some o) : Un fs [] H (upd (upd H dx (exd dx [(f, y)])) a (exo a C (some dx))) hp h' := by
  have other : ∀ {b : Addr}, H b = none → b ≠ a := fun {b} n z => by rw [z, ea] at n; cases n
  have young : ∀ {b : Addr} {o : Obj}, hp.get? b = some o → b ≠ dx := fun {b o} q => Nat.ne_of_lt (Nat.lt_of_lt_of_le (Heap.lt_size q) dn)
  constructor
  · intro b o q n _ _
    exact keep b o (other n) q
  · intro b o q n _ _
    exact ⟨o.slots, keep b o (other n) q⟩
  · intro b o q n _
    rw [upd_ne (other n), upd_ne (young q)]
    exact n
  · intro b o q _
    by_cases hb : b = a
    · subst hb; exact there
    · exact ⟨o, keep b o hb q⟩
  · intro b xs q
    rw [upd_ne (at_ne ea q exo_tup), upd_ne (ne_of_none q nd)]; exact q
  · intro b o v q
    rw [upd_ne (at_ne ea q exo_frz), upd_ne (ne_of_none q nd)]; exact q
  · intro b ps q
    exact ⟨#[], by rw [upd_ne (at_ne ea q exo_tbl), upd_ne (ne_of_none q nd), q]; simp⟩
section
variable {X : Cx} {pins : List (Addr × Obj)} {σ : L2.St} {H : Hp} {s : Shared} {a C : Addr} {f : Str} {y : V} {u : Value} {Q : Unit → Shared → Prop} {E : Value → Shared → Prop} {A : Around}
theorem lu_cls {K : PySem.W.Frag} {C : Addr} (T : OexL K C) : ∃ cd, PySem.W.clsIn K C = some cd ∧ cd.hasDict = true ∧ PySem.W.excOver K C luTail = true := by
  obtain ⟨nm, q, N, bs, bm, sn, sub, ab, col, dd, k0, k1, k2, k3, k5, hC, hbm⟩ := T.obj
  have known : PySem.W.clsIn K C = some { name := nm, bases := bs, mro := .ref C :: bm, ns := N, qualname := q, hasDict := true, slotNames := sn, subclasses := sub, abstract := ab, collection := col, hasDel := false } := by unfold PySem.W.clsIn; rw [hC] <;> rfl
  refine ⟨_, known, rfl, ?_⟩
  unfold PySem.W.excOver
  rw [known]
  show (C == C && PySem.W.excTail luTail bm) = true
  rw [hbm, beq_self_eq_true]
  rfl
/-- self.f = y in __init__ -/
theorem lu_ost (T : OexL X.K C) (I : Inv X pins σ H s) (e : H a = some (exo a C none)) (no : PySem.W.findIn X.K (.ref C) f = some none) (ry : RelV y u)
    (h : ∀ dx s', H dx = none → dx ≠ a → Inv X pins σ (upd (upd H dx (exd dx [(f, y)])) a (exo a C (some dx))) s' → Q () s') : wpAny (model X.prog X.w) A (setAttr (.ref a) f u) Q E s := by
  obtain ⟨cd, known, dict, over⟩ := lu_cls T
  obtain ⟨t1, ho⟩ := exo_at I.hok e
  obtain ⟨hp, g, d, t, os⟩ := s
  refine PySem.W.set_plain I.kIn (od := none) ⟨ho, rfl, rfl, trivial⟩ T.facts.1 (lu_store PySem.F.store_LookupError I.kIn ho known over dict no fun h' tk' dx k dn dne hx hn => ?_)
  have nd : H dx = none := I.hok.fresh dn
  refine h dx _ nd dne (I.un (t' := tk') (lu_un e dn nd ⟨_, hx⟩ k) fun b o q => ?_)
  by_cases hb : b = a
  · subst hb
    rw [upd_same] at q; cases q
    exact exo_ok hx
  rw [upd_ne hb] at q
  by_cases hd : b = dx
  · subst hd
    rw [upd_same] at q; cases q
    exact exd_ok hn (relO_put (fs := []) ry fun g => True.intro)
  rw [upd_ne hd] at q
  refine (I.hok b o q).stay (fun c v hc z => k c v ?_ z) (fun c hc => ?_) (fun c xs hc => ?_)
  · rcases hc with hc | hc
    · rw [hc]; exact hb
    · exact at_ne e hc exo_own
  · rw [upd_ne (at_ne e hc exo_own), upd_ne (ne_of_none hc nd)]; exact hc
  · rw [upd_ne (at_ne e hc exo_tup), upd_ne (ne_of_none hc nd)]; exact hc
end
/-- self.f = e -/
def tOsL (K : PySem.W.Frag) (f : Str) (to te : TE) : TS := fun D σ H => te σ H fun y H1 => to σ H1 fun x H2 => ∃ a C : Addr, x = .ref a ∧ OexL K C ∧ PySem.W.findIn K (.ref C) f = some none ∧ H2 a = some (exo a C none) ∧ ∀ dx, H2 dx = none → dx ≠ a → D.nx σ (upd (upd H2 dx (exd dx [(f, y)])) a (exo a C (some dx)))
section
variable {X : Cx} {o e : Expr} {es : List Expr} {to te : TE} {ta : TA} {f : Str} {p p' pos : Pos}
theorem ps_osL (ho : PE X o to) (he : PE X e te) (hs : swapsWith e (some (.Attribute o f p')) pos.line X.env = pure false := by rfl) : PS X (.Assign [.Attribute o f p'] e pos) (tOsL X.K f to te) := by
  refine ⟨fun pins s σ H D I h => plainObj_wpAny_Assign_Attribute (thn (he.run pins s σ H _ I h) ?_) hs⟩
  rintro v s1 ⟨y, H1, I1, r1, q1⟩
  refine thn (ho.run pins s1 σ H1 _ I1 q1) ?_
  rintro u s2 ⟨x, H2, I2, r2, a, C, rfl, T, no, ea, q⟩
  obtain rfl : u = Value.ref a := r2
  exact lu_ost T I2 ea no r1 fun dx s' n ne J => ⟨σ, _, J, q dx n ne⟩
/-- C(e) -/
theorem pmk_oexL {CX : CXT} {x : Str} {C fI : Addr} {k : Nat} {fd : FuncData} {ps : List Str} {sp : Sp} (T : OexL X.K C) (iC : PySem.W.findIn X.K (.ref C) "__init__" = some (some (.ref fI))) (tI : PySem.W.typeIn X.K (.ref fI) = some (.type "function"))
    (F1 : FnOk X.prog X.w X.K X.mg X.base CX k fI fd ps sp) (hr : Room (k + 1) X.A) (hb : Binds X.K fd ps []) (hx : Passes CX X (fun _ _ _ => False)) (hg : Gl X x) (hm : X.mg x = some (.ref C)) (ha : PA X (e :: es) ta)
    (hdb : (x == ("__debug__" : Str)) = false := by decide) (he : starEach (e :: es) X.env = (false, eval e X.env) :: starEach es X.env := by rfl) (hpl : (backTo pos (starEach es X.env)).any (·.1) = false := by rfl) :
    PMk X (.Call (.Name x p) (e :: es) [] pos) (tMkO C sp [] ta) := by
  intro pins s σ H Q I h
  obtain ⟨nm, q, N, bs, bm, sn, sub, ab, col, dd, k0, k1, k2, k3, k5, hC, hbm⟩ := T.obj
  obtain ⟨_, exc, typ, keep⟩ := T.facts
  refine wpAny_Call_Name_kw (ld_glob I hg hm (PySem.W.callWith_K (h₀ := X.base) I.ok.mod.kin keep (thn (ha.run pos pins s σ H _ I h) ?_) he hpl) hdb)
  rintro us s1 ⟨vs, H1, I1, r1, hz, q1⟩
  refine ⟨I1.kIn, ?_⟩
  show wpAny _ _ (call (.ref C) us) _ _ _
  obtain ⟨hp, g, dr, tk, os⟩ := s1
  generalize hn : hp.objs.size = n
  have old : hp.objs.size ≤ n + 1 := by omega
  have hq := q1 (n + 1) (I1.hok.fresh old)
  have kk : ∀ b o, hp.get? b = some o → ((hp.push (PySem.W.kdv_tup us)).push (PySem.HandSPX.excO C n)).get? b = some o := fun b o e => Heap.get?_push_of_some _ (Heap.get?_push_of_some _ e)
  have got : ((hp.push (PySem.W.kdv_tup us)).push (PySem.HandSPX.excO C n)).get? (n + 1) = some (PySem.HandSPX.excO C n) := by subst hn; heap_get
  have I2 : Inv X pins σ (upd H1 (n + 1) (exo (n + 1) C none)) ⟨(hp.push (PySem.W.kdv_tup us)).push (PySem.HandSPX.excO C n), g, dr, tk, os⟩ := I1.laid (t' := tk) (o := exo (n + 1) C none) kk old (exo_ok got)
  have r2 : Vals (V.ref (n + 1) :: (vs ++ [])) (Value.ref (n + 1) :: us) := .cons rfl (by rw [List.append_nil]; exact r1)
  have long : (Value.ref (n + 1) :: us).length = ps.length := r2.length.symm.trans (F1.len _ _ _ _ hq)
  have few : us.length ≤ sizeLine := by rw [← Paired.length r1, sizeLine_eq]; omega
  have ran := F1.run _ X.stack _ _ ⟨Value.ref (n + 1) :: us, []⟩ (Value.ref (n + 1) :: us) _ _ (fun _ _ _ => False) (hr.make C us []) (I2.env0.make C us []) (by have b := hb ⟨(hp.push (PySem.W.kdv_tup us)).push (PySem.HandSPX.excO C n), g, dr, tk, os⟩ (Value.ref (n + 1) :: us) I2.kIn (by rw [List.append_nil]; exact long); rw [List.append_nil] at b; exact b) r2 hq
  subst hn
  refine wpAny_call (PySem.HandSPX.call_own PySem.F.excBase_LookupError (fun Y => PySem.W.excTail_contains Y bm hbm) (I1.kIn _ _ hC) (PySem.W.looks_findIn I1.kIn iC) (fun self => PySem.W.bind_fn I1.kIn self tI) few (codeAny_mono ran ?_))
  rintro (er | fl) s' hq'
  · exact hx pins σ _ _ er s' I2 hq'
  match fl, hq' with
  | .next, z => exact False.elim z
  | .brk, z => exact False.elim z
  | .cont, z => exact False.elim z
  | .ret u, ⟨v, H2, os2, bare2, un2, hok2, rv, ev, d, fs, ea, ed, hd1, q2⟩ =>
    subst ev
    obtain ⟨h2, g2, d2, t2, os'⟩ := s'
    exact ⟨rv, mk_end (raises_own exc typ) I1 old kk un2 hok2 os2 bare2 ea ed hd1 q2⟩
end
/-- __init__(self, f): self.f = f -/
def sp_initL (K : PySem.W.Frag) (fl : Str) : Sp := fun vs H Q _ => ∃ (a C : Addr) (v : V), vs = [.ref a, v] ∧ OexL K C ∧ PySem.W.findIn K (.ref C) fl = some none ∧ H a = some (exo a C none) ∧ ∀ dx, H dx = none → dx ≠ a → Q .non (upd (upd H dx (exd dx [(fl, v)])) a (exo a C (some dx)))
theorem xc_mkL {C : Addr} {fl : Str} {K : PySem.W.Frag} {ta : TA} {σ : L2.St} {H : Hp} {Q : XK} (T : OexL K C) (no : PySem.W.findIn K (.ref C) fl = some none)
    (h : ta σ H fun vs H1 => ∃ v, vs = [v] ∧ ∀ d H2, Same H1 H2 → H2 d = some (.xd [(fl, v)]) → Q (.ref C) (some d) H2) (mono : ∀ {A B : List V → Hp → Prop}, (∀ vs H1, A vs H1 → B vs H1) → ta σ H A → ta σ H B) : tMkO C (sp_initL K fl) [] ta σ H Q := by
  refine mono ?_ h
  rintro vs H1 ⟨v, rfl, k⟩
  refine ⟨by show 1 ≤ 1000; decide, fun a na => ⟨a, C, v, rfl, T, no, upd_same, fun dx nd da => ⟨rfl, dx, [(fl, v)], upd_same, ?_, ?_, ?_⟩⟩⟩
  · rw [upd_ne da, upd_same]
  · rw [upd_ne da] at nd
    exact nd
  · have nd1 : H1 dx = none := by
      rw [upd_ne da] at nd
      exact nd
    refine k dx _ (fun b o hb => ?_) upd_same
    rw [upd_ne (ne_of_none hb nd1), del_ne (ne_of_none hb na), upd_ne (ne_of_none hb na), upd_ne (ne_of_none hb nd1), upd_ne (ne_of_none hb na)]
    exact hb
theorem kit_typ {K : PySem.W.Frag} {D : Addr} {b : Bool} {n : String} (hm : PySem.W.kitMeta n = true) (h : PySem.W.subIn K (.ref D) (.type n) = some b) : PySem.W.kitOne K (.ref D) (.type n) = some b := by
  have q : ((Value.ref D) == (Value.type n)) = false := beq_eq_false_iff_ne.mpr fun z => nomatch z
  unfold PySem.W.kitOne
  rw [if_neg (by rw [q]; exact Bool.false_ne_true)]
  show (if PySem.W.kitMeta n = true then PySem.W.subIn K (.ref D) (.type n) else none) = some b
  rw [if_pos hm]
  exact h
end Sm

set_option Elab.async false
set_option linter.all false
set_option maxRecDepth 100000
set_option maxHeartbeats 4000000
namespace Sm
open PySem PySem.Spec PyProof.Rows L2 LamX
/-- told: try: return a() / except e as n: a suite that is told by ts -/
def TAs (K : PySem.W.Frag) (CS : Addr) (Ng : List Str) (i : Nat) (ts : Addr → Value → Option Addr → TS) : (XK → Hp → VK → Prop) → Hp → VK → Prop := fun tl H Q =>
  tl (fun cls d H' => ∃ b, PySem.W.exmOne K cls (.ref CS) = some b ∧ (b = true → ∀ (σ : L2.St) (c : Addr), σ.length = Ng.length → H' c = none → ts c cls d { nx := fun _ H2 => Q .non H2, rt := Q } (σ.set i (some (.ref c))) H') ∧ (b = false → False)) H Q
theorem set_read {σ : L2.St} {N : List Str} {n : Str} {i : Nat} {v : V} (h : σ.length = N.length) (hi : N[i]? = some n) : (σ.set i (some v))[i]? = some (some v) := by
  have := (List.getElem?_eq_some_iff.mp hi).1
  rw [List.getElem?_set_self (by omega)]
/-- where an exception is taken, all slots are there -/
theorem takes_len {X : Cx} {W : WX} (t : Takes X W) : Takes X (fun cls d σ H => σ.length = X.N.length → W cls d σ H) := fun u s' z => by
  obtain ⟨a, B, sI, pins, σ, H, cls, d, e, I, nb, up, sky, na, os, ag, w⟩ := z
  exact t u s' ⟨a, B, sI, pins, σ, H, cls, d, e, I, nb, up, sky, na, os, ag, w I.len⟩
section
variable {X : Cx} {Ng : List Str} {x a e n q : Str} {sg : Scope} {g CS : Addr} {cdg : Value} {i : Nat} {b₀ : Stmt} {suite : List Stmt} {p1 p2 p3 p4 p5 p6 : Pos} {ts : Addr → Value → Option Addr → TS}
/-- the def that calls what it got and holds the exception in a suite of its own -/
theorem as_gives (hge : sg.names.lookup e = some .globalImplicit) (hme : X.mg e = some (.ref CS)) (hde : (e == ("__debug__" : Str)) = false) (h0 : ∀ f : Addr, (L2.start Ng [V.ref f])[0]? = some (some (V.ref f))) (nd : Ng.Nodup) (hi : Ng[i]? = some n)
    (hln : ∀ (s : Shared) (H : Hp), (cxOf C8.CX0 X.prog X.w X.K X.mg X.base Ng x sg g cdg X.A X.stack s H C8.E0).nox.env.kindOf n = some .local)
    (hsu : ∀ (s : Shared) (H : Hp) (c : Addr) (oe : Obj) (cls : Value) (d : Option Addr) (pn : List (Addr × Obj)), Zc cls d oe → (∃ vs, oe.data = .fields vs) → PSs ((cxOf C8.CX0 X.prog X.w X.K X.mg X.base Ng x sg g cdg X.A X.stack s H C8.E0).nox.suite c ((c, oe) :: pn)) (b₀ :: suite) (ts c cls d)) :
    GivesTo X Ng x sg g cdg [.Try [.Return (some (.Call (.Name a p1) [] [] p2)) p3] [.ExceptHandler (some (.Name e p4)) (some n) (b₀ :: suite) p5] [] [] p6] a q (TAs X.K CS Ng i ts) := by
  intro f c' s H Q tl act known told
  let Z := (cxOf C8.CX0 X.prog X.w X.K X.mg X.base Ng x sg g cdg X.A X.stack s H C8.E0).nox
  have glob : Gl Z e := hge
  let body : WX → TS := fun W D σ H1 => ∃ out : XK, (∀ cls d (σ' : L2.St) H', out cls d H' → σ'.length = Ng.length → W cls d σ' H') ∧ σ[0]? = some (some (.ref f)) ∧ H1 c' = some (CodeO c' q) ∧ tl out H1 D.rt
  have inner : ∀ (W : WX) (pn : List (Addr × Obj)) (xe : Value → Shared → Prop), Takes (Z.tr pn xe) W → PassesOwn (model Z.prog Z.w) Z.A Z.env xe → PSs (Z.tr pn xe) [.Return (some (.Call (.Name a p1) [] [] p2)) p3] (body W) := by
    intro W pn xe tk _
    refine ⟨fun pins s' σ H' D I told' => ?_⟩
    obtain ⟨out, hW, h1, h2, h3⟩ := told'
    exact (pss_one (ps_ret (pos := p3) (act _ pn xe out p1 p2 (takes_len tk) hW))).run pins s' σ H' D I ⟨h1, h2, h3⟩
  refine ⟨_, pss_one (ps_try_as (X := Z) (c := .ref CS) (i := i) (tb := body) (ts := ts) (Wout := fun _ _ _ _ => False) rfl rfl nd hi (hln s H) ⟨glob, hde, .inl hme⟩ L2.takes0 inner (fun c oe cls d pn hz hf => hsu s H c oe cls d pn hz hf)), ?_⟩
  exact ⟨_, fun cls d σ' H' w len => by
    obtain ⟨b, e1, e2, e3⟩ := w
    exact ⟨b, e1, fun hb c nc => e2 hb σ' c len nc, fun hb => e3 hb⟩, h0 f, known, told⟩
end
end Sm

set_option Elab.async false
set_option linter.all false
set_option maxRecDepth 100000
set_option maxHeartbeats 4000000
namespace Sm
open PySem PySem.Spec PyProof.Rows L2
/-! ### values of all kinds as data, dicts with text keys and ints too -/
def kD : Key → PyData
  | .inl i => .int i
  | .inr x => .str x
mutual
inductive Dq (K : PySem.W.Frag) (H : Hp) : V → PyData → Prop
  | non : Dq K H .non .none
  | bl (b : Bool) : Dq K H (.bl b) (.bool b)
  | int (i : Int) : Dq K H (.int i) (.int i)
  | str (x : Str) : Dq K H (.str x) (.str x)
  | lst {a : Addr} {xs : List V} {ds : List PyData} : H a = some (.lst xs) → (a == sysModules) = false → DqAll K H xs ds → Dq K H (.ref a) (.list ds)
  | tup {a : Addr} {xs : List V} {ds : List PyData} : H a = some (.tup xs) → DqAll K H xs ds → Dq K H (.ref a) (.tuple ds)
  | dic {a : Addr} (kvs : List (Key × Int)) : H a = some (.dK (kvs.map fun q => (q.1, V.int q.2))) → Dq K H (.ref a) (.dict (kvs.map fun q => (kD q.1, PyData.int q.2)))
inductive DqAll (K : PySem.W.Frag) (H : Hp) : List V → List PyData → Prop
  | nil : DqAll K H [] []
  | cons {v : V} {vs : List V} {d : PyData} {ds : List PyData} : Dq K H v d → DqAll K H vs ds → DqAll K H (v :: vs) (d :: ds)
end
mutual
theorem Dq.mono {K : PySem.W.Frag} {H H' : Hp} (e : ∀ b o, H b = some o → H' b = some o) : ∀ (d : PyData) (v : V), Dq K H v d → Dq K H' v d
  | .none, _, h => by cases h; exact .non
  | .bool b, _, h => by cases h; exact .bl b
  | .int i, _, h => by cases h; exact .int i
  | .str x, _, h => by cases h; exact .str x
  | .list ds, _, h => by
    cases h with
    | lst hs ne ha => exact .lst (e _ _ hs) ne (Dq.monoAll e ds _ ha)
  | .tuple ds, _, h => by
    cases h with
    | tup hs ha => exact .tup (e _ _ hs) (Dq.monoAll e ds _ ha)
  | .dict _, _, h => by
    cases h with
    | dic kvs hk => exact .dic kvs (e _ _ hk)
theorem Dq.monoAll {K : PySem.W.Frag} {H H' : Hp} (e : ∀ b o, H b = some o → H' b = some o) : ∀ (ds : List PyData) (vs : List V), DqAll K H vs ds → DqAll K H' vs ds
  | [], _, h => by cases h; exact .nil
  | d :: ds, _, h => by
    cases h with
    | cons h1 h2 => exact .cons (Dq.mono e d _ h1) (Dq.monoAll e ds _ h2)
end
theorem Dq.same {K : PySem.W.Frag} {H H' : Hp} {v : V} {d : PyData} (h : Dq K H v d) (s : Same H H') : Dq K H' v d := Dq.mono (fun b o => s b o) d v h
section
variable {X : Cx} {pins : List (Addr × Obj)} {σ : L2.St} {H : Hp} {s : Shared}
theorem dic_keys {h : Heap} {P : Program} {w : World} : ∀ {es : List DictEntry} {vs : List (Key × Value)} {kvs : List (Key × Int)}, Pairs (mixKind P w) es vs → KV (kvs.map fun q => (q.1, V.int q.2)) vs →
    ReadsAll h (es.map (·.key)) (kvs.map fun q => kD q.1) [] ∧ ReadsAll h (es.map (·.val)) (kvs.map fun q => PyData.int q.2) []
  | [], _, kvs, .nil, r => by
    cases kvs with
    | nil => exact ⟨.nil, .nil⟩
    | cons a b => exact nomatch r
  | e :: es, _, kvs, .cons h1 h2 h3, r => by
    cases kvs with
    | nil => exact nomatch r
    | cons a b =>
      cases r with
      | cons r1 r2 =>
        obtain ⟨q1, q2⟩ := dic_keys (h := h) h3 r2
        obtain ⟨g1, g2⟩ := r1
        have g1 : a.1 = _ := g1
        have g2 : RelV (V.int a.2) _ := g2
        obtain ⟨t, g2⟩ := g2
        refine ⟨?_, ?_⟩
        · have hk : Reads h e.key (kD a.1) [] := by
            rcases keyIs_shape h1 with ⟨i, t, e1, e2⟩ | ⟨x, t, e1, e2⟩
            · rw [g1, e2, e1]
              exact .int i t
            · rw [g1, e2, e1]
              exact .str x t
          exact .cons hk q1
        · have hv : Reads h e.val (.int a.2) [] := by
            rw [h2, g2]
            exact .int _ t
          exact .cons hv q2
mutual
theorem Dq.reads (I : Inv X pins σ H s) : ∀ (d : PyData) (v : V) (u : Value), Dq X.K H v d → RelV v u → ∃ as, Reads s.heap u d as ∧ sysModules ∉ as
  | .none, _, _, h, r => by
    cases h
    cases r
    exact ⟨_, Reads.none, List.not_mem_nil⟩
  | .bool b, _, _, h, r => by
    cases h
    cases r
    exact ⟨_, Reads.bool b, List.not_mem_nil⟩
  | .int i, _, _, h, r => by
    cases h
    obtain ⟨t, rfl⟩ := r
    exact ⟨_, Reads.int i t, List.not_mem_nil⟩
  | .str x, _, _, h, r => by
    cases h
    obtain ⟨t, rfl⟩ := r
    exact ⟨_, Reads.str x t, List.not_mem_nil⟩
  | .list ds, _, _, h, r => by
    cases h with
    | lst hs ne ha =>
      cases r
      obtain ⟨its, rv, ⟨o, n, ho, hc, _, hd⟩, _⟩ := I.list (SqL.of hs)
      obtain ⟨as, hr, hm⟩ := Dq.readsAll I ds _ its ha rv
      refine ⟨_, Reads.list ho hc hd hr, fun m => ?_⟩
      rcases List.mem_cons.mp m with e | e
      · rw [← e, beq_self_eq_true] at ne
        cases ne
      · exact hm e
  | .tuple ds, _, _, h, r => by
    cases h with
    | tup hs ha =>
      cases r
      obtain ⟨its, rv, ⟨o, ho, hc, n, hd⟩, _⟩ := I.tuple (SqT.of hs)
      obtain ⟨as, hr, hm⟩ := Dq.readsAll I ds _ its ha rv
      exact ⟨_, Reads.tuple ho hc hd hr, hm⟩
  | .dict _, _, _, h, r => by
    cases h with
    | dic kvs hk =>
      cases r
      obtain ⟨_, hd, vs, kv, o, es, ep, h1, h2, h3, _, h4, _⟩ := dk_of I.hok hk
      obtain ⟨q1, q2⟩ := dic_keys (h := s.heap) h4 kv
      have e1 : (kvs.map fun q => (kD q.1, PyData.int q.2)).map (·.1) = kvs.map fun q => kD q.1 := by rw [List.map_map]; rfl
      have e2 : (kvs.map fun q => (kD q.1, PyData.int q.2)).map (·.2) = kvs.map fun q => PyData.int q.2 := by rw [List.map_map]; rfl
      refine ⟨_, Reads.dict h1 h2.1 h3 (by rw [e1]; exact q1) (by rw [e2]; exact q2), fun m => ?_⟩
      rw [List.append_nil] at m
      rw [← List.mem_singleton.mp m, beq_self_eq_true] at hd
      cases hd
theorem Dq.readsAll (I : Inv X pins σ H s) : ∀ (ds : List PyData) (vs : List V) (us : List Value), DqAll X.K H vs ds → Vals vs us → ∃ as, ReadsAll s.heap us ds as ∧ sysModules ∉ as
  | [], _, _, h, r => by
    cases h
    cases r
    exact ⟨_, ReadsAll.nil, List.not_mem_nil⟩
  | d :: ds, _, _, h, r => by
    cases h with
    | cons h1 h2 =>
      cases r with
      | cons r1 r2 =>
        obtain ⟨as, q1, m1⟩ := Dq.reads I d _ _ h1 r1
        obtain ⟨bs, q2, m2⟩ := Dq.readsAll I ds _ _ h2 r2
        refine ⟨_, ReadsAll.cons q1 q2, fun m => ?_⟩
        rcases List.mem_append.mp m with e | e
        · exact m1 e
        · exact m2 e
end
/-- the built-in class of such a value -/
def tyN : PyData → String
  | .none => "NoneType"
  | .bool _ => "bool"
  | .int _ => "int"
  | .str _ => "str"
  | .list _ => "list"
  | .tuple _ => "tuple"
  | .dict _ => "dict"
theorem Dq.ty {K : PySem.W.Frag} {v : V} {d : PyData} (h : Dq K H v d) : TyX K H v (.type (tyN d)) := by
  cases h with
  | non => exact .base .non
  | bl b => exact .base (.bl b)
  | int i => exact .base (.int i)
  | str x => exact .base (.str x)
  | lst e _ _ => exact .base (.lst e)
  | tup e _ => exact .base (.tup e)
  | dic kvs e => exact .base (.dK e)
end
def isT (n m : String) : Bool := m == n || (n == "int" && m == "bool")
def isOf (n : String) (d : PyData) : Bool := isT n (tyN d)
theorem kit_q {K : PySem.W.Frag} {n : String} {d : PyData} (h : n = "int" ∨ n = "bool" ∨ n = "str" ∨ n = "tuple" ∨ n = "list") : PySem.W.kitOne K (.type (tyN d)) (.type n) = some (isOf n d) := by
  refine kit_ty ?_
  unfold isOf
  have m : tyN d = "NoneType" ∨ tyN d = "bool" ∨ tyN d = "int" ∨ tyN d = "str" ∨ tyN d = "list" ∨ tyN d = "tuple" ∨ tyN d = "dict" := by
    cases d <;> simp [tyN]
  generalize tyN d = m' at m
  rcases h with rfl | rfl | rfl | rfl | rfl <;> rcases m with rfl | rfl | rfl | rfl | rfl | rfl | rfl <;> decide +kernel
section
variable {X : Cx}
/-- isinstance(x, T), x of any kind, T built in -/
def rIsQ (K : PySem.W.Frag) : List V → Hp → VK → Prop := fun xs H Q => ∃ (x : V) (d : PyData) (n : String), xs = [x, .ty n] ∧ Dq K H x d ∧ (n = "int" ∨ n = "bool" ∨ n = "str" ∨ n = "tuple" ∨ n = "list") ∧ Q (.bl (isOf n d)) H
theorem call_isQ : CallR X (.builtin "isinstance") (rIsQ X.K) := by
  intro pins s σ H xs us Q I r h
  obtain ⟨x, d, n, rfl, hd, hn, q⟩ := h
  exact call_isi pins s σ H _ us Q I r ⟨x, .ty n, _, _, _, rfl, .ty n, hd.ty, kit_q hn, q⟩
/-- repr of a value of any kind -/
def rReprQ (K : PySem.W.Frag) : List V → Hp → VK → Prop := fun xs H Q => ∃ v d, xs = [v] ∧ Dq K H v d ∧ PyData.showable d = true ∧ d.depth ≤ 60 ∧ d.shown.length ≤ sizeLine ∧ Q (.str d.shown) H
theorem call_reprQ (gu : X.A.guards = some []) (room : ∃ k, Room k X.A) : CallR X (.builtin "repr") (rReprQ X.K) := by
  intro pins s σ H xs us Q I rel want
  obtain ⟨v, d, rfl, data, sh, dep, len, q⟩ := want
  obtain ⟨u, rfl, ru⟩ := vals1 rel
  obtain ⟨as, reads, ns⟩ := Dq.reads I d _ u data ru
  obtain ⟨k, room⟩ := room
  have un := room.un
  have done : ∀ h' (v : Value) tk, (∀ b o, s.heap.get? b = some o → h'.get? b = some o) → (∃ t, v = Value.str d.shown t) → ∃ y H2, Inv X pins σ H2 { s with heap := h', toks := tk } ∧ RelV y v ∧ Q y H2 := fun h' v tk keep e => ⟨.str d.shown, H, I.kept keep, e, q⟩
  have at_ : ∀ a, u = .ref a → _ := fun a e => repr_of_reads' (A := X.A) (s := s) (prog := X.prog) (w := X.w) (E := X.xe) (Q := fun y s' => ∃ z H2, Inv X pins σ H2 s' ∧ RelV z y ∧ Q z H2) (by rw [← e]; exact reads) sh (fun _ => ns) gu (by omega) (fun _ _ e => e) (fun h' v tk keep => ⟨.str d.shown, H, I.kept keep, ⟨_, rfl⟩, q⟩) len
  cases data with
  | non =>
    cases ru
    exact PySem.P.repr_of_none ⟨.str _, H, I.tok _, ⟨_, rfl⟩, q⟩
  | bl b =>
    cases ru
    refine PySem.P.repr_of_bool ⟨.str _, H, I.tok _, ⟨_, rfl⟩, ?_⟩
    cases b <;> exact q
  | int i =>
    obtain ⟨t, rfl⟩ := ru
    exact PySem.P.repr_of_int (of_decide_eq_true (by simpa [PyData.showable] using sh)) ⟨.str _, H, I.tok _, ⟨_, rfl⟩, q⟩
  | str x =>
    obtain ⟨t, rfl⟩ := ru
    exact PySem.P.repr_of_str ⟨.str _, H, I.tok _, ⟨_, rfl⟩, q⟩ len
  | lst e1 e2 e3 =>
    cases ru
    exact at_ _ rfl
  | tup e1 e2 =>
    cases ru
    exact at_ _ rfl
  | dic kvs e1 =>
    cases ru
    exact at_ _ rfl
/-- a list is made: it is not sys.modules -/
def tLstN (t : TA) : TE := fun σ H Q => t σ H fun xs H1 => xs.length ≤ sizeLine ∧ ∀ p, H1 p = none → (p == sysModules) = false → Q (.ref p) (upd H1 p (.lst xs))
theorem pe_lstN {es : List Expr} {pos : Pos} {t : TA} (h : PA X es t) : PE X (.List es pos) (tLstN t) := by
  refine ⟨fun pins s σ H Q I hq => ?_⟩
  refine wpAny_List_spliced (thn (h.run pos pins s σ H _ I hq) fun us s1 ⟨xs, H1, I1, r, z, q⟩ => ⟨by rw [← r.length]; exact z, ?_⟩)
  have hf : H1 s1.heap.objs.size = none := I1.hok.fresh (Nat.le_refl _)
  have hs : (s1.heap.objs.size == sysModules) = false := beq_eq_false_iff_ne.mpr (Ne.symm (Nat.ne_of_lt I1.big))
  refine ⟨.ref s1.heap.objs.size, upd H1 s1.heap.objs.size (.lst xs), I1.laid (t' := s1.toks) (fun b u e => Heap.get?_push_of_some _ e) (Nat.le_refl _) ?_, rfl, q _ hf hs⟩
  exact ⟨z, us, 0, r, Heap.get?_push_size _ rfl⟩
/-- list(t) of a tuple -/
theorem call_listN : CallR X (.type "list") (fun xs H Q => ∃ p ys, xs = [.ref p] ∧ H p = some (.tup ys) ∧ ∀ l, H l = none → (l == sysModules) = false → Q (.ref l) (upd H l (.lst ys))) := by
  intro pins s σ H xs us Q I r h
  obtain ⟨p, ys, rfl, hq, q⟩ := h
  have hs : (s.heap.objs.size == sysModules) = false := beq_eq_false_iff_ne.mpr (Ne.symm (Nat.ne_of_lt I.big))
  obtain ⟨u, rfl, rx⟩ := vals1 r
  cases rx
  obtain ⟨its, r', pl, hz⟩ := I.tuple (SqT.of hq)
  have hlen := r'.length
  obtain ⟨o, ho, hc, n, hd⟩ := pl
  exact call_list_seq p (.inr rfl) ho hc hd (fun h' c' kp e => ⟨.ref s.heap.objs.size, _, I.laid (t' := s.toks) kp (Nat.le_refl _) (show ObjOk X.prog X.w _ h' _ (.lst ys) from ⟨hz, its, c', r', e⟩), rfl, q _ (I.hok.fresh (Nat.le_refl _)) hs⟩) (by simp only [List.size_toArray] <;> omega)
end
end Sm

set_option Elab.async false
set_option linter.all false
set_option maxRecDepth 100000
set_option maxHeartbeats 4000000
namespace Sm
open PySem PySem.Spec PyProof.Rows L2 LamX
/-- repr of a value of any kind, in an except suite too -/
theorem call_reprU {X : Cx} (gu : X.A.guards = some []) (un : X.A.units + 100 < cLine) : CallR X (.builtin "repr") (rReprQ X.K) := by
  rintro pins s σ H xs us Q I rel ⟨v, d, rfl, data, sh, dep, len, q⟩
  obtain ⟨u, rfl, ru⟩ := vals1 rel
  obtain ⟨as, reads, ns⟩ := Dq.reads I d _ u data ru
  have at_ : ∀ a, u = .ref a → _ := fun a e => repr_of_reads' (A := X.A) (s := s) (prog := X.prog) (w := X.w) (E := X.xe) (Q := fun y s' => ∃ z H2, Inv X pins σ H2 s' ∧ RelV z y ∧ Q z H2) (by rw [← e]; exact reads) sh (fun _ => ns) gu (by omega) (fun _ _ e => e) (fun h' v tk keep => ⟨.str d.shown, H, I.kept keep, ⟨_, rfl⟩, q⟩) len
  cases data with
  | non => cases ru; exact PySem.P.repr_of_none ⟨.str _, H, I.tok _, ⟨_, rfl⟩, q⟩
  | bl b => cases ru; exact PySem.P.repr_of_bool ⟨.str _, H, I.tok _, ⟨_, rfl⟩, by cases b <;> exact q⟩
  | int i => obtain ⟨t, rfl⟩ := ru; exact PySem.P.repr_of_int (of_decide_eq_true (by simpa [PyData.showable] using sh)) ⟨.str _, H, I.tok _, ⟨_, rfl⟩, q⟩
  | str x => obtain ⟨t, rfl⟩ := ru; exact PySem.P.repr_of_str ⟨.str _, H, I.tok _, ⟨_, rfl⟩, q⟩ len
  | lst e1 e2 e3 => cases ru; exact at_ _ rfl
  | tup e1 e2 => cases ru; exact at_ _ rfl
  | dic kvs e1 => cases ru; exact at_ _ rfl
section
variable {X : Cx} {pins : List (Addr × Obj)} {σ : L2.St} {H : Hp} {s : Shared}
/-- a local name read, nothing else happens -/
theorem ld_var {E : Value → Shared → Prop} {Q : Value → Shared → Prop} {i : Nat} {x : Str} {pos : Pos} {v : V} (I : Inv X pins σ H s) (named : X.N[i]? = some x) (seen : Vis X.env.scope x) (e : σ[i]? = some (some v)) (h : ∀ u, RelV v u → Q u s)
    (hd : (x == ("__debug__" : Str)) = false := by decide) (hcd : (x == ("__classdict__" : Str)) = false := by decide) : wpAny (model X.prog X.w) X.A (eval (.Name x pos) X.env) Q E s := by
  obtain ⟨m, hn, hl⟩ := I.loc
  obtain ⟨u, r, l⟩ := hl i x v named e seen
  rcases l with ⟨hk, hm⟩ | ⟨hk | hk, c, hc, hcell⟩
  · exact wpAny_Name (wpAny_loadName_local I.ok.kind hk hn hm (h u r)) hd
  · exact wpAny_Name (wpAny_loadName_cell I.ok.kind hk hc hcell (h u r)) hd
  · exact wpAny_Name (wpAny_loadName_free I.ok.kind hk hc hcell (h u r) hcd) hd
/-- x() in the def that got the lambda: what is raised is taken at the very slots -/
theorem pe_actS {Ng : List Str} {qg : Str} {sg : Scope} {g f c' : Addr} {cdg pm ctv : Value} {params : Arguments} {body : Expr} {scope : Scope} {k i : Nat} {a : Str} {pn : List (Addr × Obj)} {xe : Value → Shared → Prop} {W : WX} {E : XK} {tb : TE} {p1 p2 : Pos} (σ0 : L2.St)
    (I : Inv X pins σ H s) (L : LamS X.env.scope scope) (hf : s.heap.get? f = some (PySem.W.kla_obj "<lambda>" (X.env.qual ++ "<lambda>") params body scope (cloFrom X.env.cells scope.names []) pm c' ctv)) (hfn : H f = none) (hfr : f ∉ frs X.stack)
    (hbind : bindArgs (PySem.W.kla_fn "<lambda>" (X.env.qual ++ "<lambda>") params body scope (cloFrom X.env.cells scope.names []) pm (.ref c') ctv) ⟨[], []⟩ = pure [])
    (tk : Takes ((cxOf C8.CX0 X.prog X.w X.K X.mg X.base Ng qg sg g cdg X.A X.stack s H C8.E0).tr pn xe) W) (hW : ∀ cls d H', E cls d H' → W cls d σ0 H') (hr : Room (k + 1) (X.A.deeper (envOfC qg sg s.heap.objs.size g cdg)))
    (hbody : ∀ (A : Around) (outer : List Env) (s : Shared) (H : Hp), Room k (A.deeper (lamEnv X scope s.heap.objs.size f c')) → PE (lamCx X A outer s H E scope f c') body tb)
    (hN : Ng[i]? = some a) (hv : Vis sg a) (hd : (a == ("__debug__" : Str)) = false := by decide) (hcd : (a == ("__classdict__" : Str)) = false := by decide) :
    PE ((cxOf C8.CX0 X.prog X.w X.K X.mg X.base Ng qg sg g cdg X.A X.stack s H C8.E0).tr pn xe) (.Call (.Name a p1) [] [] p2) (fun σZ HZ Q => σZ = σ0 ∧ σZ[i]? = some (some (.ref f)) ∧ HZ c' = some (CodeO c' (X.env.qual ++ "<lambda>")) ∧ tb σ HZ Q) := by
  refine ⟨fun pinsZ sZ σZ HZ Q IZ h => ?_⟩
  obtain ⟨rfl, hs, hc, ht⟩ := h
  refine wpAny_Call_Name_kw (ld_var IZ (pos := p1) (i := i) hN hv hs (fun u r1 => ?_) hd hcd)
  obtain rfl : u = Value.ref f := r1
  have of1 := IZ.base.keep f _ hf hfn hfr (fun z => nomatch (show f ∈ ([] : List Addr) from z))
  refine PySem.W.callWith_F0 ⟨_, _, _, _, of1⟩ ?_
  have un : Un (frs X.stack) [] H HZ s.heap sZ.heap := IZ.base
  obtain ⟨⟨oc, vs, t, hoc, hdc, hvc⟩, _, _⟩ := IZ.hok c' _ hc
  have ran : codeAny (model X.prog X.w) (X.A.deeper (envOfC qg sg s.heap.objs.size g cdg)) (.call (.ref f) ⟨[], []⟩) (CR (L2.CX X.prog X.w) (envOfC qg sg s.heap.objs.size g cdg :: X.stack) X.prog X.w HZ sZ Q E) sZ := by
    refine PySem.W.kla_callFunE hr.depth of1 rfl L.co L.gen rfl ⟨c', oc, vs, t, rfl, hoc, hdc, hvc⟩ ?_
    rw [hbind]
    refine wpAny_pure (wpAny_newFunctionEnv (fun y hy => (L.own y hy).2) (fun y hy => absurd hy (by simp)) (fun h₁ names same => ⟨IZ.nolimit.fresh _ same, ?_⟩) L.kind)
    have keep : ∀ b o, sZ.heap.get? b = some o → h₁.get? b = some o := fun b o e => same.extBut b o (Nat.ne_of_lt (Heap.lt_size e)) (Heap.get?_push_of_some _ e)
    refine PySem.W.kla_codeExpr (wpAny_mono ((hbody _ _ sZ HZ (hr.deeper _)).run [] _ _ HZ Q (lam_start2 I L IZ.env0 hr.hd un names keep) ht) ?_ fun e s' hq => hq)
    rintro v s' ⟨w', H', J', rv, q⟩
    exact ⟨w', H', J'.os, J'.bare, J'.base, J'.hok, rv, q⟩
  refine wpAny_call (codeAny_mono ran ?_)
  rintro (e | fl) s' hq
  · exact tk e s' (XE.of_call IZ (fun cls d H' h => hW cls d H' h) hq)
  match fl, hq with
  | .ret u, hq => exact IZ.after hq
  | .next, hq => exact False.elim hq
  | .brk, hq => exact False.elim hq
  | .cont, hq => exact False.elim hq
end
/-- the def that gets a lambda and a value: TT tells what it makes of both -/
def Gives2 (X : Cx) (Ng : List Str) (x : Str) (sg : Scope) (g : Addr) (cdg : Value) (bg : List Stmt) (a : Str) (q : Str) (TT : V → (XK → Hp → VK → Prop) → Hp → VK → Prop) : Prop :=
  ∀ (f c' : Addr) (s : Shared) (H : Hp) (v : V) (Q : VK) (tl : XK → Hp → VK → Prop),
    (∀ (W : WX) (pn : List (Addr × Obj)) (xe : Value → Shared → Prop) (E : XK) (p1 p2 : Pos) (σ0 : L2.St), Takes ((cxOf C8.CX0 X.prog X.w X.K X.mg X.base Ng x sg g cdg X.A X.stack s H C8.E0).tr pn xe) W → (∀ cls d H', E cls d H' → W cls d σ0 H') →
      PE ((cxOf C8.CX0 X.prog X.w X.K X.mg X.base Ng x sg g cdg X.A X.stack s H C8.E0).tr pn xe) (.Call (.Name a p1) [] [] p2) (fun σZ HZ Q => σZ = σ0 ∧ σZ[0]? = some (some (.ref f)) ∧ HZ c' = some (CodeO c' q) ∧ tl E HZ Q)) →
    H c' = some (CodeO c' q) → TT v tl H Q →
    ∃ t, PSs (cxOf C8.CX0 X.prog X.w X.K X.mg X.base Ng x sg g cdg X.A X.stack s H C8.E0).nox bg t ∧ t { nx := fun _ H' => Q .non H', rt := Q } (L2.start Ng [.ref f, v]) H
def tLam2 (T : List (Addr × Str)) (TT : V → (XK → Hp → VK → Prop) → Hp → VK → Prop) (t : XK → TE) (j : Nat) : TE := fun σ H Q => Tabs T H ∧ ∃ v, σ[j]? = some (some v) ∧ ∀ H1, ExtN H H1 → Tabs T H1 → TT v (fun E H' Q' => t E σ H' Q') H1 Q
section
variable {X : Cx}
/-- x(lambda: body, y) -/
theorem pe_lamcall2 {T : List (Addr × Str)} {TT : V → (XK → Hp → VK → Prop) → Hp → VK → Prop} {x a b y : Str} {g c P : Addr} {k j : Nat} {pg : Arguments} {bg : List Stmt} {sg : Scope} {dV kV doc pm cdv ct oc : Value} {an od : Option Addr} {osl : Array (Option Value)} {Ng : List Str}
    {params : Arguments} {body : Expr} {scope : Scope} {t : XK → TE} {p lpos pos py : Pos} (hg : Gl X x) (hm : X.mg x = some (.ref g)) (hk : PySem.W.keepIn X.K (.ref g) = true)
    (lk : X.K.lookup g = some ⟨oc, od, .func (PySem.W.fnOf x x pg bg sg dV kV doc pm an cdv ct), osl⟩) (hcg : PySem.W.codeIn X.K cdv x = true) (hb : L2.Binds X.K (PySem.W.fnOf x x pg bg sg dV kV doc pm an cdv ct) [a, b] []) (Sg : FnScope Ng [a, b] sg) (hNg : Ng[0]? = some a) (hva : Vis sg a)
    (hG : Gives2 X Ng x sg g cdv bg a (X.env.qual ++ "<lambda>") TT)
    (TB : TabB X.base X.mg c P) (hcode : X.env.code = .ref c) (hmT : (P, X.env.qual ++ "<lambda>") ∈ T) (hu : ∀ p ∈ T, p.1 = P → p.2 = X.env.qual ++ "<lambda>") (hr : Room (k + 2) X.A) (L : LamS X.env.scope scope) (hdef : defaultsOf params X.env = ([], []))
    (hbind : ∀ (q : Str) (cl : List (Str × Addr)) (pm cv ctv : Value), bindArgs (PySem.W.kla_fn "<lambda>" q params body scope cl pm cv ctv) ⟨[], []⟩ = pure [])
    (hbody : ∀ (A : Around) (outer : List Env) (s : Shared) (H : Hp) (E : XK) (f c' : Addr), Room k (A.deeper (lamEnv X scope s.heap.objs.size f c')) → PE (lamCx X A outer s H E scope f c') body (t E))
    (named : X.N[j]? = some y) (seen : Vis X.env.scope y)
    (hdb : (x == ("__debug__" : Str)) = false := by decide) (hd : (a == ("__debug__" : Str)) = false := by decide) (hcd : (a == ("__classdict__" : Str)) = false := by decide) (hyd : (y == ("__debug__" : Str)) = false := by decide) (hycd : (y == ("__classdict__" : Str)) = false := by decide) :
    PE X (.Call (.Name x p) [.Lambda params body scope lpos, .Name y py] [] pos) (tLam2 T TT t j) := by
  refine ⟨fun pins s σ H Q I h => ?_⟩
  obtain ⟨hT, v, hv, h⟩ := h
  refine wpAny_Call_Name_kw (ld_glob I hg hm (PySem.W.callWith_K (h₀ := X.base) I.ok.mod.kin hk ?_ (by rfl) (by rfl)) hdb)
  show wpAny _ _ (spliced ((false, eval (.Lambda params body scope lpos) X.env) :: backTo pos (starEach [.Name y py] X.env))) _ _ s
  refine Calls.spliced_cons (lam_make2 I TB hcode hmT hu hT hdef (L.has I.ok) ?_)
  intro f c' pm' ctv H1 s' I1 eN T1 hf hfn hfr hco
  show wpAny _ _ (spliced ((false, eval (.Name y py) X.env) :: backTo pos (starEach [] X.env))) _ _ s'
  refine Calls.spliced_cons (ld_var I1 named seen hv (fun u r1 => ?_) hyd hycd)
  refine Calls.spliced_nil ⟨I1.kIn, ?_⟩
  have ran : codeAny (model X.prog X.w) X.A (.call (.ref g) ⟨[.ref f, u], []⟩) (CR C8.CX0 X.stack X.prog X.w H1 s' Q C8.E0) s' := by
    refine run_ofS (N := Ng) (ps := [a, b]) (us := [.ref f, u]) (vs := [.ref f, v]) lk hcg Sg hr I1.env0 (hb s' [.ref f, u] I1.kIn rfl) (.cons rfl (.cons r1 .nil)) rfl fun room => ?_
    obtain ⟨t', got, fine⟩ := hG f c' s' H1 v Q (fun E H' Q' => t E σ H' Q') (fun W pn xe E p1 p2 σ0 tk hW => pe_actS (i := 0) σ0 I1 L hf hfn hfr (hbind _ _ _ _ _) tk hW room (fun A outer s H r2 => hbody A outer s H E f c' r2) hNg hva hd hcd) hco (h H1 eN T1)
    exact ⟨t', got.nox, fine⟩
  refine wpAny_call (codeAny_mono ran ?_)
  rintro (e | fl) s2 hq
  · exact (show False from hq).elim
  match fl, hq with
  | .ret u, hq => exact I1.after hq
  | .next, hq => exact False.elim hq
  | .brk, hq => exact False.elim hq
  | .cont, hq => exact False.elim hq
/-- try: a() / except e as n: a suite that is told by ts -/
def tActAs (K : PySem.W.Frag) (CS f c' : Addr) (q : Str) (i : Nat) (ts : Addr → Value → Option Addr → TS) (tl : XK → Hp → VK → Prop) : TS := fun D σ H => σ[0]? = some (some (.ref f)) ∧ H c' = some (CodeO c' q) ∧
  tl (fun cls d H' => wAs K (.ref CS) i ts (fun _ _ _ _ => False) D cls d σ H') H (fun _ H' => D.nx σ H')
theorem ps_act_as {Ng : List Str} {x a e n q : Str} {sg : Scope} {g CS f c' : Addr} {cdg : Value} {i : Nat} {b₀ : Stmt} {suite : List Stmt} {p1 p2 p3 p4 p5 p6 : Pos} {ts : Addr → Value → Option Addr → TS} {s : Shared} {H : Hp} {tl : XK → Hp → VK → Prop}
    (hge : sg.names.lookup e = some .globalImplicit) (hme : X.mg e = some (.ref CS)) (hde : (e == ("__debug__" : Str)) = false) (nd : Ng.Nodup) (hi : Ng[i]? = some n)
    (hln : (cxOf C8.CX0 X.prog X.w X.K X.mg X.base Ng x sg g cdg X.A X.stack s H C8.E0).nox.env.kindOf n = some .local)
    (act : ∀ (W : WX) (pn : List (Addr × Obj)) (xe : Value → Shared → Prop) (E : XK) (p1 p2 : Pos) (σ0 : L2.St), Takes ((cxOf C8.CX0 X.prog X.w X.K X.mg X.base Ng x sg g cdg X.A X.stack s H C8.E0).tr pn xe) W → (∀ cls d H', E cls d H' → W cls d σ0 H') →
      PE ((cxOf C8.CX0 X.prog X.w X.K X.mg X.base Ng x sg g cdg X.A X.stack s H C8.E0).tr pn xe) (.Call (.Name a p1) [] [] p2) (fun σZ HZ Q => σZ = σ0 ∧ σZ[0]? = some (some (.ref f)) ∧ HZ c' = some (CodeO c' q) ∧ tl E HZ Q))
    (hsu : ∀ (c : Addr) (oe : Obj) (cls : Value) (d : Option Addr) (pn : List (Addr × Obj)), Zc cls d oe → (∃ vs, oe.data = .fields vs) → PSs ((cxOf C8.CX0 X.prog X.w X.K X.mg X.base Ng x sg g cdg X.A X.stack s H C8.E0).nox.suite c ((c, oe) :: pn)) (b₀ :: suite) (ts c cls d)) :
    PS (cxOf C8.CX0 X.prog X.w X.K X.mg X.base Ng x sg g cdg X.A X.stack s H C8.E0).nox (.Try [.Expr (.Call (.Name a p1) [] [] p2) p3] [.ExceptHandler (some (.Name e p4)) (some n) (b₀ :: suite) p5] [] [] p6) (tActAs X.K CS f c' q i ts tl) := by
  let Z := (cxOf C8.CX0 X.prog X.w X.K X.mg X.base Ng x sg g cdg X.A X.stack s H C8.E0).nox
  have glob : Gl Z e := hge
  let tried : WX → TS := fun W D σ H1 => ∃ out : XK, (∀ cls d H', out cls d H' → W cls d σ H') ∧ σ[0]? = some (some (.ref f)) ∧ H1 c' = some (CodeO c' q) ∧ tl out H1 (fun _ H2 => D.nx σ H2)
  have inner : ∀ (W : WX) (pn : List (Addr × Obj)) (xe : Value → Shared → Prop), Takes (Z.tr pn xe) W → PassesOwn (model Z.prog Z.w) Z.A Z.env xe → PSs (Z.tr pn xe) [.Expr (.Call (.Name a p1) [] [] p2) p3] (tried W) := by
    intro W pn xe tk _
    refine ⟨fun pins s' σ H' D I told' => ?_⟩
    obtain ⟨out, hW, h1, h2, h3⟩ := told'
    exact (pss_one (ps_expr (pos := p3) (act _ pn xe out p1 p2 σ tk hW))).run pins s' σ H' D I ⟨rfl, h1, h2, h3⟩
  have whole := ps_try_as (X := Z) (c := .ref CS) (i := i) (tb := tried) (ts := ts) (Wout := fun _ _ _ _ => False) (pos := p6) (pos' := p5) (np := p4) rfl rfl nd hi hln ⟨glob, hde, .inl hme⟩ L2.takes0 inner (fun c oe cls d pn hz hf => hsu c oe cls d pn hz hf)
  refine ⟨fun pins s' σ H1 D I h => whole.run pins s' σ H1 D I ?_⟩
  obtain ⟨h1, h2, h3⟩ := h
  exact ⟨_, fun cls d H' h => h, h1, h2, h3⟩
end
end Sm

set_option Elab.async false
set_option linter.all false
set_option maxRecDepth 100000
set_option maxHeartbeats 4000000
namespace Sm
open PySem PySem.Spec PyProof.Rows L2
/-! ### try with several clauses `except C as n`, which together take all that the body raises -/
/-- behind a suite its name is gone -/
def offN (i : Nat) (D : Ends) : Ends := { nx := fun τ K => D.nx (τ.set i none) K, rt := D.rt, bk := fun τ K => D.bk (τ.set i none) K, ct := fun τ K => D.ct (τ.set i none) K }
def wNames (K : PySem.W.Frag) (D : Ends) : List (Value × Nat × (Addr → Value → Option Addr → TS)) → WX
  | [] => fun _ _ _ _ => False
  | (c, i, ts) :: more => fun cls d σ H => ∃ b, PySem.W.exmOne K cls c = some b ∧ (b = true → ∀ e, H e = none → ts e cls d (offN i D) (σ.set i (some (.ref e))) H) ∧ (b = false → wNames K D more cls d σ H)
inductive Clauses (X : Cx) : List ExceptHandler → List (Value × Nat × (Addr → Value → Option Addr → TS)) → Prop
  | nil : Clauses X [] []
  | cons {x n : Str} {c : Value} {i : Nat} {ts : Addr → Value → Option Addr → TS} {first : Stmt} {suite : List Stmt} {p q : Pos} {hds : List ExceptHandler} {more : List (Value × Nat × (Addr → Value → Option Addr → TS))}
      (known : Names X x c) (slot : X.N[i]? = some n) (own : X.env.kindOf n = some .local)
      (told : ∀ (e : Addr) (o : Obj) (cls : Value) (d : Option Addr) (pn : List (Addr × Obj)), Zc cls d o → (∃ vs, o.data = .fields vs) → PSs (X.suite e ((e, o) :: pn)) (first :: suite) (ts e cls d)) (rest : Clauses X hds more) :
      Clauses X (.ExceptHandler (some (.Name x p)) (some n) (first :: suite) q :: hds) ((c, i, ts) :: more)
section
variable {X : Cx} {body : List Stmt} {h₀ : ExceptHandler} {hds : List ExceptHandler} {cl : List (Value × Nat × (Addr → Value → Option Addr → TS))} {pos : Pos} {tb : WX → TS}
theorem ps_try_names (stk : X.stack = X.env :: X.outer) (frm : X.env.frame = some X.env.locals) (nd : X.N.Nodup)
    (inner : ∀ (W : WX) (pn : List (Addr × Obj)) (xe : Value → Shared → Prop), Takes (X.tr pn xe) W → PassesOwn (model X.prog X.w) X.A X.env xe → PSs (X.tr pn xe) body (tb W)) (cs : Clauses X (h₀ :: hds) cl) :
    PS X (.Try body (h₀ :: hds) [] [] pos) (fun D σ H => tb (wNames X.K D cl) D σ H) := by
  refine ⟨fun pins s σ H D I h => wpAny_Try_except ?_⟩
  have ok := I.ok
  refine wpAny_mono ((inner (wNames X.K D cl) (X.pn ++ pins) (fun e s₁ => wpAny (model X.prog X.w) X.A (noteFrame e X.env) (fun _ s₂ => wpAny (model X.prog X.w) X.A (setFlight e none) (fun _ s₃ => wpAny (model X.prog X.w) X.A (handleBy e X.env (h₀ :: hds)) (SP X pins D) X.xe s₃) X.xe s₂) X.xe s₁) ?_ PassesOwn.looking).run [] s σ H D (I.toTry _) h) ?_ (fun e s1 he => he)
  · rintro u s' ⟨a, B, sI, pins', τ, G, cls, d, rfl, J', bare, up, sky, fresh, os, ag, w⟩
    have J : Inv X pins τ G sI := J'.ofTry ok
    have sky2 : Sky B (X.env :: X.outer) a (Zc cls d) X.env.locals s'.heap := by rw [← stk]; exact sky
    show wpAny (model X.prog X.w) X.A (noteFrame (.ref a) X.env) _ _ _
    refine Sky.land Zc.steady (by rw [ok.frames, stk]) frm sky2 fun h3 fly up3 => ?_
    have landed : Inv X pins τ G { s' with heap := h3 } := J.landed bare fly.1 (up.trans up3) os ag
    obtain ⟨o3, vs3, there, kind, data⟩ := fly.there
    have outside : a ∉ frs (X.env :: X.outer) := fun m => by
      obtain ⟨_, o', e', no⟩ := fly.2.2.1.mem m
      rw [there] at e'; cases e'
      exact no _ data
    have nL : a ≠ X.env.locals := fun z => outside (List.mem_filterMap.mpr ⟨X.env, List.mem_cons_self, by rw [frm, z]⟩)
    have nF : a ∉ X.fs := fun m => by
      obtain ⟨e, he, q⟩ := List.mem_filterMap.mp m
      exact outside (List.mem_filterMap.mpr ⟨e, List.mem_cons_of_mem _ he, q⟩)
    have S3 := landed.suite there data fresh nL nF
    have typ : PySem.W.Looks (model X.prog X.w) h3 (typeOf (.ref a)) cls := fun A Q E s k q => wpAny_typeOf_ref (k _ _ there) (by rw [kind.1]; exact q)
    have each : ∀ {hs : List ExceptHandler} {ls : List (Value × Nat × (Addr → Value → Option Addr → TS))}, Clauses X hs ls → wNames X.K D ls cls d τ G → wpAny (model X.prog X.w) X.A (handleBy (.ref a) X.env hs) (SP X pins D) X.xe { s' with heap := h3 } := by
      intro hs ls cs
      induction cs with
      | nil => exact fun w => False.elim w
      | @cons x n c i ts first suite p q hds2 more known slot own told rest ih =>
        rintro ⟨b, asked, yes, no⟩
        refine wpAny_handleBy_cons (codeAny_handlers_test ?_) (by intro q; cases q)
        have match_ := PySem.W.exm_one (M := model X.prog X.w) landed.kIn typ asked
        have named : ∀ {Q : Value → Shared → Prop} {E : Value → Shared → Prop}, Q c { s' with heap := h3 } → wpAny (model X.prog X.w) (X.A.mark (some (.ref a))) (eval (.Name x p) X.env) Q E { s' with heap := h3 } := by
          intro Q E z
          obtain ⟨hg, hdbg, hm | ⟨hm, hv, hnn⟩⟩ := known
          · exact ld_glob (X := X.suite a ((a, o3) :: (X.pn ++ pins))) S3 hg hm z hdbg
          · exact ld_blt (X := X.suite a ((a, o3) :: (X.pn ++ pins))) S3 hg hm hv z hnn hdbg
        refine named (match_.here ?_)
        cases b with
        | false => exact ih (no rfl)
        | true =>
          refine codeAny_handlers_suite_as (HandSPX.lands_againZ fly fun h4 fly4 up4 => ?_)
          have J4 : Inv X pins τ G { s' with heap := h4 } := J.landed bare fly4.1 ((up.trans up3).trans up4) os ag
          obtain ⟨o4, vs4, there4, kind4, data4⟩ := fly4.there
          refine store_ok (X := X.suite a ((a, o4) :: (X.pn ++ pins))) (v := .ref a) (J4.suite there4 data4 fresh nL nF) nd slot (.inl own) rfl (fun s5 S5 => ?_) (.inr own)
          refine wpAny_mono ((told a o4 cls d (X.pn ++ pins) kind4 ⟨_, data4⟩).run [] s5 _ G _ S5 (yes rfl a fresh)) ?_ (fun _ _ z => False.elim z)
          intro fl s6 out
          have gone : ∀ {τ6 : L2.St} {H6 : Hp} {Q : Shared → Prop}, Inv (X.suite a ((a, o4) :: (X.pn ++ pins))) [] τ6 H6 s6 → (∀ s7, Inv X pins (τ6.set i none) H6 s7 → Q s7) → wpAny (model X.prog X.w) X.A (do bindName X.env n .none; unbindBehindTheSuite X.env n q) (fun _ s7 => Q s7) X.xe s6 :=
            fun {τ6 H6 Q} S6 z => gone_ok (S6.unsuite ok) nd slot own z
          match fl, out with
          | .next, ⟨τ6, H6, S6, z⟩ => exact gone S6 fun s7 J7 => ⟨_, _, J7, z⟩
          | .brk, ⟨τ6, H6, S6, z⟩ => exact gone S6 fun s7 J7 => ⟨_, _, J7, z⟩
          | .cont, ⟨τ6, H6, S6, z⟩ => exact gone S6 fun s7 J7 => ⟨_, _, J7, z⟩
          | .ret u, ⟨v6, τ6, H6, S6, r6, z⟩ => exact gone S6 fun s7 J7 => ⟨_, _, _, J7, r6, z⟩
    exact each cs w
  · intro fl s1 out
    match fl, out with
    | .next, ⟨τ, G, J', z⟩ => exact wpAny_execs_nil ⟨τ, G, J'.ofTry ok, z⟩
    | .brk, ⟨τ, G, J', z⟩ => exact ⟨τ, G, J'.ofTry ok, z⟩
    | .cont, ⟨τ, G, J', z⟩ => exact ⟨τ, G, J'.ofTry ok, z⟩
    | .ret u, ⟨v, τ, G, J', r, z⟩ => exact ⟨v, τ, G, J'.ofTry ok, r, z⟩
end
end Sm

set_option Elab.async false
set_option linter.all false
set_option maxRecDepth 100000
set_option maxHeartbeats 4000000
namespace Sm
open PySem PySem.Spec PyProof.Rows L2
/-! ### own exception classes with one field, over ValueError (XVal) and LookupError (XLook): what the written part says of them -/
structure XVal (K : PySem.W.Frag) (mg : Str → Option Value) (nm fl : Str) (C fI : Addr) : Prop where
  g : mg nm = some (.ref C)
  oex : OexC K C
  no : PySem.W.findIn K (.ref C) fl = some none
  iC : PySem.W.findIn K (.ref C) "__init__" = some (some (.ref fI))
  tI : PySem.W.typeIn K (.ref fI) = some (.type "function")
  xf : XfC K C
  ec : ExcC K C
  te : PySem.W.exmOne K (.ref C) (.ref C) = some true
structure XLook (K : PySem.W.Frag) (mg : Str → Option Value) (nm fl : Str) (C fI : Addr) : Prop where
  g : mg nm = some (.ref C)
  oex : OexL K C
  no : PySem.W.findIn K (.ref C) fl = some none
  iC : PySem.W.findIn K (.ref C) "__init__" = some (some (.ref fI))
  tI : PySem.W.typeIn K (.ref fI) = some (.type "function")
  xf : XfC K C
  ec : ExcC K C
  te : PySem.W.exmOne K (.ref C) (.ref C) = some true
/-- the def __init__ of such a class -/
def IniF (K : PySem.W.Frag) (q fl : Str) (st : Stmt) (fI : Addr) : Prop := ∃ fd, Fun K "__init__" q st fI fd ∧ Binds K fd ["self", fl] []
def CalX (P : Program) (w : World) (K : PySem.W.Frag) (mg : Str → Option Value) (base : Heap) (x : Str) (ps : List Str) (k : Nat) (sp : Sp) : Prop :=
  ∃ (f : Addr) (fd : FuncData), FnOk P w K mg base (L2.CX P w) k f fd ps sp ∧ mg x = some (.ref f) ∧ PySem.W.keepIn K (.ref f) = true ∧ Binds K fd ps []
/-- what is raised may be wished for at any slots that are there -/
theorem passL {X : Cx} {W : WX} {P : Program} {w : World} {n : Nat} (tk : Takes X W) (hp : X.prog = P := by rfl) (hw : X.w = w := by rfl) (hn : X.N.length = n := by rfl) : Passes (L2.CX P w) X (fun cls d H => ∀ σ : L2.St, σ.length = n → W cls d σ H) := by
  subst hp hw hn
  exact passes_call (takes_len tk) fun cls d σ H h => h σ
theorem un_mk {k : Nat} {A : Around} {h : Option Value} (r : Room k A) : (A.mark h).units + 100 < cLine := by
  have := r.un
  show A.units + 100 < cLine
  omega
theorem un_of {k : Nat} {A : Around} (r : Room k A) : A.units + 100 < cLine := by have := r.un; omega
/-- isinstance of an own instance -/
structure InsC (K : PySem.W.Frag) (C : Addr) : Prop where
  cl : Cls K C
  ha : PySem.W.findIn K (.ref C) "__class__" = some (some (.builtin "object.__class__"))
  hn : PySem.W.specialIn K (.builtin "object.__class__") "__get__" = some (some (.builtin "getset_descriptor.__get__"))
  ht : PySem.W.takesIn K (.builtin "object.__class__") = some true
  hm : PySem.W.mroIn K C (.type "object") = some true
theorem InsC.ty {K : PySem.W.Frag} {C a dx : Addr} {H : Hp} {fs : List (Str × V)} (c : InsC K C) (e : H a = some (.ins C dx fs)) : TyX K H (.ref a) (.ref C) := .base (.ins e c.cl c.ha c.hn c.ht c.hm)
/-! ### texts of texts -/
theorem ofString_small (s : String) : ∀ c ∈ (Str.ofString s).cps.toList, c < 16 ^ 8 := by
  intro c hc
  rw [signs_ofString] at hc
  obtain ⟨x, _, rfl⟩ := List.mem_map.mp hc
  have h : x.toNat < 1114112 := by
    have := x.valid
    rcases this with h | h
    · exact Nat.lt_trans h (by decide)
    · exact h.2
  exact Nat.lt_trans h (by decide)
end Sm

set_option Elab.async false
set_option linter.all false
set_option maxRecDepth 100000
set_option maxHeartbeats 4000000
namespace Sm
open PySem PySem.Spec PyProof.Rows L2
theorem own_ne {prog : Program} {w : World} {A : Around} {E : Value → Shared → Prop} {s : Shared} {K : PySem.W.Frag} {x C f : Addr} {ox : Obj} {od : Option Obj} {b tb : Value} {Q : Value → Shared → Prop} (u0 : A.units + 4 < cLine) (X : K.In s.heap) (J : PySem.W.InstAt s.heap x ox C od)
    (hb : PySem.W.Looks (model prog w) s.heap (typeOf b) tb) (nf : PySem.W.notFirst K C tb = true) (an : PySem.W.findIn K (.ref C) "__ne__" = some (some (.builtin "object.__ne__"))) (mo : PySem.W.mroIn K C (.type "object") = some true)
    (ae : PySem.W.findIn K (.ref C) "__eq__" = some (some (.ref f))) (fn : PySem.W.isFn K (.ref f) = true)
    (h : wpAny (model prog w) A.in1 (call (.ref f) [.ref x, b]) (fun v s' => ∃ r : Bool, v = .bool r ∧ Q (.bool (!r)) s') E s) : wpAny (model prog w) A (richCompare .NotEq (.ref x) b) Q E s := by
  have inner : wpAny (model prog w) A (call (.builtin "object.__ne__") [.ref x, b]) (fun v s' => ∃ r : Bool, v = .bool r ∧ Q (.bool r) s') E s := by
    refine wpAny_call (codeAny_call_builtin PySem.F.slot_object_ne.plain PySem.F.entry_object_ne (PySem.W.check_slot (i := "object.__ne__") (owner := "object") (n := "__ne__") (by decide +kernel) (by decide +kernel) (J.type.andThen (PySem.W.looks_mroIn X mo)) (PySem.F.args_object_ne_2 _ _) ?_))
    unfold Builtin.«object.__ne__»
    refine wpAny_bind (m := slotArgs "__ne__" 1 _) (wpAny_pure ?_)
    refine wpAny_bind (m := cRoomFor _ _) (wpAny_cRoomFor (by show A.units + 1 < cLine; omega) ?_)
    refine wpAny_bind (m := callSpecialIfBound? (.ref x) (Str.ofString "__eq__") _) (PySem.W.ifBound_K X J ae fn (wpAny_mono h ?_ fun _ _ z => z))
    rintro v s' ⟨r, rfl, q⟩
    exact wpAny_bind (wpAny_truthy_bool (wpAny_pure ⟨!r, rfl, q⟩))
  have one : wpAny (model prog w) A (tryCompare (.ref x) "__ne__" b) (fun r s' => ∃ z : Bool, r = some (.bool z) ∧ Q (.bool z) s') E s := by
    unfold tryCompare
    refine wpAny_bind ?_
    simp only [callSpecialIfBound?, bindSpecialIfBound?]
    refine wpAny_holding (wpAny_bind (wpAny_bind (wpAny_bind (J.type.here ((PySem.W.looks_findIn X an).here ?_)))))
    refine wpAny_bind (wpAny_askSetting (wpAny_ite ?_))
    have last : wpAny (model prog w) A (call (.builtin "object.__ne__") ([.ref x] ++ [b]) >>= fun v => pure (some v)) (fun r s' => wpAny (model prog w) A (match r with
      | some .notImplemented | none => pure none
      | some v => pure (some v)) (fun r s' => ∃ z : Bool, r = some (.bool z) ∧ Q (.bool z) s') E s') E s := by
      refine wpAny_bind (wpAny_mono inner ?_ fun _ _ z => z)
      rintro v s' ⟨r, rfl, q⟩
      exact wpAny_pure (wpAny_pure ⟨r, rfl, q⟩)
    split
    · exact wpAny_bind ((PySem.W.Looks.of_pure (PySem.F.slot_object_ne.bind _)).here (wpAny_pure (by exact last)))
    · exact wpAny_tryCatch (wpAny_bind ((PySem.W.Looks.of_pure (PySem.F.slot_object_ne.bind _)).here (wpAny_pure (by exact last))))
  unfold richCompare
  simp only [oneThing_ref]
  refine wpAny_holding (wpAny_bind (wpAny_cRoomFor (by omega) ?_))
  refine wpAny_bind (J.type.here (wpAny_bind (hb.here ?_)))
  have fin : wpAny (model prog w) A (tryCompare (.ref x) (cmpInfo .NotEq).2.1 b) (fun r s' => ∃ z : Bool, r = some (.bool z) ∧ Q (.bool z) s') E s := one
  split
  · rename_i q
    have e : PySem.W.subIn K tb (.ref C) = some false := by
      rcases Bool.or_eq_true_iff.mp nf with e | e
      · rw [beq_iff_eq.mp e] at q
        simp at q
      · exact beq_iff_eq.mp e
    refine wpAny_bind ((PySem.W.looks_subIn X e).here ?_)
    simp only [Bool.false_eq_true, if_false]
    refine wpAny_bind (wpAny_mono fin ?_ fun _ _ z => z)
    rintro r s' ⟨z, rfl, q⟩
    exact wpAny_pure q
  · refine wpAny_bind (wpAny_pure ?_)
    simp only [Bool.false_eq_true, if_false]
    refine wpAny_bind (wpAny_mono fin ?_ fun _ _ z => z)
    rintro r s' ⟨z, rfl, q⟩
    exact wpAny_pure q
/-! ### own special methods (__len__, __add__, __contains__, __eq__ ..) at instances of an own class -/
/-- the class at C has the def at f as its special method nm -/
structure Spm (K : PySem.W.Frag) (C : Addr) (nm : Str) (f : Addr) : Prop where
  at_ : PySem.W.findIn K (.ref C) nm = some (some (.ref f))
  fn : PySem.W.isFn K (.ref f) = true
section
variable {X : Cx} {CX : CXT} {n : Nat} {f C : Addr} {fd : FuncData} {ps : List Str} {sp : Sp} {E : XK}
/-- the def runs below the running body -/
theorem own_run {A : Around} {pins : List (Addr × Obj)} {s : Shared} {σ : L2.St} {H : Hp} {Q : VK} {us : List Value} {vs : List V} (F : FnOk X.prog X.w X.K X.mg X.base CX n f fd ps sp) (hb : Binds X.K fd ps []) (hx : Passes CX X E) (sb : Sub X n A)
    (I : Inv X pins σ H s) (r : Vals vs us) (h : sp vs H Q E) : wpAny (model X.prog X.w) A (call (.ref f) us) (EP X pins σ Q) X.xe s := by
  have z := I.env0
  have e0 : Env0 X.prog X.w X.K X.mg X.base A X.stack s H := ⟨by rw [sb.fr]; exact z.frames, z.mod, z.bs, z.bsz, z.funs, z.frf, z.hok, z.bare⟩
  have ln := F.len _ _ _ _ h
  have bi : BindsTo s fd ⟨us, []⟩ (ps.zip us) := by
    have q := hb s us I.kIn (by rw [List.append_nil, ← r.length]; exact ln)
    rwa [List.append_nil] at q
  refine wpAny_call (codeAny_mono (F.run A X.stack s H ⟨us, []⟩ us vs Q E sb.room e0 bi r h) ?_)
  rintro (e | out) s' got
  · exact hx pins σ H s e s' I got
  · match out, got with
    | .ret u, got => exact I.after got
    | .next, got => exact got.elim
    | .brk, got => exact got.elim
    | .cont, got => exact got.elim
theorem inst_of {pins : List (Addr × Obj)} {s : Shared} {σ : L2.St} {H : Hp} {a dx : Addr} {fs : List (Str × V)} (I : Inv X pins σ H s) (h : H a = some (.ins C dx fs)) : ∃ (ox : Obj) (od : Option Obj), PySem.W.InstAt s.heap a ox C od := by
  obtain ⟨mA, J, _⟩ := ins_get I.hok h
  obtain ⟨od, J, _⟩ := J.look
  exact ⟨_, _, J⟩
/-- len(o) -/
def rLenO (C : Addr) (sp : Sp) (E : XK) : List V → Hp → VK → Prop := fun xs H Q => ∃ (a dx : Addr) (fs : List (Str × V)), xs = [V.ref a] ∧ H a = some (.ins C dx fs) ∧ sp [.ref a] H (fun z H' => ∃ i : Int, z = .int i ∧ 0 ≤ i ∧ i < 2 ^ 63 ∧ Q (.int i) H') E
theorem call_lenO (m : Spm X.K C "__len__" f) (F : FnOk X.prog X.w X.K X.mg X.base CX n f fd ps sp) (hb : Binds X.K fd ps []) (hr : Room (n + 1) X.A) (hx : Passes CX X E) : CallR X (.builtin "len") (rLenO C sp E) := by
  intro pins s σ H xs us Q I r h
  obtain ⟨a, dx, fs, rfl, ha, q⟩ := h
  obtain ⟨u, rfl, ru⟩ := vals1 r
  cases (show u = Value.ref a from ru)
  obtain ⟨ox, od, J⟩ := inst_of I ha
  obtain ⟨mm, hF⟩ := I.fr
  refine PySem.W.len_K hF I.ok.mod.kin J m.at_ m.fn (wpAny_mono (own_run (A := X.A.in1) (vs := [.ref a]) F hb hx ⟨hr.in1, rfl⟩ I (.cons rfl .nil) q) ?_ fun _ _ z => z)
  rintro v s' ⟨z, H', I', rz, i, rfl, i0, i1, q⟩
  obtain ⟨t, rfl⟩ := (show ∃ t, v = Value.int i t from rz)
  exact ⟨⟨i0, i1⟩, .int i, H', I'.tok _, ⟨_, rfl⟩, q⟩
/-- x op y, both of the class -/
def rBinO (C : Addr) (sp : Sp) (E : XK) : R2 := fun x y H Q => ∃ (a dx : Addr) (fs : List (Str × V)) (b dy : Addr) (gs : List (Str × V)), x = .ref a ∧ y = .ref b ∧ H a = some (.ins C dx fs) ∧ H b = some (.ins C dy gs) ∧ sp [x, y] H Q E
theorem op_binO {op : Operator} (m : Spm X.K C (PySem.dunder op.info.2) f) (hc : PySem.W.selfFirst X.K C = true) (F : FnOk X.prog X.w X.K X.mg X.base CX n f fd ps sp) (hb : Binds X.K fd ps []) (hr : Room n X.A) (hx : Passes CX X E) : OpR X (binaryOp op) (rBinO C sp E) := by
  intro pins s σ H x y v u Q I rx ry h
  obtain ⟨a, dx, fs, b, dy, gs, rfl, rfl, ha, hb', q⟩ := h
  cases (show v = Value.ref a from rx)
  cases (show u = Value.ref b from ry)
  obtain ⟨ox, od, J⟩ := inst_of I ha
  obtain ⟨oy, ody, J'⟩ := inst_of I hb'
  obtain ⟨mm, hF⟩ := I.fr
  refine PySem.W.binop_K hF I.ok.mod.kin J J'.type hc m.at_ m.fn (wpAny_mono (own_run (vs := [.ref a, .ref b]) F hb hx ⟨hr, rfl⟩ I (.cons rfl (.cons rfl .nil)) q) ?_ fun _ _ z => z)
  rintro v s' ⟨z, H', I', rz, q⟩
  exact SlX.cmpback rz ⟨z, H', I', rz, q⟩
/-- x in o, x not in o -/
def rInO (neg : Bool) (C : Addr) (sp : Sp) (E : XK) : R2 := fun x y H Q => ∃ (b dy : Addr) (gs : List (Str × V)), y = .ref b ∧ H b = some (.ins C dy gs) ∧ sp [y, x] H (fun z H' => ∃ r : Bool, z = .bl r ∧ Q (.bl (if neg = true then !r else r)) H') E
theorem op_inO (m : Spm X.K C "__contains__" f) (F : FnOk X.prog X.w X.K X.mg X.base CX n f fd ps sp) (hb : Binds X.K fd ps []) (hr : Room n X.A) (hx : Passes CX X E) : OpR X (compareOp .In) (rInO false C sp E) := by
  intro pins s σ H x y v u Q I rx ry h
  obtain ⟨b, dy, gs, rfl, hb', q⟩ := h
  cases (show u = Value.ref b from ry)
  obtain ⟨oy, ody, J⟩ := inst_of I hb'
  obtain ⟨mm, hF⟩ := I.fr
  refine PySem.W.in_K hF I.ok.mod.kin J m.at_ m.fn (wpAny_mono (own_run (vs := [.ref b, x]) F hb hx ⟨hr, rfl⟩ I (.cons rfl (.cons rx .nil)) q) ?_ fun _ _ z => z)
  rintro v s' ⟨z, H', I', rz, r, rfl, q⟩
  cases (show v = Value.bool r from rz)
  exact wpAny_truthy_bool ⟨.bl r, H', I', rfl, q⟩
theorem op_notInO (m : Spm X.K C "__contains__" f) (F : FnOk X.prog X.w X.K X.mg X.base CX n f fd ps sp) (hb : Binds X.K fd ps []) (hr : Room n X.A) (hx : Passes CX X E) : OpR X (compareOp .NotIn) (rInO true C sp E) := by
  intro pins s σ H x y v u Q I rx ry h
  obtain ⟨b, dy, gs, rfl, hb', q⟩ := h
  cases (show u = Value.ref b from ry)
  obtain ⟨oy, ody, J⟩ := inst_of I hb'
  obtain ⟨mm, hF⟩ := I.fr
  refine PySem.W.notIn_K hF I.ok.mod.kin J m.at_ m.fn (wpAny_mono (own_run (vs := [.ref b, x]) F hb hx ⟨hr, rfl⟩ I (.cons rfl (.cons rx .nil)) q) ?_ fun _ _ z => z)
  rintro v s' ⟨z, H', I', rz, r, rfl, q⟩
  cases (show v = Value.bool r from rz)
  exact wpAny_truthy_bool ⟨.bl (!r), H', I', rfl, q⟩
/-- x == y, both of the class -/
theorem op_eqO (m : Spm X.K C "__eq__" f) (F : FnOk X.prog X.w X.K X.mg X.base CX n f fd ps sp) (hb : Binds X.K fd ps []) (hr : Room n X.A) (hx : Passes CX X E) : OpR X (compareOp .Eq) (rBinO C sp E) := by
  intro pins s σ H x y v u Q I rx ry h
  obtain ⟨a, dx, fs, b, dy, gs, rfl, rfl, ha, hb', q⟩ := h
  cases (show v = Value.ref a from rx)
  cases (show u = Value.ref b from ry)
  obtain ⟨ox, od, J⟩ := inst_of I ha
  obtain ⟨oy, ody, J'⟩ := inst_of I hb'
  obtain ⟨mm, hF⟩ := I.fr
  show wpAny (model X.prog X.w) X.A (richCompare .Eq (.ref a) (.ref b)) (EP X pins σ Q) X.xe s
  refine PySem.W.cmp_K (op := .Eq) (tb := .ref C) hr.units0 hF I.ok.mod.kin J J'.type (by simp [PySem.W.notFirst]) m.at_ m.fn (wpAny_mono (own_run (vs := [.ref a, .ref b]) F hb hx ⟨hr, rfl⟩ I (.cons rfl (.cons rfl .nil)) q) ?_ fun _ _ z => z)
  rintro v s' ⟨z, H', I', rz, q⟩
  exact SlX.cmpback rz ⟨z, H', I', rz, q⟩
/-- x != y, both of the class, which has no __ne__ of its own -/
def rNeO (C : Addr) (sp : Sp) (E : XK) : R2 := fun x y H Q => ∃ (a dx : Addr) (fs : List (Str × V)) (b dy : Addr) (gs : List (Str × V)), x = .ref a ∧ y = .ref b ∧ H a = some (.ins C dx fs) ∧ H b = some (.ins C dy gs) ∧ sp [x, y] H (fun z H' => ∃ r : Bool, z = .bl r ∧ Q (.bl (!r)) H') E
theorem op_neO (m : Spm X.K C "__eq__" f) (an : PySem.W.findIn X.K (.ref C) "__ne__" = some (some (.builtin "object.__ne__"))) (mo : PySem.W.mroIn X.K C (.type "object") = some true) (F : FnOk X.prog X.w X.K X.mg X.base CX n f fd ps sp) (hb : Binds X.K fd ps []) (hr : Room (n + 1) X.A) (hx : Passes CX X E) : OpR X (compareOp .NotEq) (rNeO C sp E) := by
  intro pins s σ H x y v u Q I rx ry h
  obtain ⟨a, dx, fs, b, dy, gs, rfl, rfl, ha, hb', q⟩ := h
  cases (show v = Value.ref a from rx)
  cases (show u = Value.ref b from ry)
  obtain ⟨ox, od, J⟩ := inst_of I ha
  obtain ⟨oy, ody, J'⟩ := inst_of I hb'
  show wpAny (model X.prog X.w) X.A (richCompare .NotEq (.ref a) (.ref b)) (EP X pins σ Q) X.xe s
  refine own_ne (by have := hr.un; omega) I.kIn J J'.type (by simp [PySem.W.notFirst]) an mo m.at_ m.fn (wpAny_mono (own_run (vs := [.ref a, .ref b]) F hb hx ⟨hr.in1, rfl⟩ I (.cons rfl (.cons rfl .nil)) q) ?_ fun _ _ z => z)
  rintro v s' ⟨z, H', I', rz, r, rfl, q⟩
  cases (show v = Value.bool r from rz)
  exact ⟨r, rfl, .bl (!r), H', I', rfl, q⟩
end
end Sm

set_option Elab.async false
set_option linter.all false
set_option maxRecDepth 100000
set_option maxHeartbeats 4000000
namespace Sm
open PySem PySem.Spec PyProof.Rows L2
/-! ### an attribute as a target: a.f, b.g = t -/
def gFld (K : PySem.W.Frag) (to : TE) (f : Str) : TG := fun v σ H Q => to σ H fun x G => ∃ (a C dx : Addr) (fs : List (Str × V)), x = V.ref a ∧ G a = some (.ins C dx fs) ∧ Cls K C ∧ NoAttr K C f ∧ fs.length < 1000 ∧ Q σ (upd G a (.ins C dx (putF f v fs)))
theorem pg_fld {X : Cx} {o : Expr} {f : Str} {pos : Pos} {to : TE} (ho : PE X o to) : PG X (.Attribute o f pos) (gFld X.K to f) := by
  constructor
  intro pins s σ H v u Q I r want
  rw [assign_Attribute]
  refine wpAny_bind (wpAny_holding (thn (ho.run pins s σ H _ I want) ?_))
  rintro ov s1 ⟨x, G, J, rx, a, C, dx, fs, rfl, ha, c, n, l, q⟩
  cases (show ov = Value.ref a from rx)
  refine wpAny_bind (wpAny_standAt (wpAny_bind (wpAny_holding (setattr_ok J ha c n l r fun s2 J2 => ?_))))
  exact wpAny_release ⟨σ, _, J2, q⟩
end Sm

set_option maxHeartbeats 4000000
namespace Sm
/-! offers, boards, and what leads where -/
structure Of where
  a : Nat
  x : Int
  b : Nat
  y : Int
def Of.ns (o : Of) : List Int := [(o.a : Int), o.x, (o.b : Int), o.y]
structure OfOk (k : Nat) (o : Of) : Prop where
  a : o.a < k
  b : o.b < k
  ne : o.a ≠ o.b
  x0 : 1 ≤ o.x
  x1 : o.x ≤ 30
  y0 : 0 ≤ o.y
  y1 : o.y ≤ 30
def Edge (L : List Of) (a b : Nat) : Prop := ∃ o ∈ L, o.a = a ∧ o.b = b ∧ 0 < o.y
def Rn (L : List Of) (s : Nat) : Nat → Nat → Prop
  | 0, c => c = s
  | n + 1, c => Rn L s n c ∨ ∃ b, Rn L s n b ∧ Edge L b c
def Lead (L : List Of) (s c : Nat) : Prop := ∃ n, Rn L s n c
section
variable {L : List Of} {s c d k : Nat}
theorem Rn.up {n m : Nat} (h : n ≤ m) (r : Rn L s n c) : Rn L s m c := by
  induction m with
  | zero => rw [show n = 0 by omega] at r; exact r
  | succ m ih =>
    by_cases q : n = m + 1
    · rw [← q]; exact r
    · exact .inl (ih (by omega))
theorem Lead.self : Lead L s s := ⟨0, rfl⟩
theorem Lead.step (h : Lead L s c) (e : Edge L c d) : Lead L s d := by
  obtain ⟨n, r⟩ := h
  exact ⟨n + 1, .inr ⟨c, r, e⟩⟩
theorem Lead.closed {S : Nat → Prop} (h0 : S s) (hs : ∀ a b, S a → Edge L a b → S b) (h : Lead L s c) : S c := by
  obtain ⟨n, r⟩ := h
  induction n generalizing c with
  | zero => rw [show c = s from r]; exact h0
  | succ n ih =>
    rcases r with r | ⟨b, r, e⟩
    · exact ih r
    · exact hs _ _ (ih r) e
theorem Lead.trans (h1 : Lead L s c) (h2 : Lead L c d) : Lead L s d := h2.closed (S := fun x => Lead L s x) h1 fun _ _ h e => h.step e
theorem filter_less {α : Type} {p q : α → Bool} : ∀ {l : List α}, (∀ x ∈ l, p x = true → q x = true) → (∃ x ∈ l, q x = true ∧ p x = false) → (l.filter p).length + 1 ≤ (l.filter q).length
  | [], _, h => by obtain ⟨_, h, _⟩ := h; cases h
  | a :: l, h, ⟨x, hx, h1, h2⟩ => by
    have le : (l.filter p).length ≤ (l.filter q).length := by
      clear hx h1 h2
      induction l with
      | nil => exact Nat.le_refl _
      | cons b l ih =>
        have i := ih fun x hx => by
          rcases List.mem_cons.mp hx with e | e
          · exact h x (by rw [e]; exact List.mem_cons_self)
          · exact h x (List.mem_cons_of_mem _ (List.mem_cons_of_mem _ e))
        have hb := h b (List.mem_cons_of_mem _ List.mem_cons_self)
        rw [List.filter_cons, List.filter_cons]
        cases e : p b with
        | true => rw [if_pos rfl, if_pos (hb e)]; simp; exact i
        | false =>
          rw [if_neg Bool.false_ne_true]
          split
          · simp; omega
          · exact i
    rw [List.filter_cons, List.filter_cons]
    rcases List.mem_cons.mp hx with e | e
    · subst e
      rw [h1, h2, if_neg Bool.false_ne_true, if_pos rfl]
      simp
      exact le
    · have i := filter_less (fun x hx => h x (List.mem_cons_of_mem _ hx)) ⟨x, e, h1, h2⟩
      have ha := h a List.mem_cons_self
      cases e : p a with
      | true => rw [if_pos rfl, if_pos (ha e)]; simp; omega
      | false =>
        rw [if_neg Bool.false_ne_true]
        split
        · simp; omega
        · exact i
noncomputable def cnt (L : List Of) (s k n : Nat) : Nat := ((List.range k).filter fun c => @decide (Rn L s n c) (Classical.propDecidable _)).length
theorem cdec {p : Prop} : (@decide p (Classical.propDecidable _)) = true ↔ p := @decide_eq_true_iff p (Classical.propDecidable _)
theorem cdecf {p : Prop} : (@decide p (Classical.propDecidable _)) = false ↔ ¬ p := @decide_eq_false_iff_not p (Classical.propDecidable _)
theorem Rn.lt {n : Nat} (hL : ∀ o ∈ L, OfOk k o) (hs : s < k) (r : Rn L s n c) : c < k := by
  induction n generalizing c with
  | zero => rw [show c = s from r]; exact hs
  | succ n ih =>
    rcases r with r | ⟨b, r, o, ho, _, e, _⟩
    · exact ih r
    · rw [← e]; exact (hL o ho).b
theorem Lead.lt (hL : ∀ o ∈ L, OfOk k o) (hs : s < k) (h : Lead L s c) : c < k := by
  obtain ⟨n, r⟩ := h
  exact r.lt hL hs
theorem Lead.to (hL : ∀ o ∈ L, OfOk k o) (hs : s < k) (h : Lead L s c) : Rn L s k c := by
  have key : ∀ n, (∃ m, m ≤ n ∧ ∀ c, Rn L s (m + 1) c → Rn L s m c) ∨ n + 1 ≤ cnt L s k n := by
    intro n
    induction n with
    | zero =>
      right
      have : 0 < cnt L s k 0 := List.length_pos_of_mem (a := s) (List.mem_filter.mpr ⟨List.mem_range.mpr hs, cdec.mpr rfl⟩)
      omega
    | succ n ih =>
      rcases ih with ⟨m, h1, h2⟩ | ih
      · exact .inl ⟨m, by omega, h2⟩
      · rcases Classical.em (∀ c, Rn L s (n + 1) c → Rn L s n c) with q | q
        · exact .inl ⟨n, by omega, q⟩
        · right
          obtain ⟨c, hc⟩ := Classical.not_forall.mp q
          obtain ⟨h1, h2⟩ := Classical.not_imp.mp hc
          have := filter_less (l := List.range k) (p := fun c => @decide (Rn L s n c) (Classical.propDecidable _)) (q := fun c => @decide (Rn L s (n + 1) c) (Classical.propDecidable _))
            (fun x _ hx => cdec.mpr (.inl (cdec.mp hx))) ⟨c, List.mem_range.mpr (h1.lt hL hs), cdec.mpr h1, cdecf.mpr h2⟩
          unfold cnt at ih ⊢
          omega
  rcases key k with ⟨m, h1, h2⟩ | q
  · refine Rn.up h1 ?_
    exact h.closed (S := fun x => Rn L s m x) (Rn.up (Nat.zero_le _) rfl) fun a b ha e => h2 b (.inr ⟨a, ha, e⟩)
  · have : cnt L s k k ≤ k := by
      unfold cnt
      exact Nat.le_trans (List.length_filter_le ..) (by rw [List.length_range]; exact Nat.le_refl _)
    omega
end
/-! sorted lists -/
theorem srt_eq {α : Type} {lt : α → α → Prop} (irr : ∀ x, ¬ lt x x) (tr : ∀ x y z, lt x y → lt y z → lt x z) : ∀ {l m : List α}, l.Pairwise lt → m.Pairwise lt → (∀ x, x ∈ l ↔ x ∈ m) → l = m
  | [], [], _, _, _ => rfl
  | [], b :: m, _, _, h => by have := (h b).mpr List.mem_cons_self; cases this
  | a :: l, [], _, _, h => by have := (h a).mp List.mem_cons_self; cases this
  | a :: l, b :: m, h1, h2, h => by
    obtain ⟨p1, q1⟩ := List.pairwise_cons.mp h1
    obtain ⟨p2, q2⟩ := List.pairwise_cons.mp h2
    have e : a = b := by
      rcases List.mem_cons.mp ((h a).mp List.mem_cons_self) with e | e
      · exact e
      · rcases List.mem_cons.mp ((h b).mpr List.mem_cons_self) with f | f
        · exact f.symm
        · exact (irr a (tr _ _ _ (p1 b f) (p2 a e))).elim
    subst e
    rw [srt_eq irr tr q1 q2 fun x => ⟨fun hx => ?_, fun hx => ?_⟩]
    · rcases List.mem_cons.mp ((h x).mp (List.mem_cons_of_mem _ hx)) with e | e
      · subst e; exact (irr _ (p1 _ hx)).elim
      · exact e
    · rcases List.mem_cons.mp ((h x).mpr (List.mem_cons_of_mem _ hx)) with e | e
      · subst e; exact (irr _ (p2 _ hx)).elim
      · exact e
theorem range_lt (k : Nat) : (List.range k).Pairwise (· < ·) := List.pairwise_lt_range
noncomputable def leadsL (L : List Of) (k s : Nat) : List Nat := (List.range k).filter fun c => @decide (Lead L s c) (Classical.propDecidable _)
noncomputable def backs (L : List Of) (k s : Nat) : List Nat := (List.range k).filter fun c => @decide (Lead L s c ∧ Lead L c s) (Classical.propDecidable _)
theorem mem_leads {L : List Of} {k s c : Nat} : c ∈ leadsL L k s ↔ c < k ∧ Lead L s c := by
  unfold leadsL
  rw [List.mem_filter, List.mem_range, cdec]
theorem mem_backs {L : List Of} {k s c : Nat} : c ∈ backs L k s ↔ c < k ∧ Lead L s c ∧ Lead L c s := by
  unfold backs
  rw [List.mem_filter, List.mem_range, cdec]
theorem backs_same {L : List Of} {k s c : Nat} (h : c ∈ backs L k s) : backs L k c = backs L k s := by
  obtain ⟨h0, h1, h2⟩ := mem_backs.mp h
  unfold backs
  refine List.filter_congr fun x _ => ?_
  have : (Lead L c x ∧ Lead L x c) ↔ (Lead L s x ∧ Lead L x s) := ⟨fun ⟨a, b⟩ => ⟨h1.trans a, b.trans h2⟩, fun ⟨a, b⟩ => ⟨h2.trans a, b.trans h1⟩⟩
  rw [Bool.eq_iff_iff, cdec, cdec]
  exact this
theorem backs_self {L : List Of} {k s : Nat} (h : s < k) : s ∈ backs L k s := mem_backs.mpr ⟨h, .self, .self⟩
theorem leads_lt (L : List Of) (k s : Nat) : (leadsL L k s).Pairwise (· < ·) := (range_lt k).filter _
theorem backs_lt (L : List Of) (k s : Nat) : (backs L k s).Pairwise (· < ·) := (range_lt k).filter _
theorem backs_len (L : List Of) (k s : Nat) : (backs L k s).length ≤ k := Nat.le_trans (List.length_filter_le ..) (by rw [List.length_range]; exact Nat.le_refl _)
theorem leads_len (L : List Of) (k s : Nat) : (leadsL L k s).length ≤ k := Nat.le_trans (List.length_filter_le ..) (by rw [List.length_range]; exact Nat.le_refl _)
theorem backs_filter (L : List Of) (k s : Nat) : (leadsL L k s).filter (fun c => @decide (Lead L c s) (Classical.propDecidable _)) = backs L k s := by
  unfold leadsL backs
  rw [List.filter_filter]
  refine List.filter_congr fun x _ => ?_
  rw [Bool.eq_iff_iff, Bool.and_eq_true, cdec, cdec, cdec]
  exact ⟨fun ⟨a, b⟩ => ⟨b, a⟩, fun ⟨a, b⟩ => ⟨b, a⟩⟩
theorem nd_len {α : Type} [DecidableEq α] : ∀ {l m : List α}, l.Nodup → (∀ x, x ∈ l → x ∈ m) → l.length ≤ m.length
  | [], _, _, _ => Nat.zero_le _
  | a :: l, m, hn, hs => by
    have hm : a ∈ m := hs a List.mem_cons_self
    obtain ⟨n1, n2⟩ := List.nodup_cons.mp hn
    have ih := nd_len (m := m.erase a) n2 fun x hx => (List.mem_erase_of_ne (by rintro rfl; exact n1 hx)).mpr (hs x (List.mem_cons_of_mem _ hx))
    rw [List.length_erase_of_mem hm] at ih
    have := List.length_pos_of_mem hm
    simp only [List.length_cons]
    omega
/-- numbers as integers -/
abbrev ni (l : List Nat) : List Int := l.map fun (c : Nat) => (c : Int)
theorem mem_ni {l : List Nat} {c : Nat} : (c : Int) ∈ ni l ↔ c ∈ l := by
  constructor
  · intro h
    obtain ⟨d, hd, e⟩ := List.mem_map.mp h
    rw [← Int.ofNat.inj e]
    exact hd
  · intro h
    exact List.mem_map.mpr ⟨c, h, rfl⟩
theorem ni_sorted {l : List Nat} (h : l.Pairwise (· < ·)) : (ni l).Pairwise (· < ·) := by
  rw [List.pairwise_map]
  exact h.imp fun q => Int.ofNat_lt.mpr q
theorem ni_nodup {l : List Nat} (h : l.Nodup) : (ni l).Nodup := by
  unfold List.Nodup at h ⊢
  rw [List.pairwise_map]
  exact h.imp fun q e => q (Int.ofNat.inj e)
/-- a sorted arrangement of given numbers -/
theorem ni_sort {F l : List Nat} {ys : List Int} (pm : ys.Perm (ni F)) (le : ys.Pairwise (· ≤ ·)) (nd : F.Nodup) (up : l.Pairwise (· < ·)) (h : ∀ c, c ∈ F ↔ c ∈ l) : ys = ni l := by
  have ny : ys.Nodup := (pm.nodup_iff).mpr (ni_nodup nd)
  have lt : ys.Pairwise (· < ·) := by
    have both := List.Pairwise.and le ny
    exact both.imp fun ⟨a, b⟩ => by omega
  refine srt_eq (lt := fun a b : Int => a < b) (fun x => Int.lt_irrefl x) (fun x y z => Int.lt_trans) lt (ni_sorted up) fun x => ?_
  rw [pm.mem_iff]
  constructor
  · intro hx
    obtain ⟨c, hc, rfl⟩ := List.mem_map.mp hx
    exact mem_ni.mpr ((h c).mp hc)
  · intro hx
    obtain ⟨c, hc, rfl⟩ := List.mem_map.mp hx
    exact mem_ni.mpr ((h c).mpr hc)
end Sm

set_option maxHeartbeats 4000000
namespace Sm
/-! ways: what they need and change -/
structure Tl where
  n : Nat → Int
  c : Nat → Int
def Tl.zero : Tl := ⟨fun _ => 0, fun _ => 0⟩
def Tl.seq (t u : Tl) : Tl := ⟨fun k => max (t.n k) (u.n k - t.c k), fun k => t.c k + u.c k⟩
def Tl.rnd (t : Tl) (m : Int) : Tl := ⟨fun k => max (t.n k) (t.n k - (m - 1) * t.c k), fun k => m * t.c k⟩
def n1 (o : Of) (k : Nat) : Int := if k = o.a then o.x else 0
def c1 (o : Of) (k : Nat) : Int := if k = o.b then o.y else if k = o.a then -o.x else 0
def runT (o : Of) (m : Int) : Tl := ⟨fun k => if k = o.a then m * o.x else 0, fun k => if k = o.b then m * o.y else if k = o.a then -m * o.x else 0⟩
def ofI (L : List Of) (i : Nat) : Of := L.getD i ⟨0, 0, 0, 0⟩
theorem ofI_at {L : List Of} {i : Nat} {o : Of} (h : L[i]? = some o) : ofI L i = o := by
  unfold ofI
  rw [List.getD_eq_getElem?_getD, h]
  rfl
theorem ofI_mem {L : List Of} {i : Nat} (h : i < L.length) : ofI L i ∈ L := by
  unfold ofI
  rw [List.getD_eq_getElem?_getD, List.getElem?_eq_getElem h]
  exact List.getElem_mem h
inductive St where
  | run (i : Nat) (m : Int)
  | rnd (rs : List (Nat × Int)) (m : Int)
def runsT (L : List Of) (rs : List (Nat × Int)) : Tl := rs.foldl (fun t r => t.seq (runT (ofI L r.1) r.2)) Tl.zero
def stT (L : List Of) : St → Tl
  | .run i m => runT (ofI L i) m
  | .rnd rs m => (runsT L rs).rnd m
def wayT (L : List Of) (ss : List St) : Tl := ss.foldl (fun t s => t.seq (stT L s)) Tl.zero
/-- a list of runs as a way -/
def asWay (rs : List (Nat × Int)) : List St := rs.map fun r => .run r.1 r.2
theorem asWay_T (L : List Of) (rs : List (Nat × Int)) : wayT L (asWay rs) = runsT L rs := by
  unfold wayT asWay runsT
  rw [List.foldl_map]
  rfl
theorem wayT_take {L : List Of} {ss : List St} {j : Nat} {s : St} (h : ss[j]? = some s) : wayT L (ss.take (j + 1)) = (wayT L (ss.take j)).seq (stT L s) := by
  unfold wayT
  rw [List.take_add_one, h, List.foldl_append]
  rfl
/-! uses, one after another -/
def bn : List Of → Nat → Int
  | [], _ => 0
  | o :: U, k => max (n1 o k) (bn U k - c1 o k)
def bc : List Of → Nat → Int
  | [], _ => 0
  | o :: U, k => c1 o k + bc U k
theorem bn_pos (U : List Of) (h : ∀ o ∈ U, 0 ≤ o.x) (k : Nat) : 0 ≤ bn U k := by
  cases U with
  | nil => exact Int.le_refl _
  | cons o U =>
    have := h o List.mem_cons_self
    unfold bn n1
    split <;> omega
theorem bc_app (U W : List Of) (k : Nat) : bc (U ++ W) k = bc U k + bc W k := by
  induction U with
  | nil => show bc W k = 0 + bc W k; omega
  | cons o U ih =>
    show c1 o k + bc (U ++ W) k = c1 o k + bc U k + bc W k
    omega
theorem bn_app {U W : List Of} (hW : ∀ o ∈ W, 0 ≤ o.x) (k : Nat) : bn (U ++ W) k = max (bn U k) (bn W k - bc U k) := by
  induction U with
  | nil =>
    have := bn_pos W hW k
    show bn W k = max 0 (bn W k - 0)
    omega
  | cons o U ih =>
    show max (n1 o k) (bn (U ++ W) k - c1 o k) = max (max (n1 o k) (bn U k - c1 o k)) (bn W k - (c1 o k + bc U k))
    rw [ih]
    omega
def reps (m : Nat) (U : List Of) : List Of := (List.replicate m U).flatten
theorem reps_x {m : Nat} {U : List Of} (h : ∀ o ∈ U, 0 ≤ o.x) : ∀ o ∈ reps m U, 0 ≤ o.x := fun o ho => by
  obtain ⟨l, hl, hl2⟩ := List.mem_flatten.mp ho
  rw [List.eq_of_mem_replicate hl] at hl2
  exact h o hl2
theorem reps_succ (m : Nat) (U : List Of) : reps (m + 1) U = U ++ reps m U := by
  unfold reps
  rw [List.replicate_succ, List.flatten_cons]
theorem bc_reps (m : Nat) (U : List Of) (k : Nat) : bc (reps m U) k = (m : Int) * bc U k := by
  induction m with
  | zero => simp [reps, bc]
  | succ m ih =>
    rw [reps_succ, bc_app, ih, Int.natCast_add, Int.add_mul]
    simp
    omega
theorem bn_reps {U : List Of} (h : ∀ o ∈ U, 0 ≤ o.x) (m : Nat) (k : Nat) : bn (reps (m + 1) U) k = max (bn U k) (bn U k - (m : Int) * bc U k) := by
  induction m with
  | zero =>
    rw [reps_succ]
    show bn (U ++ reps 0 U) k = _
    rw [show reps 0 U = [] from rfl, List.append_nil]
    simp
  | succ m ih =>
    rw [reps_succ, bn_app (reps_x h), ih]
    have p := bn_pos U h k
    have e : ((m + 1 : Nat) : Int) * bc U k = (m : Int) * bc U k + bc U k := by
      rw [Int.natCast_add, Int.add_mul]
      simp
    rw [e]
    rcases Int.le_total 0 (bc U k) with q | q
    · have : 0 ≤ (m : Int) * bc U k := Int.mul_nonneg (by omega) q
      omega
    · have : (m : Int) * bc U k ≤ 0 := Int.mul_nonpos_of_nonneg_of_nonpos (by omega) q
      omega
/-- what a list of uses needs and changes -/
def useT (U : List Of) : Tl := ⟨bn U, bc U⟩
theorem useT_app {U W : List Of} (hW : ∀ o ∈ W, 0 ≤ o.x) : useT (U ++ W) = (useT U).seq (useT W) := by
  unfold useT Tl.seq
  congr 1
  · exact funext fun k => bn_app hW k
  · exact funext fun k => bc_app U W k
theorem useT_reps {U : List Of} (h : ∀ o ∈ U, 0 ≤ o.x) {m : Nat} (m1 : 1 ≤ m) : useT (reps m U) = (useT U).rnd (m : Int) := by
  obtain ⟨j, rfl⟩ : ∃ j, m = j + 1 := ⟨m - 1, by omega⟩
  unfold useT Tl.rnd
  congr 1
  · refine funext fun k => ?_
    rw [bn_reps h, show ((j + 1 : Nat) : Int) - 1 = (j : Int) by omega]
  · exact funext fun k => bc_reps (j + 1) U k
theorem useT_run {o : Of} (x0 : 0 ≤ o.x) (y0 : 0 ≤ o.y) (ne : o.a ≠ o.b) {m : Nat} (m1 : 1 ≤ m) : useT (reps m [o]) = runT o (m : Int) := by
  rw [useT_reps (fun o' h => by rw [List.mem_singleton.mp h]; exact x0) m1]
  unfold useT Tl.rnd runT
  congr 1
  · refine funext fun k => ?_
    show max (max (n1 o k) (0 - c1 o k)) (max (n1 o k) (0 - c1 o k) - ((m : Int) - 1) * (c1 o k + 0)) = if k = o.a then (m : Int) * o.x else 0
    unfold n1 c1
    by_cases ha : k = o.a
    · have hb : k ≠ o.b := by rw [ha]; exact ne
      rw [if_pos ha, if_neg hb, if_pos ha, if_pos ha, Int.add_zero, Int.mul_neg, Int.sub_mul, Int.one_mul]
      have : o.x ≤ (m : Int) * o.x := by
        have := Int.mul_le_mul_of_nonneg_right (show (1 : Int) ≤ (m : Int) by omega) x0
        omega
      omega
    · by_cases hb : k = o.b
      · rw [if_neg ha, if_pos hb, if_neg ha, Int.add_zero]
        have : 0 ≤ ((m : Int) - 1) * o.y := Int.mul_nonneg (by omega) y0
        omega
      · rw [if_neg ha, if_neg hb, if_neg ha, if_neg ha]
        simp
  · refine funext fun k => ?_
    show (m : Int) * (c1 o k + 0) = if k = o.b then (m : Int) * o.y else if k = o.a then -(m : Int) * o.x else 0
    unfold c1
    rw [Int.add_zero]
    by_cases hb : k = o.b
    · rw [if_pos hb, if_pos hb]
    · rw [if_neg hb, if_neg hb]
      by_cases ha : k = o.a
      · rw [if_pos ha, if_pos ha, Int.mul_neg, Int.neg_mul]
      · rw [if_neg ha, if_neg ha, Int.mul_zero]
/-! the uses of a way -/
def runI (r : Nat × Int) : List Nat := List.replicate r.2.toNat r.1
def runsI (rs : List (Nat × Int)) : List Nat := rs.flatMap runI
def stI : St → List Nat
  | .run i m => runI (i, m)
  | .rnd rs m => (List.replicate m.toNat (runsI rs)).flatten
def wayI (ss : List St) : List Nat := ss.flatMap stI
def us (L : List Of) (I : List Nat) : List Of := I.map (ofI L)
/-- a run, a step, within the board -/
def RunOk (L : List Of) (r : Nat × Int) : Prop := r.1 < L.length ∧ 1 ≤ r.2
def StOk (L : List Of) : St → Prop
  | .run i m => RunOk L (i, m)
  | .rnd rs m => (∀ r ∈ rs, RunOk L r) ∧ 1 ≤ m
section
variable {k : Nat} {L : List Of} (ok : ∀ o ∈ L, OfOk k o)
include ok
theorem us_x {I : List Nat} (h : ∀ i ∈ I, i < L.length) : ∀ o ∈ us L I, 0 ≤ o.x := fun o ho => by
  obtain ⟨i, hi, rfl⟩ := List.mem_map.mp ho
  have := (ok _ (ofI_mem (h i hi))).x0
  omega
theorem us_run {r : Nat × Int} (h : RunOk L r) : useT (us L (runI r)) = runT (ofI L r.1) r.2 ∧ ∀ i ∈ runI r, i < L.length := by
  have o := ok _ (ofI_mem h.1)
  have x0 := o.x0
  have m1 := h.2
  refine ⟨?_, fun i hi => by rw [List.eq_of_mem_replicate hi]; exact h.1⟩
  have e : us L (runI r) = reps r.2.toNat [ofI L r.1] := by
    unfold us runI reps
    rw [List.map_replicate, List.flatten_replicate_singleton]
  rw [e, useT_run (by omega) o.y0 o.ne (show 1 ≤ r.2.toNat by omega), Int.toNat_of_nonneg (by omega)]
theorem us_runs : ∀ {rs : List (Nat × Int)}, (∀ r ∈ rs, RunOk L r) → useT (us L (runsI rs)) = runsT L rs ∧ ∀ i ∈ runsI rs, i < L.length := by
  suffices h : ∀ (rs : List (Nat × Int)) (I : List Nat) (t : Tl), (∀ r ∈ rs, RunOk L r) → useT (us L I) = t → (∀ i ∈ I, i < L.length) → useT (us L (I ++ runsI rs)) = rs.foldl (fun t r => t.seq (runT (ofI L r.1) r.2)) t ∧ ∀ i ∈ I ++ runsI rs, i < L.length by
    intro rs hr
    exact h rs [] Tl.zero hr rfl fun i hi => nomatch hi
  intro rs
  induction rs with
  | nil =>
    intro I t _ e hI
    refine ⟨?_, fun i hi => ?_⟩
    · show useT (us L (I ++ [])) = t
      rw [List.append_nil]
      exact e
    · rw [show runsI [] = [] from rfl, List.append_nil] at hi
      exact hI i hi
  | cons r rs ih =>
    intro I t hr e hI
    obtain ⟨e1, h1⟩ := us_run ok (hr r List.mem_cons_self)
    have step := ih (I ++ runI r) (t.seq (runT (ofI L r.1) r.2)) (fun r' h => hr r' (List.mem_cons_of_mem _ h)) (by
      rw [show us L (I ++ runI r) = us L I ++ us L (runI r) from List.map_append, useT_app (us_x ok h1), e, e1]) (fun i hi => by
      rcases List.mem_append.mp hi with hi | hi
      · exact hI i hi
      · exact h1 i hi)
    rw [List.append_assoc] at step
    exact step
theorem us_st {s : St} (h : StOk L s) : useT (us L (stI s)) = stT L s ∧ ∀ i ∈ stI s, i < L.length := by
  match s, h with
  | .run i m, h => exact us_run ok h
  | .rnd rs m, ⟨h, m1⟩ =>
    obtain ⟨e, hi⟩ := us_runs ok h
    refine ⟨?_, fun i hi' => ?_⟩
    · have e2 : us L (stI (.rnd rs m)) = reps m.toNat (us L (runsI rs)) := by
        show ((List.replicate m.toNat (runsI rs)).flatten).map (ofI L) = _
        rw [List.map_flatten, List.map_replicate]
        rfl
      rw [e2, useT_reps (us_x ok hi) (show 1 ≤ m.toNat by omega), e, Int.toNat_of_nonneg (by omega)]
      rfl
    · obtain ⟨l, hl, hl2⟩ := List.mem_flatten.mp hi'
      rw [List.eq_of_mem_replicate hl] at hl2
      exact hi i hl2
theorem us_way : ∀ {ss : List St}, (∀ s ∈ ss, StOk L s) → useT (us L (wayI ss)) = wayT L ss ∧ ∀ i ∈ wayI ss, i < L.length := by
  suffices h : ∀ (ss : List St) (I : List Nat) (t : Tl), (∀ s ∈ ss, StOk L s) → useT (us L I) = t → (∀ i ∈ I, i < L.length) → useT (us L (I ++ wayI ss)) = ss.foldl (fun t s => t.seq (stT L s)) t ∧ ∀ i ∈ I ++ wayI ss, i < L.length by
    intro ss hr
    exact h ss [] Tl.zero hr rfl fun i hi => nomatch hi
  intro ss
  induction ss with
  | nil =>
    intro I t _ e hI
    refine ⟨?_, fun i hi => ?_⟩
    · show useT (us L (I ++ [])) = t
      rw [List.append_nil]
      exact e
    · rw [show wayI [] = [] from rfl, List.append_nil] at hi
      exact hI i hi
  | cons s ss ih =>
    intro I t hr e hI
    obtain ⟨e1, h1⟩ := us_st ok (hr s List.mem_cons_self)
    have step := ih (I ++ stI s) (t.seq (stT L s)) (fun r' h => hr r' (List.mem_cons_of_mem _ h)) (by
      rw [show us L (I ++ stI s) = us L I ++ us L (stI s) from List.map_append, useT_app (us_x ok h1), e, e1]) (fun i hi => by
      rcases List.mem_append.mp hi with hi | hi
      · exact hI i hi
      · exact h1 i hi)
    rw [List.append_assoc] at step
    exact step
end
/-- amounts of the kinds as a list -/
def vec (k : Nat) (f : Nat → Int) : List Int := (List.range k).map f
theorem vec_len (k : Nat) (f : Nat → Int) : (vec k f).length = k := by
  unfold vec
  rw [List.length_map, List.length_range]
theorem vec_get {k i : Nat} {f : Nat → Int} (h : i < k) : (vec k f)[i]? = some (f i) := by
  unfold vec
  rw [List.getElem?_map, List.getElem?_range h]
  rfl
theorem vec_set {k i : Nat} {f g : Nat → Int} {v : Int} (h : g i = v) (hg : ∀ j, j ≠ i → g j = f j) : (vec k f).set i v = vec k g := by
  refine List.ext_getElem? fun j => ?_
  rw [List.getElem?_set]
  by_cases e : i = j
  · subst e
    rw [if_pos rfl]
    by_cases l : i < k
    · rw [vec_len, if_pos l, vec_get l, h]
    · rw [vec_len, if_neg l, List.getElem?_eq_none (by rw [vec_len]; omega)]
  · rw [if_neg e]
    by_cases l : j < k
    · rw [vec_get l, vec_get l, hg j (Ne.symm e)]
    · rw [List.getElem?_eq_none (by rw [vec_len]; omega), List.getElem?_eq_none (by rw [vec_len]; omega)]
theorem vec_rep (k : Nat) : List.replicate k (0 : Int) = vec k fun _ => 0 := by
  refine List.ext_getElem? fun j => ?_
  by_cases l : j < k
  · rw [vec_get l, List.getElem?_replicate, if_pos l]
  · rw [List.getElem?_eq_none (by rw [List.length_replicate]; omega), List.getElem?_eq_none (by rw [vec_len]; omega)]
theorem vec_succ (k : Nat) (f : Nat → Int) : vec (k + 1) f = vec k f ++ [f k] := by
  unfold vec
  rw [List.range_succ, List.map_append]
  rfl
end Sm

set_option Elab.async false
set_option linter.all false
set_option maxRecDepth 100000
set_option maxHeartbeats 4000000
namespace Sm
open PySem PySem.Spec PyProof.Rows L2
theorem ints_lay : ∀ t : List Int, PyData.canLayAll0 (t.map PyData.int) = true
  | [] => rfl
  | i :: t => by simp [PyData.canLayAll0, PyData.canLay0, ints_lay t]
theorem depth_int : ∀ t : List Int, PyData.depthAll (t.map PyData.int) ≤ 1
  | [] => by simp [PyData.depthAll]
  | i :: t => by
    have := depth_int t
    simp only [List.map_cons, PyData.depthAll, PyData.depth]
    omega
theorem lst_shaped (t : List Int) : SeqAt.shaped (.list (t.map PyData.int)) = true := by
  have d := depth_int t
  have d2 : PyData.depth (.list (t.map PyData.int)) ≤ 64 := by
    simp only [PyData.depth]
    omega
  unfold SeqAt.shaped
  rw [show PyData.canLay0 (.list (t.map PyData.int)) = true by simp only [PyData.canLay0, ints_lay], decide_eq_true d2]
  rfl
theorem tup_shaped (t : List Int) : SeqAt.shaped (.tuple (t.map PyData.int)) = true := by
  have d := depth_int t
  have d2 : PyData.depth (.tuple (t.map PyData.int)) ≤ 64 := by
    simp only [PyData.depth]
    omega
  unfold SeqAt.shaped
  rw [show PyData.canLay0 (.tuple (t.map PyData.int)) = true by simp only [PyData.canLay0, ints_lay], decide_eq_true d2]
  rfl
theorem eqv_nil (l : List Int) : PyData.eqv (.list (l.map PyData.int)) (.list []) = decide (l = []) := by
  cases l with
  | nil => rfl
  | cons a l => simp [PyData.eqv, PyData.eqvAll]
theorem no_part {σ : L2.St} {H : Hp} {Q : Option Int → Hp → Prop} (h : Q none H) : tNoPart σ H Q := h
theorem pickI (L : List Int) {r : Int} (h0 : 0 ≤ r) (h1 : r < (L.length : Int)) : ∃ z ∈ L, (L.map V.int)[r.toNat]? = some (.int z) := by
  have q : r.toNat < L.length := by omega
  refine ⟨L[r.toNat], List.getElem_mem q, ?_⟩
  rw [List.getElem?_map, List.getElem?_eq_getElem q]
  rfl
theorem cut_from {xs : List V} {n : Nat} : cutV xs (some (n : Int)) none = xs.drop n := by
  unfold cutV
  rw [HT.sIx_none, HT.sIx_nat]
  rcases Nat.le_total n xs.length with h | h
  · rw [Nat.min_eq_left h]
    exact List.take_of_length_le (by rw [List.length_drop]; omega)
  · rw [Nat.min_eq_right h, List.drop_length, List.drop_eq_nil_of_le h, List.take_nil]
theorem eqv_selfT (t : List Int) : PyData.eqv (.tuple (t.map PyData.int)) (.tuple (t.map PyData.int)) = true := SeqAt.eqv_refl _ (SeqAt.canLay_of_shaped (tup_shaped t))
theorem dp_tup {K : PySem.W.Frag} {H : Hp} {q : Addr} {t : List Int} (h : H q = some (.tup (t.map V.int))) : Dp K H (.ref q) (.tuple (t.map PyData.int)) := .tup (SqT.of h) (dp_ints t)
theorem vec_congr {k : Nat} {f g : Nat → Int} (h : ∀ i, i < k → f i = g i) : vec k f = vec k g := List.map_congr_left fun i hi => h i (List.mem_range.mp hi)
section
variable {K : PySem.W.Frag} {H : Hp} {Q : VK}
theorem sl_uni {a : Addr} {xs : List V} {lo hi : Option Int} (h : H a = some (.tup xs)) (q : ∀ u H', Same H H' → H' u = some (.tup (cutV xs lo hi)) → Q (.ref u) H') : rSlA K (.ref a) lo hi H Q := by
  refine ⟨a, xs, rfl, SqT.of h, fun w => q a H (Same.refl H) ?_, fun _ u nu => q u _ (same_upd nu) upd_same⟩
  rw [h]
  unfold cutV
  rw [w.1, w.2, List.drop_zero, Nat.sub_zero, List.take_length]
theorem cat_uni {a b : Addr} {xs ys : List V} (ha : H a = some (.tup xs)) (hb : H b = some (.tup ys)) (l : xs.length + ys.length ≤ sizeLine) (q : ∀ u H', Same H H' → H' u = some (.tup (xs ++ ys)) → Q (.ref u) H') : rCatA K (.ref a) (.ref b) H Q := by
  refine ⟨a, b, xs, ys, rfl, rfl, SqT.of ha, SqT.of hb, l, fun e => q b H (Same.refl H) ?_, fun _ e => q a H (Same.refl H) ?_, fun _ _ u nu => q u _ (same_upd nu) upd_same⟩
  · rw [hb, e, List.nil_append]
  · rw [ha, e, List.append_nil]
end
theorem eqv_selfL (t : List Int) : PyData.eqv (.list (t.map PyData.int)) (.list (t.map PyData.int)) = true := SeqAt.eqv_refl _ (SeqAt.canLay_of_shaped (lst_shaped t))
end Sm

set_option maxHeartbeats 4000000
namespace Sm
/-! rules: a table that repeats -/
def vl (T : List Int) (p : Nat) (r : Int) (x : Nat) : Int :=
  if x < T.length then T.getD x 0 else T.getD (x - ((x - T.length) / p + 1) * p) 0 + (((x - T.length) / p + 1 : Nat) : Int) * r
structure RuleOk (T : List Int) (p : Nat) (r : Int) : Prop where
  p0 : 0 < p
  p1 : p ≤ T.length
  r0 : 0 ≤ r
  nn : ∀ i, i < T.length → 0 ≤ T.getD i 0
  mono : ∀ i, i + 1 < T.length → T.getD i 0 ≤ T.getD (i + 1) 0
  wrap : T.getD (T.length - 1) 0 ≤ T.getD (T.length - p) 0 + r
theorem place {n p x : Nat} (hp : 0 < p) (hpn : p ≤ n) (h : n ≤ x) : ((x - n) / p + 1) * p ≤ x ∧ n - p ≤ x - ((x - n) / p + 1) * p ∧ x - ((x - n) / p + 1) * p < n := by
  have a := Nat.div_add_mod (x - n) p
  have b := Nat.mod_lt (x - n) hp
  have c : ((x - n) / p + 1) * p = p * ((x - n) / p) + p := by rw [Nat.add_mul, Nat.one_mul, Nat.mul_comm]
  omega
theorem vl_lt {T : List Int} {p : Nat} {r : Int} {x : Nat} (h : x < T.length) : vl T p r x = T.getD x 0 := if_pos h
theorem vl_step {T : List Int} {p : Nat} {r : Int} {x : Nat} (hp : 0 < p) (hpn : p ≤ T.length) (h : T.length ≤ x) : vl T p r x = vl T p r (x - p) + r := by
  by_cases q : x - p < T.length
  · have e : (x - T.length) / p = 0 := Nat.div_eq_of_lt (by omega)
    rw [vl_lt q]
    unfold vl
    rw [if_neg (by omega), e]
    simp
  · have e : (x - T.length) / p = (x - p - T.length) / p + 1 := by
      rw [Nat.div_eq_sub_div hp (by omega), show x - T.length - p = x - p - T.length by omega]
    unfold vl
    rw [if_neg (by omega), if_neg q, e]
    have i : x - ((x - p - T.length) / p + 1 + 1) * p = x - p - ((x - p - T.length) / p + 1) * p := by
      rw [Nat.add_mul ((x - p - T.length) / p + 1) 1 p, Nat.one_mul]
      omega
    rw [i]
    have k : (((x - p - T.length) / p + 1 + 1 : Nat) : Int) * r = (((x - p - T.length) / p + 1 : Nat) : Int) * r + r := by
      rw [Int.natCast_add ((x - p - T.length) / p + 1) 1, Int.add_mul]
      simp
    rw [k, Int.add_assoc]
theorem vl_add {T : List Int} {p : Nat} {r : Int} {x : Nat} (hp : 0 < p) (hpn : p ≤ T.length) (h : T.length - p ≤ x) : vl T p r (x + p) = vl T p r x + r := by
  rw [vl_step hp hpn (by omega), Nat.add_sub_cancel]
theorem vl_addk {T : List Int} {p : Nat} {r : Int} {x : Nat} (hp : 0 < p) (hpn : p ≤ T.length) (h : T.length - p ≤ x) : ∀ k : Nat, vl T p r (x + k * p) = vl T p r x + (k : Int) * r
  | 0 => by simp
  | k + 1 => by
    have ih := vl_addk (r := r) hp hpn h k
    rw [show x + (k + 1) * p = x + k * p + p by rw [Nat.add_mul, Nat.one_mul, Nat.add_assoc], vl_add hp hpn (by omega), ih]
    rw [Int.natCast_add, Int.add_mul]
    simp
    omega
section
variable {T : List Int} {p : Nat} {r : Int}
theorem RuleOk.up (o : RuleOk T p r) : ∀ x, vl T p r x ≤ vl T p r (x + 1) := by
  intro x
  induction x using Nat.strongRecOn with
  | _ x ih =>
    have p0 := o.p0
    have p1 := o.p1
    by_cases a : x + 1 < T.length
    · rw [vl_lt a, vl_lt (by omega)]
      exact o.mono x a
    · by_cases b : x < T.length
      · rw [vl_lt b, vl_step p0 p1 (by omega), vl_lt (by omega)]
        have w := o.wrap
        rw [show x = T.length - 1 by omega]
        rw [show T.length - 1 + 1 - p = T.length - p by omega]
        exact w
      · rw [vl_step p0 p1 (by omega), vl_step (x := x + 1) p0 p1 (by omega)]
        have := ih (x - p) (by omega)
        rw [show x - p + 1 = x + 1 - p by omega] at this
        omega
theorem RuleOk.le (o : RuleOk T p r) {x y : Nat} (h : x ≤ y) : vl T p r x ≤ vl T p r y := by
  obtain ⟨k, rfl⟩ := Nat.le.dest h
  induction k with
  | zero => exact Int.le_refl _
  | succ k ih => exact Int.le_trans (ih (by omega)) (o.up _)
theorem RuleOk.pos (o : RuleOk T p r) (x : Nat) : 0 ≤ vl T p r x := by
  have a := o.le (Nat.zero_le x)
  have p0 := o.p0
  have p1 := o.p1
  rw [vl_lt (x := 0) (by omega)] at a
  have := o.nn 0 (by omega)
  omega
theorem RuleOk.row (o : RuleOk T p r) {i j : Nat} (h : i ≤ j) (hj : j < T.length) : T.getD i 0 ≤ T.getD j 0 := by
  have a := o.le h
  rw [vl_lt hj, vl_lt (by omega)] at a
  exact a
/-- the values of the last period repeat by s, increased by c -/
def Rep (T : List Int) (p : Nat) (r : Int) (s : Nat) (c : Int) : Prop := ∀ i, T.length - p ≤ i → i < T.length → vl T p r (i + s) = T.getD i 0 + c
theorem rep_all {s : Nat} {c : Int} (o : RuleOk T p r) (h : Rep T p r s c) : ∀ y, T.length - p ≤ y → vl T p r (y + s) = vl T p r y + c := by
  intro y
  induction y using Nat.strongRecOn with
  | _ y ih =>
    intro hy
    have p0 := o.p0
    have p1 := o.p1
    by_cases a : y < T.length
    · rw [vl_lt a]
      exact h y hy a
    · have e := ih (y - p) (by omega) (by omega)
      rw [vl_step (x := y) p0 p1 (by omega), vl_step (x := y + s) p0 p1 (by omega), show y + s - p = y - p + s by omega, e]
      omega
theorem rep_self (o : RuleOk T p r) : Rep T p r p r := fun i h1 h2 => by
  rw [vl_add o.p0 o.p1 h1, vl_lt h2]
theorem getD_take {n i : Nat} (h : i < n) : (T.take n).getD i 0 = T.getD i 0 := by
  rw [List.getD_eq_getElem?_getD, List.getD_eq_getElem?_getD, List.getElem?_take_of_lt h]
/-- the table cut: still a rule, with the same values -/
theorem cut_ok {a s : Nat} {c : Int} (o : RuleOk T p r) (hs : 0 < s) (ha : a + s ≤ T.length) (c0 : 0 ≤ c) (h : ∀ y, a ≤ y → vl T p r (y + s) = vl T p r y + c) : RuleOk (T.take (a + s)) s c := by
  have len : (T.take (a + s)).length = a + s := by rw [List.length_take]; omega
  refine ⟨hs, by omega, c0, fun i hi => ?_, fun i hi => ?_, ?_⟩
  · rw [getD_take (by omega)]
    exact o.nn i (by omega)
  · rw [getD_take (by omega), getD_take (by omega)]
    exact o.mono i (by omega)
  · rw [len, getD_take (by omega), getD_take (by omega), show a + s - s = a by omega]
    have e := h a (Nat.le_refl _)
    have u := o.up (a + s - 1)
    rw [show a + s - 1 + 1 = a + s by omega, e, vl_lt (by omega), vl_lt (by omega)] at u
    exact u
theorem cut_vl {a s : Nat} {c : Int} (hs : 0 < s) (ha : a + s ≤ T.length) (h : ∀ y, a ≤ y → vl T p r (y + s) = vl T p r y + c) : ∀ x, vl (T.take (a + s)) s c x = vl T p r x := by
  have len : (T.take (a + s)).length = a + s := by rw [List.length_take]; omega
  intro x
  induction x using Nat.strongRecOn with
  | _ x ih =>
    by_cases q : x < a + s
    · rw [vl_lt (by omega), vl_lt (by omega), getD_take q]
    · rw [vl_step hs (by omega) (by omega), ih (x - s) (by omega), ← h (x - s) (by omega), show x - s + s = x by omega]
/-- the least amount, or none -/
def IsLf (T : List Int) (p : Nat) (r : Int) (y : Int) : Option Nat → Prop
  | none => r = 0 ∧ T.getD (T.length - 1) 0 < y
  | some x => y ≤ vl T p r x ∧ ∀ z, z < x → vl T p r z < y
theorem lf_near {y : Int} {i : Nat} (hi : i < T.length) (h1 : y ≤ T.getD i 0) (h2 : ∀ j, j < i → T.getD j 0 < y) : IsLf T p r y (some i) :=
  ⟨by rw [vl_lt hi]; exact h1, fun z hz => by rw [vl_lt (by omega)]; exact h2 z hz⟩
theorem lf_far {y : Int} {i k : Nat} (o : RuleOk T p r) (k0 : 0 < k) (hk : T.getD (T.length - 1) 0 + ((k : Int) - 1) * r < y) (h0 : T.length - p ≤ i) (hi : i < T.length) (h1 : y - (k : Int) * r ≤ T.getD i 0)
    (h2 : ∀ j, T.length - p ≤ j → j < i → T.getD j 0 < y - (k : Int) * r) : IsLf T p r y (some (i + k * p)) := by
  have p0 := o.p0
  have p1 := o.p1
  refine ⟨?_, fun z hz => ?_⟩
  · rw [vl_addk p0 p1 h0, vl_lt hi]
    omega
  · have kp : p ≤ k * p := Nat.le_mul_of_pos_left p k0
    refine Int.lt_of_le_of_lt (o.le (show z ≤ i + k * p - 1 by omega)) ?_
    by_cases q : i = T.length - p
    · obtain ⟨k, rfl⟩ : ∃ j, k = j + 1 := ⟨k - 1, by omega⟩
      have e : i + (k + 1) * p - 1 = T.length - 1 + k * p := by
        rw [Nat.add_mul, Nat.one_mul] at kp ⊢
        omega
      rw [e, vl_addk p0 p1 (by omega), vl_lt (by omega)]
      have c : ((k + 1 : Nat) : Int) - 1 = (k : Int) := by omega
      rw [c] at hk
      exact hk
    · rw [show i + k * p - 1 = i - 1 + k * p by omega, vl_addk p0 p1 (by omega), vl_lt (by omega)]
      have := h2 (i - 1) (by omega) (by omega)
      omega
theorem lf_one {y : Int} {a b : Option Nat} (o : RuleOk T p r) (ha : IsLf T p r y a) (hb : IsLf T p r y b) : a = b := by
  have no : ∀ {x : Nat}, IsLf T p r y none → IsLf T p r y (some x) → False := by
    rintro x ⟨h1, h2⟩ ⟨h3, _⟩
    have p0 := o.p0
    have p1 := o.p1
    have all : ∀ x, vl T p r x ≤ T.getD (T.length - 1) 0 := by
      intro x
      induction x using Nat.strongRecOn with
      | _ x ih =>
        by_cases q : x < T.length
        · rw [vl_lt q]
          exact o.row (by omega) (by omega)
        · rw [vl_step p0 p1 (by omega)]
          have := ih (x - p) (by omega)
          omega
    have := all x
    omega
  match a, b, ha, hb with
  | none, none, _, _ => rfl
  | none, some x, ha, hb => exact (no ha hb).elim
  | some x, none, ha, hb => exact (no hb ha).elim
  | some x, some z, ⟨h1, h2⟩, ⟨h3, h4⟩ =>
    rcases Nat.lt_trichotomy x z with q | q | q
    · have := h4 x q
      omega
    · rw [q]
    · have := h2 z q
      omega
end
theorem div_cast {x n p : Nat} (h : n ≤ x) : ((x : Int) - (n : Int)) / (p : Int) + 1 = (((x - n) / p + 1 : Nat) : Int) := by
  rw [← Int.natCast_sub h]
  rfl
theorem ceil_lo {a r : Int} (hr : 0 < r) : a ≤ (a + r - 1) / r * r ∧ ((a + r - 1) / r - 1) * r < a := by
  have h1 := Int.mul_ediv_add_emod (a + r - 1) r
  have h2 := Int.emod_nonneg (a + r - 1) (show r ≠ 0 by omega)
  have h3 := Int.emod_lt_of_pos (a + r - 1) hr
  have e : (a + r - 1) / r * r = r * ((a + r - 1) / r) := Int.mul_comm _ _
  have e2 : ((a + r - 1) / r - 1) * r = r * ((a + r - 1) / r) - r := by rw [Int.sub_mul, Int.mul_comm]; omega
  omega
end Sm

set_option maxHeartbeats 4000000
namespace Sm
structure RuleW (T : List Int) (p : Nat) (r : Int) : Prop where
  p0 : 0 < p
  p1 : p ≤ T.length
  r0 : 0 ≤ r
theorem RuleOk.w {T : List Int} {p : Nat} {r : Int} (o : RuleOk T p r) : RuleW T p r := ⟨o.p0, o.p1, o.r0⟩
section
variable {T : List Int} {p : Nat} {r : Int}
theorem rep_allW {s : Nat} {c : Int} (o : RuleW T p r) (h : Rep T p r s c) : ∀ y, T.length - p ≤ y → vl T p r (y + s) = vl T p r y + c := by
  intro y
  induction y using Nat.strongRecOn with
  | _ y ih =>
    intro hy
    have p0 := o.p0
    have p1 := o.p1
    by_cases a : y < T.length
    · rw [vl_lt a]
      exact h y hy a
    · have e := ih (y - p) (by omega) (by omega)
      rw [vl_step (x := y) p0 p1 (by omega), vl_step (x := y + s) p0 p1 (by omega), show y + s - p = y - p + s by omega, e]
      omega
theorem rep_selfW (o : RuleW T p r) : Rep T p r p r := fun i h1 h2 => by
  rw [vl_add o.p0 o.p1 h1, vl_lt h2]
/-- a weak rule that does not fall within its table and behind it is a rule -/
theorem W_ok (o : RuleW T p r) (nn : ∀ i, i < T.length → 0 ≤ T.getD i 0) (h : ∀ x, x < T.length → T.getD x 0 ≤ vl T p r (x + 1)) : RuleOk T p r := by
  have p0 := o.p0
  have p1 := o.p1
  refine ⟨p0, p1, o.r0, nn, fun i hi => ?_, ?_⟩
  · have := h i (by omega)
    rw [vl_lt hi] at this
    exact this
  · have := h (T.length - 1) (by omega)
    rw [vl_step p0 p1 (by omega), show T.length - 1 + 1 - p = T.length - p by omega, vl_lt (by omega)] at this
    exact this
end
section
variable {T1 T2 : List Int} {p1 p2 : Nat} {r1 r2 : Int}
def gp (T1 : List Int) (p1 : Nat) (r1 : Int) (T2 : List Int) (p2 : Nat) (r2 : Int) (x : Nat) : Int := vl T1 p1 r1 x - vl T2 p2 r2 x
/-- the first amount at which the one is above, or none -/
def IsFst (T1 : List Int) (p1 : Nat) (r1 : Int) (T2 : List Int) (p2 : Nat) (r2 : Int) : Option Nat → Prop
  | none => ∀ x, gp T1 p1 r1 T2 p2 r2 x ≤ 0
  | some x => 0 < gp T1 p1 r1 T2 p2 r2 x ∧ ∀ z, z < x → gp T1 p1 r1 T2 p2 r2 z ≤ 0
theorem fst_one {a b : Option Nat} (ha : IsFst T1 p1 r1 T2 p2 r2 a) (hb : IsFst T1 p1 r1 T2 p2 r2 b) : a = b := by
  match a, b, ha, hb with
  | none, none, _, _ => rfl
  | none, some x, ha, hb =>
    have := ha x
    have := hb.1
    omega
  | some x, none, ha, hb =>
    have := hb x
    have := ha.1
    omega
  | some x, some z, ⟨h1, h2⟩, ⟨h3, h4⟩ =>
    rcases Nat.lt_trichotomy x z with q | q | q
    · have := h4 x q
      omega
    · rw [q]
    · have := h2 z q
      omega
/-- by a common turn t = a p1 = b p2 the gap grows by g, from a start of both on -/
theorem gp_turn {B a b : Nat} (w1 : RuleW T1 p1 r1) (w2 : RuleW T2 p2 r2) (hB1 : T1.length - p1 ≤ B) (hB2 : T2.length - p2 ≤ B) (e : a * p1 = b * p2) {x : Nat} (hx : B ≤ x) :
    gp T1 p1 r1 T2 p2 r2 (x + a * p1) = gp T1 p1 r1 T2 p2 r2 x + ((a : Int) * r1 - (b : Int) * r2) := by
  unfold gp
  rw [vl_addk w1.p0 w1.p1 (by omega) a, e, vl_addk w2.p0 w2.p1 (by omega) b]
  omega
theorem gp_turns {B t : Nat} {g : Int} (h : ∀ x, B ≤ x → gp T1 p1 r1 T2 p2 r2 (x + t) = gp T1 p1 r1 T2 p2 r2 x + g) {x : Nat} (hx : B ≤ x) : ∀ k : Nat, gp T1 p1 r1 T2 p2 r2 (x + k * t) = gp T1 p1 r1 T2 p2 r2 x + (k : Int) * g
  | 0 => by simp
  | k + 1 => by
    have ih := gp_turns h hx k
    rw [show x + (k + 1) * t = x + k * t + t by rw [Nat.add_mul, Nat.one_mul, Nat.add_assoc], h _ (by omega), ih, Int.natCast_add, Int.add_mul]
    simp
    omega
theorem split_turn {B t z : Nat} (t0 : 0 < t) (hz : B ≤ z) : ∃ x k, B ≤ x ∧ x < B + t ∧ z = x + k * t := by
  have a := Nat.div_add_mod (z - B) t
  have b := Nat.mod_lt (z - B) t0
  refine ⟨B + (z - B) % t, (z - B) / t, by omega, by omega, ?_⟩
  rw [Nat.mul_comm]
  omega
theorem none_of {B t : Nat} {g : Int} (t0 : 0 < t) (h : ∀ x, B ≤ x → gp T1 p1 r1 T2 p2 r2 (x + t) = gp T1 p1 r1 T2 p2 r2 x + g) (hg : g ≤ 0) (early : ∀ x, x < B + t → gp T1 p1 r1 T2 p2 r2 x ≤ 0) : IsFst T1 p1 r1 T2 p2 r2 none := by
  intro z
  by_cases q : z < B
  · exact early z (by omega)
  · obtain ⟨x, k, h1, h2, rfl⟩ := split_turn t0 (show B ≤ z by omega)
    rw [gp_turns h h1 k]
    have := early x h2
    have : (k : Int) * g ≤ 0 := Int.mul_nonpos_of_nonneg_of_nonpos (by omega) hg
    omega
/-- the least of the first amounts of all rests -/
theorem some_of {B t m : Nat} {g : Int} (t0 : 0 < t) (h : ∀ x, B ≤ x → gp T1 p1 r1 T2 p2 r2 (x + t) = gp T1 p1 r1 T2 p2 r2 x + g) (hg : 0 < g) (early : ∀ x, x < B + t → gp T1 p1 r1 T2 p2 r2 x ≤ 0)
    (hm : ∃ x, B ≤ x ∧ x < B + t ∧ (m : Int) = (x : Int) + (t : Int) * ((-gp T1 p1 r1 T2 p2 r2 x) / g + 1)) (least : ∀ x, B ≤ x → x < B + t → (m : Int) ≤ (x : Int) + (t : Int) * ((-gp T1 p1 r1 T2 p2 r2 x) / g + 1)) : IsFst T1 p1 r1 T2 p2 r2 (some m) := by
  constructor
  · obtain ⟨x, h1, h2, e⟩ := hm
    have ex := early x h2
    have q0 : 0 ≤ (-gp T1 p1 r1 T2 p2 r2 x) / g := Int.ediv_nonneg (by omega) (by omega)
    obtain ⟨k, hk⟩ : ∃ k : Nat, (-gp T1 p1 r1 T2 p2 r2 x) / g = (k : Int) := ⟨_, (Int.toNat_of_nonneg q0).symm⟩
    have e2 : m = x + (k + 1) * t := by
      rw [hk] at e
      have : ((x + (k + 1) * t : Nat) : Int) = (x : Int) + (t : Int) * ((k : Int) + 1) := by
        rw [Int.natCast_add, Int.natCast_mul, Int.mul_comm]
        rfl
      omega
    rw [e2, gp_turns h h1]
    have d1 := Int.mul_ediv_add_emod (-gp T1 p1 r1 T2 p2 r2 x) g
    have d2 := Int.emod_lt_of_pos (-gp T1 p1 r1 T2 p2 r2 x) hg
    rw [hk] at d1
    have e3 : ((k + 1 : Nat) : Int) * g = g * (k : Int) + g := by rw [Int.natCast_add, Int.add_mul, Int.mul_comm]; simp
    omega
  · intro z hz
    by_cases q : z < B
    · exact early z (by omega)
    · obtain ⟨x, k, h1, h2, rfl⟩ := split_turn t0 (show B ≤ z by omega)
      rcases Int.lt_or_le 0 (gp T1 p1 r1 T2 p2 r2 (x + k * t)) with w | w
      · exfalso
        have l := least x h1 h2
        rw [gp_turns h h1 k] at w
        have d1 := Int.mul_ediv_add_emod (-gp T1 p1 r1 T2 p2 r2 x) g
        have d2 := Int.emod_nonneg (-gp T1 p1 r1 T2 p2 r2 x) (show g ≠ 0 by omega)
        have lt : (-gp T1 p1 r1 T2 p2 r2 x) / g < (k : Int) := by
          rcases Int.lt_or_le ((-gp T1 p1 r1 T2 p2 r2 x) / g) (k : Int) with c | c
          · exact c
          · have := Int.mul_le_mul_of_nonneg_left c (show 0 ≤ g by omega)
            rw [Int.mul_comm g (k : Int)] at this
            omega
        have le := Int.mul_le_mul_of_nonneg_left (show (-gp T1 p1 r1 T2 p2 r2 x) / g + 1 ≤ (k : Int) by omega) (show 0 ≤ (t : Int) by omega)
        have c1 : ((k * t : Nat) : Int) = (t : Int) * (k : Int) := by rw [Int.natCast_mul, Int.mul_comm]
        omega
      · exact w
end
end Sm

set_option maxHeartbeats 4000000
namespace Sm
/-! just one shortest tuple has given values -/
structure Short (T : List Int) (p : Nat) (r : Int) : Prop where
  ok : RuleOk T p r
  turn : ∀ s c, 0 < s → s < p → s ∣ p → ¬ Rep T p r s c
  start : p = T.length ∨ vl T p r (T.length - 1) ≠ T.getD (T.length - p - 1) 0 + r
theorem vl_ge_turn {T : List Int} {p : Nat} {r : Int} (o : RuleOk T p r) {x : Nat} (h : T.length - p ≤ x) (k : Nat) : vl T p r (x + k * p) = vl T p r x + (k : Int) * r := vl_addk o.p0 o.p1 h k
/-- what holds far off holds from the start of the turns on -/
theorem rep_down {T : List Int} {p s A : Nat} {r c : Int} (o : RuleOk T p r) (h : ∀ x, A ≤ x → vl T p r (x + s) = vl T p r x + c) {x : Nat} (hx : T.length - p ≤ x) : vl T p r (x + s) = vl T p r x + c := by
  have p0 := o.p0
  have e1 := vl_ge_turn o (x := x) hx A
  have e2 := vl_ge_turn o (x := x + s) (by omega) A
  have far : A ≤ x + A * p := by
    have : A * 1 ≤ A * p := Nat.mul_le_mul_left A p0
    omega
  have e3 := h _ far
  rw [show x + A * p + s = x + s + A * p by omega] at e3
  omega
/-- two turns have a turn as long as their greatest common divisor -/
theorem gcd_turn {f : Nat → Int} {A : Nat} : ∀ (n p q : Nat), p + q ≤ n → 0 < p → 0 < q → (∃ r, ∀ x, A ≤ x → f (x + p) = f x + r) → (∃ t, ∀ x, A ≤ x → f (x + q) = f x + t) → ∃ c, ∀ x, A ≤ x → f (x + Nat.gcd p q) = f x + c
  | 0, p, q, h, p0, q0, _, _ => by omega
  | n + 1, p, q, h, p0, q0, ⟨r, hr⟩, ⟨t, ht⟩ => by
    rcases Nat.lt_trichotomy p q with l | l | l
    · have g : Nat.gcd p (q - p) = Nat.gcd p q := Nat.gcd_sub_self_right (Nat.le_of_lt l)
      rw [← g]
      refine gcd_turn n p (q - p) (by omega) p0 (by omega) ⟨r, hr⟩ ⟨t - r, fun x hx => ?_⟩
      have e1 := ht x hx
      have e2 := hr (x + (q - p)) (by omega)
      rw [show x + (q - p) + p = x + q by omega] at e2
      omega
    · subst l
      rw [Nat.gcd_self]
      exact ⟨r, hr⟩
    · have g : Nat.gcd (p - q) q = Nat.gcd p q := Nat.gcd_sub_self_left (Nat.le_of_lt l)
      rw [← g]
      refine gcd_turn n (p - q) q (by omega) (by omega) q0 ⟨r - t, fun x hx => ?_⟩ ⟨t, ht⟩
      have e1 := hr x hx
      have e2 := ht (x + (p - q)) (by omega)
      rw [show x + (p - q) + q = x + p by omega] at e2
      omega
theorem short_le {T1 T2 : List Int} {p1 p2 : Nat} {r1 r2 : Int} (s1 : Short T1 p1 r1) (o2 : RuleOk T2 p2 r2) (h : ∀ x, vl T1 p1 r1 x = vl T2 p2 r2 x) : Nat.gcd p1 p2 = p1 := by
  have o1 := s1.ok
  obtain ⟨c, hc⟩ := gcd_turn (f := vl T1 p1 r1) (A := max (T1.length - p1) (T2.length - p2)) _ p1 p2 (Nat.le_refl _) o1.p0 o2.p0 ⟨r1, fun x hx => vl_add o1.p0 o1.p1 (by omega)⟩ ⟨r2, fun x hx => by rw [h, h]; exact vl_add o2.p0 o2.p1 (by omega)⟩
  have g0 : 0 < Nat.gcd p1 p2 := Nat.gcd_pos_of_pos_left _ o1.p0
  have gl : Nat.gcd p1 p2 ≤ p1 := Nat.le_of_dvd o1.p0 (Nat.gcd_dvd_left ..)
  by_cases q : Nat.gcd p1 p2 = p1
  · exact q
  · exact absurd (fun i h1 h2 => by rw [← vl_lt (p := p1) (r := r1) h2]; exact rep_down o1 hc h1) (s1.turn _ c g0 (by omega) (Nat.gcd_dvd_left ..))
theorem short_start {T1 T2 : List Int} {p : Nat} {r : Int} (s1 : Short T1 p r) (s2 : Short T2 p r) (h : ∀ x, vl T1 p r x = vl T2 p r x) : T2.length ≤ T1.length := by
  have o1 := s1.ok
  have o2 := s2.ok
  have p0 := o1.p0
  have l1 := o1.p1
  have l2 := o2.p1
  rcases Nat.lt_or_ge T1.length T2.length with q | q
  · exfalso
    rcases s2.start with e | e
    · omega
    · apply e
      have := vl_add (T := T1) (p := p) (r := r) p0 l1 (x := T2.length - p - 1) (by omega)
      rw [show T2.length - p - 1 + p = T2.length - 1 by omega, h, h, vl_lt (T := T2) (x := T2.length - p - 1) (by omega)] at this
      exact this
  · exact q
/-- just one shortest tuple has given values -/
theorem short_one {T1 T2 : List Int} {p1 p2 : Nat} {r1 r2 : Int} (s1 : Short T1 p1 r1) (s2 : Short T2 p2 r2) (h : ∀ x, vl T1 p1 r1 x = vl T2 p2 r2 x) : T1 = T2 ∧ p1 = p2 ∧ r1 = r2 := by
  have a := short_le s1 s2.ok h
  have b := short_le s2 s1.ok fun x => (h x).symm
  rw [Nat.gcd_comm] at b
  obtain rfl : p1 = p2 := a.symm.trans b
  have o1 := s1.ok
  have o2 := s2.ok
  have e1 := vl_add o1.p0 o1.p1 (r := r1) (x := max (T1.length - p1) (T2.length - p1)) (by omega)
  have e2 := vl_add o2.p0 o2.p1 (r := r2) (x := max (T1.length - p1) (T2.length - p1)) (by omega)
  rw [h, h] at e1
  obtain rfl : r1 = r2 := by omega
  have l : T1.length = T2.length := Nat.le_antisymm (short_start s2 s1 fun x => (h x).symm) (short_start s1 s2 h)
  refine ⟨List.ext_getElem l fun i h1 h2 => ?_, rfl, rfl⟩
  have e := h i
  rw [vl_lt h1, vl_lt h2, List.getD_eq_getElem?_getD, List.getD_eq_getElem?_getD, List.getElem?_eq_getElem h1, List.getElem?_eq_getElem h2] at e
  exact e
theorem rep_slope {T : List Int} {p s : Nat} {r c : Int} (o : RuleOk T p r) (sd : s ∣ p) (h : Rep T p r s c) : r * (s : Int) = c * (p : Int) := by
  obtain ⟨k, rfl⟩ := sd
  have all := rep_all o h
  have up : ∀ n : Nat, vl T (s * k) r (T.length - s * k + n * s) = vl T (s * k) r (T.length - s * k) + (n : Int) * c := by
    intro n
    induction n with
    | zero => simp
    | succ n ih =>
      rw [show T.length - s * k + (n + 1) * s = T.length - s * k + n * s + s by rw [Nat.add_mul]; omega, all _ (by omega), ih, Int.natCast_add, Int.add_mul]
      simp
      omega
  have e1 := up k
  have e2 := vl_add o.p0 o.p1 (r := r) (x := T.length - s * k) (Nat.le_refl _)
  rw [Nat.mul_comm k s, e2] at e1
  have e3 : r = (k : Int) * c := by omega
  rw [e3, Int.natCast_mul, Int.mul_comm (k : Int) c, Int.mul_assoc, Int.mul_comm (k : Int)]
theorem rep_quot {T : List Int} {p s : Nat} {r c : Int} (o : RuleOk T p r) (sd : s ∣ p) (h : Rep T p r s c) : r * (s : Int) / (p : Int) = c ∧ r * (s : Int) % (p : Int) = 0 := by
  have p0 := o.p0
  rw [rep_slope o sd h]
  exact ⟨Int.mul_ediv_cancel _ (by omega), Int.mul_emod_left _ _⟩
theorem cut_short {T : List Int} {p a s : Nat} {r c : Int} (o : RuleOk T p r) (hs : 0 < s) (sd : s ∣ p) (ha : a ≤ T.length - p) (c0 : 0 ≤ c) (h : ∀ y, a ≤ y → vl T p r (y + s) = vl T p r y + c)
    (hm : ∀ s' c', 0 < s' → s' < s → s' ∣ p → ¬ Rep T p r s' c') (st : a = 0 ∨ vl T p r (a - 1 + s) ≠ T.getD (a - 1) 0 + c) : Short (T.take (a + s)) s c := by
  have p1 := o.p1
  have sp : s ≤ p := Nat.le_of_dvd o.p0 sd
  have ok := cut_ok o hs (by omega) c0 h
  have eq := cut_vl (T := T) (p := p) (r := r) hs (show a + s ≤ T.length by omega) h
  have len : (T.take (a + s)).length = a + s := by rw [List.length_take]; omega
  refine ⟨ok, fun s' c' h1 h2 h3 rep => hm s' c' h1 h2 (Nat.dvd_trans h3 sd) fun i g1 g2 => ?_, ?_⟩
  · have all := rep_all ok rep i (by rw [len]; omega)
    rw [eq, eq, vl_lt (T := T) g2] at all
    exact all
  · by_cases z : a = 0
    · left
      rw [len, z, Nat.zero_add]
    · right
      rw [len, eq, show a + s - 1 = a - 1 + s by omega, show a + s - s - 1 = a - 1 by omega, getD_take (by omega)]
      rcases st with q | q
      · exact absurd q z
      · exact q
theorem dvd_of {p i : Nat} (h : (p : Int).fmod (1 + (i : Int)) = 0) : 1 + i ∣ p := by
  rw [Int.fmod_eq_emod_of_nonneg _ (by omega)] at h
  exact Int.natCast_dvd_natCast.mp (Int.dvd_of_emod_eq_zero (b := (p : Int)) (a := ((1 + i : Nat) : Int)) h)
theorem of_dvd {p i : Nat} (h : 1 + i ∣ p) : (p : Int).fmod (1 + (i : Int)) = 0 := by
  rw [Int.fmod_eq_emod_of_nonneg _ (by omega)]
  exact Int.emod_eq_zero_of_dvd (a := ((1 + i : Nat) : Int)) (Int.natCast_dvd_natCast.mpr h)
end Sm

set_option maxHeartbeats 4000000
namespace Sm
/-! a list that comes back when it is turned; the steps of the last period -/
def Rot (I : List Int) (s : Nat) : Prop := I = I.drop s ++ I.take s
structure Cyc (I : List Int) (s : Nat) : Prop where
  s0 : 0 < s
  s1 : s ≤ I.length
  dv : s ∣ I.length
  rot : s < I.length → Rot I s
  least : ∀ t, 0 < t → t < s → t ∣ I.length → ¬ Rot I t
def stepsOf (T : List Int) (p : Nat) (r : Int) : List Int := (List.range p).map fun i => vl T p r (T.length - p + i + 1) - vl T p r (T.length - p + i)
theorem stepsOf_len (T : List Int) (p : Nat) (r : Int) : (stepsOf T p r).length = p := by
  unfold stepsOf
  rw [List.length_map, List.length_range]
theorem stepsOf_get {T : List Int} {p : Nat} {r : Int} {i : Nat} (h : i < p) : (stepsOf T p r)[i]? = some (vl T p r (T.length - p + i + 1) - vl T p r (T.length - p + i)) := by
  unfold stepsOf
  rw [List.getElem?_map, List.getElem?_range h]
  rfl
theorem rot_get {I : List Int} {s i : Nat} (h : Rot I s) (hs : s ≤ I.length) (hi : i < I.length) : I[i]? = if i + s < I.length then I[i + s]? else I[i + s - I.length]? := by
  have e : I[i]? = (I.drop s ++ I.take s)[i]? := congrArg (fun l => l[i]?) h
  rw [e, List.getElem?_append, List.length_drop]
  by_cases q : i < I.length - s
  · rw [if_pos q, if_pos (by omega), List.getElem?_drop, Nat.add_comm]
  · rw [if_neg q, if_neg (by omega), List.getElem?_take_of_lt (by omega), show i - (I.length - s) = i + s - I.length by omega]
theorem of_rot {I : List Int} {s : Nat} (hs : s ≤ I.length) (h : ∀ i, i < I.length → I[i]? = if i + s < I.length then I[i + s]? else I[i + s - I.length]?) : Rot I s := by
  refine List.ext_getElem? fun i => ?_
  by_cases hi : i < I.length
  · rw [h i hi, List.getElem?_append, List.length_drop]
    by_cases q : i < I.length - s
    · rw [if_pos q, if_pos (by omega), List.getElem?_drop, Nat.add_comm]
    · rw [if_neg q, if_neg (by omega), List.getElem?_take_of_lt (by omega), show i - (I.length - s) = i + s - I.length by omega]
  · rw [List.getElem?_eq_none (by omega), List.getElem?_eq_none (by rw [List.length_append, List.length_drop, List.length_take]; omega)]
theorem rot_rep {T : List Int} {p s : Nat} {r : Int} (o : RuleW T p r) (sp : s < p) (h : Rot (stepsOf T p r) s) : Rep T p r s (vl T p r (T.length - p + s) - vl T p r (T.length - p)) := by
  have p0 := o.p0
  have p1 := o.p1
  have ln := stepsOf_len T p r
  have d : ∀ j, j < p → vl T p r (T.length - p + (j + s) + 1) - vl T p r (T.length - p + (j + s)) = vl T p r (T.length - p + j + 1) - vl T p r (T.length - p + j) := by
    intro j hj
    have e := rot_get h (by omega) (i := j) (by omega)
    rw [ln, stepsOf_get hj] at e
    by_cases q : j + s < p
    · rw [if_pos q, stepsOf_get q] at e
      exact (Option.some.inj e).symm
    · rw [if_neg q, stepsOf_get (by omega)] at e
      have e := Option.some.inj e
      have e1 := vl_add p0 p1 (r := r) (x := T.length - p + (j + s - p) + 1) (by omega)
      have e2 := vl_add p0 p1 (r := r) (x := T.length - p + (j + s - p)) (by omega)
      rw [show T.length - p + (j + s - p) + 1 + p = T.length - p + (j + s) + 1 by omega] at e1
      rw [show T.length - p + (j + s - p) + p = T.length - p + (j + s) by omega] at e2
      omega
  have all : ∀ j, j ≤ p → vl T p r (T.length - p + j + s) = vl T p r (T.length - p + j) + (vl T p r (T.length - p + s) - vl T p r (T.length - p)) := by
    intro j
    induction j with
    | zero => intro _; simp; omega
    | succ j ih =>
      intro hj
      have a := ih (by omega)
      have b := d j (by omega)
      rw [show T.length - p + (j + s) + 1 = T.length - p + (j + 1) + s by omega, show T.length - p + (j + s) = T.length - p + j + s by omega] at b
      rw [show T.length - p + (j + 1) = T.length - p + j + 1 by omega] at b ⊢
      omega
  intro i h1 h2
  have := all (i - (T.length - p)) (by omega)
  rw [show T.length - p + (i - (T.length - p)) = i by omega] at this
  rw [this, vl_lt h2]
theorem rep_rot {T : List Int} {p s : Nat} {r c : Int} (o : RuleW T p r) (sp : s ≤ p) (h : Rep T p r s c) : Rot (stepsOf T p r) s := by
  have p0 := o.p0
  have p1 := o.p1
  have ln := stepsOf_len T p r
  have all := rep_allW o h
  refine of_rot (by omega) fun i hi => ?_
  rw [ln] at hi ⊢
  rw [stepsOf_get hi]
  have a := all (T.length - p + i) (by omega)
  have b := all (T.length - p + i + 1) (by omega)
  by_cases q : i + s < p
  · rw [if_pos q, stepsOf_get q]
    rw [show T.length - p + i + s = T.length - p + (i + s) by omega] at a
    rw [show T.length - p + i + 1 + s = T.length - p + (i + s) + 1 by omega] at b
    congr 1
    omega
  · rw [if_neg q, stepsOf_get (by omega)]
    have e1 := vl_add p0 p1 (r := r) (x := T.length - p + (i + s - p) + 1) (by omega)
    have e2 := vl_add p0 p1 (r := r) (x := T.length - p + (i + s - p)) (by omega)
    rw [show T.length - p + (i + s - p) + 1 + p = T.length - p + i + 1 + s by omega] at e1
    rw [show T.length - p + (i + s - p) + p = T.length - p + i + s by omega] at e2
    congr 1
    omega
/-- the least turn of the steps is the rule's least turn -/
theorem cyc_rule {T : List Int} {p s : Nat} {r : Int} (o : RuleOk T p r) (h : Cyc (stepsOf T p r) s) : 0 < s ∧ s ≤ p ∧ s ∣ p ∧ Rep T p r s (r * (s : Int) / (p : Int)) ∧ ∀ s' c', 0 < s' → s' < s → s' ∣ p → ¬ Rep T p r s' c' := by
  obtain ⟨s0, s1, dv, rot, least⟩ := h
  rw [stepsOf_len] at s1 dv rot least
  have p0 := o.p0
  refine ⟨s0, s1, dv, ?_, fun s' c' h1 h2 h3 rep => least s' h1 h2 h3 (rep_rot o.w (by omega) rep)⟩
  by_cases q : s < p
  · have rep := rot_rep o.w q (rot q)
    rw [(rep_quot o dv rep).1]
    exact rep
  · obtain rfl : s = p := by omega
    rw [Int.mul_ediv_cancel _ (by omega)]
    exact rep_self o
/-! values told by a function, as a rule -/
theorem tab_getD {f : Nat → Int} {n i : Nat} (h : i < n) : ((List.range n).map f).getD i 0 = f i := by
  rw [List.getD_eq_getElem?_getD, List.getElem?_map, List.getElem?_range h]
  rfl
theorem tab_len {f : Nat → Int} {n : Nat} : ((List.range n).map f).length = n := by rw [List.length_map, List.length_range]
theorem tab_vl {f : Nat → Int} {B t : Nat} {R : Int} (t0 : 0 < t) (h : ∀ x, B ≤ x → f (x + t) = f x + R) : ∀ x, vl ((List.range (B + t)).map f) t R x = f x := by
  intro x
  induction x using Nat.strongRecOn with
  | _ x ih =>
    by_cases q : x < B + t
    · rw [vl_lt (by rw [tab_len]; exact q), tab_getD q]
    · rw [vl_step t0 (by rw [tab_len]; omega) (by rw [tab_len]; omega), ih (x - t) (by omega)]
      have := h (x - t) (by omega)
      rw [show x - t + t = x by omega] at this
      omega
theorem tab_ok {f : Nat → Int} {B t : Nat} {R : Int} (t0 : 0 < t) (R0 : 0 ≤ R) (h : ∀ x, B ≤ x → f (x + t) = f x + R) (f0 : ∀ x, 0 ≤ f x) (up : ∀ x, f x ≤ f (x + 1)) : RuleOk ((List.range (B + t)).map f) t R := by
  refine ⟨t0, by rw [tab_len]; omega, R0, fun i hi => ?_, fun i hi => ?_, ?_⟩
  · rw [tab_len] at hi
    rw [tab_getD hi]
    exact f0 i
  · rw [tab_len] at hi
    rw [tab_getD hi, tab_getD (by omega)]
    exact up i
  · rw [tab_len, tab_getD (by omega), tab_getD (by omega), show B + t - t = B by omega]
    have a := h B (Nat.le_refl _)
    have b := up (B + t - 1)
    rw [show B + t - 1 + 1 = B + t by omega] at b
    omega
end Sm

set_option linter.all false
set_option maxRecDepth 100000
namespace Sm
section
variable {T1 T2 : List Int} {p1 p2 : Nat} {r1 r2 : Int}
/-- two rules that are equal far off: the shorter one's period divides the other one's -/
theorem far_le {A : Nat} (s1 : Short T1 p1 r1) (o2 : RuleOk T2 p2 r2) (h : ∀ x, A ≤ x → vl T1 p1 r1 x = vl T2 p2 r2 x) : Nat.gcd p1 p2 = p1 := by
  have o1 := s1.ok
  obtain ⟨c, hc⟩ := gcd_turn (f := vl T1 p1 r1) (A := max A (max (T1.length - p1) (T2.length - p2))) _ p1 p2 (Nat.le_refl _) o1.p0 o2.p0 ⟨r1, fun x hx => vl_add o1.p0 o1.p1 (by omega)⟩
    ⟨r2, fun x hx => by rw [h x (by omega), h (x + p2) (by omega)]; exact vl_add o2.p0 o2.p1 (by omega)⟩
  have g0 : 0 < Nat.gcd p1 p2 := Nat.gcd_pos_of_pos_left _ o1.p0
  have gl : Nat.gcd p1 p2 ≤ p1 := Nat.le_of_dvd o1.p0 (Nat.gcd_dvd_left ..)
  by_cases q : Nat.gcd p1 p2 = p1
  · exact q
  · refine absurd (fun i h1 h2 => ?_) (s1.turn (Nat.gcd p1 p2) c g0 (by omega) (Nat.gcd_dvd_left ..))
    have := rep_down o1 hc (x := i) h1
    rw [vl_lt h2] at this
    exact this
theorem far_turn {A : Nat} (s1 : Short T1 p1 r1) (s2 : Short T2 p2 r2) (h : ∀ x, A ≤ x → vl T1 p1 r1 x = vl T2 p2 r2 x) : p1 = p2 ∧ r1 = r2 := by
  have a := far_le s1 s2.ok h
  have b := far_le s2 s1.ok fun x hx => (h x hx).symm
  rw [Nat.gcd_comm] at b
  have e : p1 = p2 := a.symm.trans b
  refine ⟨e, ?_⟩
  subst e
  have e1 := vl_add (r := r1) s1.ok.p0 s1.ok.p1 (x := A + T1.length + T2.length) (by omega)
  have e2 := vl_add (r := r2) s2.ok.p0 s2.ok.p1 (x := A + T1.length + T2.length) (by omega)
  rw [h _ (by omega), h _ (by omega)] at e1
  omega
/-- from B on the one is nowhere below: the greater values repeat as it does -/
theorem over_turn {B : Nat} (o1 : RuleOk T1 p1 r1) (hB : T1.length - p1 ≤ B) (hL : ∀ x, B ≤ x → vl T2 p2 r2 x ≤ vl T1 p1 r1 x) : ∀ x, B ≤ x → max (vl T1 p1 r1 (x + p1)) (vl T2 p2 r2 (x + p1)) = max (vl T1 p1 r1 x) (vl T2 p2 r2 x) + r1 := by
  intro x hx
  have a := hL x hx
  have b := hL (x + p1) (by omega)
  have c := vl_add o1.p0 o1.p1 (r := r1) (x := x) (by omega)
  omega
/-- the shortest table of the greater values: it ends a period behind the last amount at which the flat one is above -/
theorem over_len {T : List Int} {p L : Nat} {r : Int} (s : Short T p r) (s1 : Short T1 p1 r1) (hv : ∀ x, vl T p r x = max (vl T1 p1 r1 x) (vl T2 p2 r2 x)) (hL : T1.length - p1 ≤ L) (above : vl T1 p1 r1 L < vl T2 p2 r2 L) (behind : ∀ x, L < x → vl T2 p2 r2 x ≤ vl T1 p1 r1 x) :
    p = p1 ∧ r = r1 ∧ T.length = L + 1 + p1 := by
  have far : ∀ x, L + 1 ≤ x → vl T p r x = vl T1 p1 r1 x := fun x hx => by
    rw [hv]
    have := behind x (by omega)
    omega
  obtain ⟨rfl, rfl⟩ := far_turn s s1 far
  refine ⟨rfl, rfl, ?_⟩
  have o := s.ok
  have o1 := s1.ok
  have p0 := o.p0
  have q1 := o.p1
  rcases Nat.lt_trichotomy T.length (L + 1 + p) with l | l | l
  · exfalso
    have a := vl_add (r := r) p0 q1 (x := L) (by omega)
    have b := vl_add (r := r) p0 o1.p1 (x := L) hL
    rw [far (L + p) (by omega), b, hv L] at a
    omega
  · exact l
  · exfalso
    rcases s.start with e | e
    · omega
    · apply e
      have c := far (T.length - 1) (by omega)
      have d := far (T.length - p - 1) (by omega)
      have f := vl_add (r := r) p0 o1.p1 (x := T.length - p - 1) (by omega)
      rw [show T.length - p - 1 + p = T.length - 1 by omega] at f
      rw [c, f, ← d, vl_lt (by omega)]
end
end Sm

set_option linter.all false
set_option maxRecDepth 100000
namespace Sm
/-- the last amount at which d is above 0, or -1 -/
def IsLast (d : Nat → Int) (L : Int) : Prop := (L = -1 ∨ ∃ n : Nat, L = (n : Int) ∧ 0 < d n) ∧ ∀ x : Nat, 0 < d x → (x : Int) ≤ L
def earlyL (d : Nat → Int) (n : Nat) : List Int := ((List.range n).filter fun x => decide (0 < d x)).map fun (x : Nat) => (x : Int)
def lateL (d : Nat → Int) (B t : Nat) (g : Int) (n : Nat) : List Int := ((List.range n).filter fun i => decide (0 < d (B + i))).map fun i => ((B + i : Nat) : Int) + (t : Int) * ((d (B + i) - 1) / g)
theorem down_turns {d : Nat → Int} {B t : Nat} {g : Int} (h : ∀ x, B ≤ x → d (x + t) = d x - g) {x : Nat} (hx : B ≤ x) : ∀ k : Nat, d (x + k * t) = d x - (k : Int) * g
  | 0 => by simp
  | k + 1 => by
    have ih := down_turns h hx k
    rw [show x + (k + 1) * t = x + k * t + t by rw [Nat.add_mul, Nat.one_mul, Nat.add_assoc], h _ (by omega), ih, Int.natCast_add, Int.add_mul]
    simp
    omega
theorem last_of {d : Nat → Int} {B t : Nat} {g M : Int} (t0 : 0 < t) (hg : 0 < g) (h : ∀ x, B ≤ x → d (x + t) = d x - g) (up : ∀ y ∈ earlyL d B ++ lateL d B t g t, y ≤ M) : ∀ x : Nat, 0 < d x → (x : Int) ≤ M := by
  intro x hx
  by_cases q : x < B
  · refine up _ (List.mem_append_left _ (List.mem_map.mpr ⟨x, List.mem_filter.mpr ⟨List.mem_range.mpr q, decide_eq_true hx⟩, rfl⟩))
  · obtain ⟨y, k, h1, h2, rfl⟩ := split_turn t0 (show B ≤ x by omega)
    have e := down_turns h h1 k
    rw [e] at hx
    have k0 : 0 ≤ (k : Int) * g := Int.mul_nonneg (by omega) (by omega)
    have hk : (k : Int) ≤ (d y - 1) / g := (Int.le_ediv_iff_mul_le hg).mpr (by omega)
    have m := up (((B + (y - B) : Nat) : Int) + (t : Int) * ((d (B + (y - B)) - 1) / g)) (List.mem_append_right _ (List.mem_map.mpr ⟨y - B, List.mem_filter.mpr ⟨List.mem_range.mpr (by omega), decide_eq_true (by rw [show B + (y - B) = y by omega]; omega)⟩, rfl⟩))
    rw [show B + (y - B) = y by omega] at m
    have hm : (t : Int) * (k : Int) ≤ (t : Int) * ((d y - 1) / g) := Int.mul_le_mul_of_nonneg_left hk (by omega)
    rw [Int.natCast_add, Int.natCast_mul, Int.mul_comm]
    omega
theorem last_in {d : Nat → Int} {B t : Nat} {g M : Int} (hg : 0 < g) (h : ∀ x, B ≤ x → d (x + t) = d x - g) (hm : M ∈ earlyL d B ++ lateL d B t g t) : ∃ n : Nat, M = (n : Int) ∧ 0 < d n := by
  rcases List.mem_append.mp hm with m | m
  · obtain ⟨x, hx, rfl⟩ := List.mem_map.mp m
    exact ⟨x, rfl, of_decide_eq_true (List.mem_filter.mp hx).2⟩
  · obtain ⟨i, hi, rfl⟩ := List.mem_map.mp m
    have di := of_decide_eq_true (List.mem_filter.mp hi).2
    have q0 : 0 ≤ (d (B + i) - 1) / g := Int.ediv_nonneg (by omega) (by omega)
    refine ⟨B + i + ((d (B + i) - 1) / g).toNat * t, ?_, ?_⟩
    · rw [Int.natCast_add (B + i), Int.natCast_mul, Int.toNat_of_nonneg q0, Int.mul_comm]
    · rw [down_turns h (by omega), Int.toNat_of_nonneg q0]
      have a := Int.mul_ediv_add_emod (d (B + i) - 1) g
      have b := Int.emod_nonneg (d (B + i) - 1) (show g ≠ 0 by omega)
      rw [Int.mul_comm] at a
      omega
theorem last_is {d : Nat → Int} {B t : Nat} {g : Int} (t0 : 0 < t) (hg : 0 < g) (h : ∀ x, B ≤ x → d (x + t) = d x - g) {ns : List Int} (hns : ns = earlyL d B ++ lateL d B t g t) :
    (ns = [] → IsLast d (-1)) ∧ ∀ m, m ∈ ns → (∀ y, y ∈ ns → y ≤ m) → IsLast d m := by
  subst hns
  refine ⟨fun e => ⟨.inl rfl, last_of t0 hg h fun y hy => by rw [e] at hy; exact nomatch hy⟩, fun m hm hle => ⟨.inr (last_in hg h hm), last_of t0 hg h hle⟩⟩
end Sm

set_option maxHeartbeats 4000000
namespace Sm
/-! the two written pairs of rules at the end of the law -/
theorem vl_flat {c : Int} (x : Nat) : vl [c] 1 0 x = c := by
  unfold vl
  split
  · rename_i h
    rw [show x = 0 by simp at h; omega]
    rfl
  · rename_i h
    simp only [List.length_cons, List.length_nil] at h ⊢
    rw [show x - ((x - (0 + 1)) / 1 + 1) * 1 = 0 by rw [Nat.div_one]; omega, Int.mul_zero, Int.add_zero]
    rfl
theorem zeros_at {i n : Nat} : (List.replicate n (0 : Int)).getD i 0 = 0 := by
  rw [List.getD_eq_getElem?_getD, List.getElem?_replicate]
  split <;> rfl
theorem vl_stairs {r : Int} (x : Nat) : vl (List.replicate 40 0) 40 r x = ((x / 40 : Nat) : Int) * r := by
  unfold vl
  rw [List.length_replicate, zeros_at, zeros_at]
  split
  · rename_i h
    rw [show x / 40 = 0 by omega]
    simp
  · rename_i h
    rw [show (x - 40) / 40 + 1 = x / 40 by omega, Int.zero_add]
theorem flat_short {c : Int} (c0 : 0 ≤ c) : Short [c] 1 0 := by
  refine ⟨⟨by decide, Nat.le_refl 1, by decide, fun i hi => ?_, fun i hi => ?_, ?_⟩, fun s c h1 h2 => by omega, .inl rfl⟩
  · simp only [List.length_cons, List.length_nil] at hi
    rw [show i = 0 by omega]
    exact c0
  · simp only [List.length_cons, List.length_nil] at hi
    omega
  · show c ≤ c + 0
    omega
theorem stairs_short {r : Int} (r0 : 0 < r) : Short (List.replicate 40 0) 40 r := by
  refine ⟨⟨by decide, by rw [List.length_replicate]; exact Nat.le_refl _, by omega, fun i hi => ?_, fun i hi => ?_, ?_⟩, fun s c h1 h2 _ h => ?_, .inl (by rw [List.length_replicate])⟩
  · rw [zeros_at]
    exact Int.le_refl _
  · rw [zeros_at, zeros_at]
    exact Int.le_refl _
  · rw [zeros_at, zeros_at]
    omega
  · have a := h 0 (by rw [List.length_replicate]; omega) (by rw [List.length_replicate]; decide)
    have b := h 39 (by rw [List.length_replicate]; omega) (by rw [List.length_replicate]; decide)
    rw [vl_stairs, zeros_at, show (0 + s) / 40 = 0 by omega] at a
    rw [vl_stairs, zeros_at, show (39 + s) / 40 = 1 by omega] at b
    simp at a b
    omega
theorem far_len {T : List Int} {p : Nat} {r : Int} (s : Short T p r) (hv : ∀ x, vl T p r x = max (vl (List.replicate 40 0) 40 1 x) (vl [999999999999] 1 0 x)) : T.length = 40000000000000 := by
  have := over_len (L := 39999999999959) s (stairs_short (r := 1) (by decide)) hv (by rw [List.length_replicate]; omega) (by rw [vl_stairs, vl_flat]; decide) fun x hx => by
    rw [vl_stairs, vl_flat]
    omega
  omega
theorem near_tab {T : List Int} {p : Nat} {r : Int} (s : Short T p r) (hv : ∀ x, vl T p r x = max (vl [4960] 1 0 x) (vl (List.replicate 40 0) 40 40 x)) : T = (List.range 5000).map (fun x => max 4960 (((x / 40 : Nat) : Int) * 40)) ∧ p = 40 ∧ r = 40 := by
  have hv2 : ∀ x, vl T p r x = max (vl (List.replicate 40 0) 40 40 x) (vl [4960] 1 0 x) := fun x => by rw [hv, Int.max_comm]
  obtain ⟨e1, e2, e3⟩ := over_len (L := 4959) s (stairs_short (r := 40) (by decide)) hv2 (by rw [List.length_replicate]; omega) (by rw [vl_stairs, vl_flat]; decide) fun x hx => by
    rw [vl_stairs, vl_flat]
    omega
  refine ⟨List.ext_getElem (by rw [List.length_map, List.length_range]; omega) fun i h1 h2 => ?_, e1, e2⟩
  have h := hv i
  rw [vl_lt h1, vl_flat, vl_stairs, List.getD_eq_getElem?_getD, List.getElem?_eq_getElem h1] at h
  rw [List.getElem_map, List.getElem_range]
  exact h
end Sm

set_option maxHeartbeats 4000000
namespace Sm
/-! each rule has a shortest tuple -/
theorem least_of {Q : Nat → Prop} (h : ∃ n, Q n) : ∃ n, Q n ∧ ∀ m, m < n → ¬ Q m := by
  obtain ⟨n, hn⟩ := h
  induction n using Nat.strongRecOn with
  | _ n ih =>
    by_cases q : ∃ m, m < n ∧ Q m
    · obtain ⟨m, hm, hq⟩ := q
      exact ih m hm hq
    · exact ⟨n, hn, fun m hm hq => q ⟨m, hm, hq⟩⟩
theorem short_is {T : List Int} {p : Nat} {r : Int} (o : RuleOk T p r) : ∃ T' p' r', Short T' p' r' ∧ ∀ x, vl T' p' r' x = vl T p r x := by
  have p0 := o.p0
  have p1 := o.p1
  obtain ⟨s, ⟨s0, sd, c, hc⟩, low⟩ := least_of (Q := fun s => 0 < s ∧ s ∣ p ∧ ∃ c, Rep T p r s c) ⟨p, p0, Nat.dvd_refl p, r, rep_self o⟩
  have sp : s ≤ p := Nat.le_of_dvd p0 sd
  have all := rep_all o hc
  have slope := rep_slope o sd hc
  have c0 : 0 ≤ c := by
    have h1 : 0 ≤ r * (s : Int) := Int.mul_nonneg o.r0 (by omega)
    rw [slope] at h1
    by_cases q : 0 ≤ c
    · exact q
    · have h2 : c * (p : Int) < 0 := Int.mul_neg_of_neg_of_pos (by omega) (by omega)
      omega
  obtain ⟨a, ⟨ha, hall⟩, lowa⟩ := least_of (Q := fun a => a ≤ T.length - p ∧ ∀ y, a ≤ y → vl T p r (y + s) = vl T p r y + c) ⟨T.length - p, Nat.le_refl _, all⟩
  refine ⟨T.take (a + s), s, c, cut_short o s0 sd ha c0 hall (fun s' c' h1 h2 h3 h4 => low s' h2 ⟨h1, h3, c', h4⟩) ?_, cut_vl s0 (by omega) hall⟩
  by_cases z : a = 0
  · exact .inl z
  · refine .inr fun e => lowa (a - 1) (by omega) ⟨by omega, fun y hy => ?_⟩
    by_cases q : y = a - 1
    · rw [q, e, vl_lt (by omega)]
    · exact hall y (by omega)
end Sm

set_option maxHeartbeats 4000000
namespace Sm
/-! the second rule's value at the first one's -/
section
variable {T1 T2 : List Int} {p1 p2 : Nat} {r1 r2 : Int}
def thn (T1 : List Int) (p1 : Nat) (r1 : Int) (T2 : List Int) (p2 : Nat) (r2 : Int) (x : Nat) : Int := vl T2 p2 r2 (vl T1 p1 r1 x).toNat
theorem thn_pos (o2 : RuleOk T2 p2 r2) (x : Nat) : 0 ≤ thn T1 p1 r1 T2 p2 r2 x := o2.pos _
theorem thn_up (o1 : RuleOk T1 p1 r1) (o2 : RuleOk T2 p2 r2) (x : Nat) : thn T1 p1 r1 T2 p2 r2 x ≤ thn T1 p1 r1 T2 p2 r2 (x + 1) := by
  have := o1.up x
  exact o2.le (by omega)
theorem thn_turn {B a b : Nat} (o1 : RuleOk T1 p1 r1) (o2 : RuleOk T2 p2 r2) (hB : T1.length - p1 ≤ B) (hab : (a : Int) * r1 = (b : Int) * (p2 : Int)) (hb : b = 0 ∨ ((T2.length - p2 : Nat) : Int) ≤ vl T1 p1 r1 B) :
    ∀ x, B ≤ x → thn T1 p1 r1 T2 p2 r2 (x + a * p1) = thn T1 p1 r1 T2 p2 r2 x + (b : Int) * r2 := by
  intro x hx
  unfold thn
  have e1 := vl_addk o1.p0 o1.p1 (r := r1) (x := x) (by omega) a
  rw [e1, hab]
  have n1 := o1.pos x
  have up := o1.le hx
  rcases hb with rfl | hb
  · simp
  · have e : (vl T1 p1 r1 x + (b : Int) * (p2 : Int)).toNat = (vl T1 p1 r1 x).toNat + b * p2 := by
      rw [← Int.natCast_mul]
      omega
    rw [e]
    exact vl_addk o2.p0 o2.p1 (r := r2) (by omega) b
/-- the turns that then_rule takes -/
theorem thn_times (p0 : 0 < p2) (r0 : 0 ≤ r1) : 0 < p2 / Nat.gcd p2 r1.natAbs ∧ p2 / Nat.gcd p2 r1.natAbs ≤ p2 ∧ ((p2 / Nat.gcd p2 r1.natAbs : Nat) : Int) * r1 = ((r1.natAbs * (p2 / Nat.gcd p2 r1.natAbs) / p2 : Nat) : Int) * (p2 : Int) := by
  have g0 := Nat.gcd_pos_of_pos_left r1.natAbs p0
  obtain ⟨c, hc⟩ := Nat.gcd_dvd_left p2 r1.natAbs
  obtain ⟨d, hd⟩ := Nat.gcd_dvd_right p2 r1.natAbs
  have e : p2 / Nat.gcd p2 r1.natAbs = c := by
    rw [Nat.div_eq_of_eq_mul_right g0 hc]
  rw [e]
  have c0 : 0 < c := by
    rcases Nat.eq_zero_or_pos c with z | z
    · rw [z, Nat.mul_zero] at hc
      omega
    · exact z
  refine ⟨c0, ?_, ?_⟩
  · rw [← e]
    exact Nat.div_le_self ..
  · generalize Nat.gcd p2 r1.natAbs = g at *
    have m : r1.natAbs * c / p2 = d := by
      rw [hd, hc, show g * d * c = g * c * d by rw [Nat.mul_assoc, Nat.mul_comm d c, Nat.mul_assoc]]
      exact Nat.mul_div_cancel_left _ (Nat.mul_pos g0 c0)
    rw [m]
    have er : r1 = ((g * d : Nat) : Int) := by omega
    rw [er, hc, ← Int.natCast_mul, ← Int.natCast_mul]
    congr 1
    rw [Nat.mul_comm d, Nat.mul_assoc, Nat.mul_left_comm]
end
/-- one step, at the end -/
def stepT (N : Nat) : List Int := List.replicate N 0 ++ [9]
theorem step_len (N : Nat) : (stepT N).length = N + 1 := by
  unfold stepT
  rw [List.length_append, List.length_replicate]
  rfl
theorem step_at {N i : Nat} : (stepT N).getD i 0 = if i = N then 9 else 0 := by
  unfold stepT
  rw [List.getD_eq_getElem?_getD, List.getElem?_append, List.length_replicate]
  split
  · rw [if_neg (by omega), List.getElem?_replicate]
    split <;> rfl
  · split
    · rename_i h
      rw [h, Nat.sub_self]
      rfl
    · rw [List.getElem?_eq_none (by rw [List.length_singleton]; omega)]
      rfl
theorem step_ok {N : Nat} {r : Int} (h : 0 ≤ r) : RuleOk (stepT N) 1 r := by
  have l := step_len N
  refine ⟨by decide, by omega, h, fun i hi => ?_, fun i hi => ?_, ?_⟩
  · rw [step_at]
    split <;> omega
  · rw [step_at, step_at]
    split <;> split <;> omega
  · rw [l, Nat.add_sub_cancel]
    omega
theorem step_vl {N : Nat} (x : Nat) : vl (stepT N) 1 0 x = if x < N then 0 else 9 := by
  have l := step_len N
  unfold vl
  rw [l]
  split
  · rw [step_at]
    split <;> split <;> omega
  · rw [if_neg (by omega), Nat.div_one, Nat.mul_one, show x - (x - (N + 1) + 1) = N by omega, step_at, if_pos rfl, Int.mul_zero, Int.add_zero]
theorem step_short {N : Nat} (h : 0 < N) : Short (stepT N) 1 0 := by
  have l := step_len N
  refine ⟨step_ok (by decide), fun s c h1 h2 => by omega, .inr ?_⟩
  rw [step_vl, step_at, l, if_neg (by omega), if_neg (by omega)]
  decide
end Sm

set_option linter.all false
set_option maxHeartbeats 4000000
namespace Sm
/-! the inverse of a rule that ends rising: the least amounts -/
section
variable {T : List Int} {p : Nat} {r : Int}
theorem lf_is (o : RuleOk T p r) (r0 : 0 < r) (y : Nat) : ∃ i, IsLf T p r (y : Int) (some i) := by
  have far : (y : Int) ≤ vl T p r (T.length + y * p) := by
    have a := vl_addk o.p0 o.p1 (r := r) (x := T.length) (by omega) y
    have c := o.pos T.length
    have d : (y : Int) * 1 ≤ (y : Int) * r := Int.mul_le_mul_of_nonneg_left (by omega) (by omega)
    rw [a]
    omega
  obtain ⟨i, hi, low⟩ := least_of (Q := fun x => (y : Int) ≤ vl T p r x) ⟨_, far⟩
  exact ⟨i, hi, fun z hz => by have := low z hz; omega⟩
noncomputable def lf (T : List Int) (p : Nat) (r : Int) (y : Nat) : Nat :=
  open Classical in if h : ∃ i, IsLf T p r (y : Int) (some i) then Classical.choose h else 0
theorem lf_sp (o : RuleOk T p r) (r0 : 0 < r) (y : Nat) : IsLf T p r (y : Int) (some (lf T p r y)) := by
  have h := lf_is o r0 y
  unfold lf
  rw [dif_pos h]
  exact Classical.choose_spec h
theorem lf_le (o : RuleOk T p r) (r0 : 0 < r) {x y : Nat} : lf T p r y ≤ x ↔ (y : Int) ≤ vl T p r x := by
  obtain ⟨a, b⟩ := lf_sp o r0 y
  constructor
  · intro h
    have := o.le h
    omega
  · intro h
    rcases Nat.lt_or_ge x (lf T p r y) with q | q
    · have := b x q
      omega
    · exact q
theorem lf_up (o : RuleOk T p r) (r0 : 0 < r) (y : Nat) : lf T p r y ≤ lf T p r (y + 1) := by
  rw [lf_le o r0]
  have := (lf_sp o r0 (y + 1)).1
  omega
/-- from where on the inverse repeats: one more than this -/
def invB (T : List Int) (p : Nat) (r : Int) : Int := max (if p < T.length then T.getD (T.length - p - 1) 0 else -1) (T.getD (T.length - 1) 0 - r)
theorem invB_lo (o : RuleOk T p r) : -1 ≤ invB T p r := by
  unfold invB
  split
  · have := o.nn (T.length - p - 1) (by have := o.p0; omega)
    omega
  · omega
theorem inv_begin (o : RuleOk T p r) {x : Nat} (h : invB T p r < vl T p r x) : T.length - p ≤ x := by
  unfold invB at h
  have p0 := o.p0
  rcases Nat.lt_or_ge x (T.length - p) with q | q
  · have := o.le (show x ≤ T.length - p - 1 by omega)
    rw [vl_lt (x := T.length - p - 1) (by omega)] at this
    rw [if_pos (by omega)] at h
    omega
  · exact q
theorem inv_end (o : RuleOk T p r) {x : Nat} (h : invB T p r + r < vl T p r x) : T.length ≤ x := by
  unfold invB at h
  have p0 := o.p0
  have p1 := o.p1
  rcases Nat.lt_or_ge x T.length with q | q
  · have := o.le (show x ≤ T.length - 1 by omega)
    rw [vl_lt (x := T.length - 1) (by omega)] at this
    omega
  · exact q
theorem lf_turn (o : RuleOk T p r) (r0 : 0 < r) {s B : Nat} (hs : (s : Int) = r) (hB : invB T p r < (B : Int)) : ∀ y, B ≤ y → lf T p r (y + s) = lf T p r y + p := by
  intro y hy
  have p0 := o.p0
  have p1 := o.p1
  obtain ⟨a, b⟩ := lf_sp o r0 y
  obtain ⟨c, d⟩ := lf_sp o r0 (y + s)
  have h1 : T.length - p ≤ lf T p r y := inv_begin o (by omega)
  have h2 : T.length ≤ lf T p r (y + s) := inv_end o (by omega)
  have e1 := vl_add p0 p1 (r := r) (x := lf T p r y) h1
  have e2 := vl_add p0 p1 (r := r) (x := lf T p r (y + s) - p) (by omega)
  rw [show lf T p r (y + s) - p + p = lf T p r (y + s) by omega] at e2
  refine Nat.le_antisymm ?_ ?_
  · rw [lf_le o r0]
    omega
  · have : lf T p r y ≤ lf T p r (y + s) - p := by
      rw [lf_le o r0]
      omega
    omega
def invN (T : List Int) (p : Nat) (r : Int) : Nat := (invB T p r + 1).toNat
noncomputable def invT (T : List Int) (p : Nat) (r : Int) : List Int := (List.range (invN T p r + r.toNat)).map fun y => (lf T p r y : Int)
theorem inv_ok (o : RuleOk T p r) (r0 : 0 < r) : RuleOk (invT T p r) r.toNat (p : Int) ∧ ∀ y, vl (invT T p r) r.toNat (p : Int) y = (lf T p r y : Int) := by
  have b := invB_lo o
  have turn : ∀ x, invN T p r ≤ x → ((lf T p r (x + r.toNat) : Nat) : Int) = (lf T p r x : Int) + (p : Int) := fun x hx => by
    rw [lf_turn o r0 (s := r.toNat) (B := invN T p r) (by omega) (by unfold invN; omega) x hx, Int.natCast_add]
  exact ⟨tab_ok (f := fun y => (lf T p r y : Int)) (by omega) (by omega) turn (fun x => by omega) (fun x => by have := lf_up o r0 x; omega), tab_vl (f := fun y => (lf T p r y : Int)) (by omega) turn⟩
theorem invT_len : (invT T p r).length = invN T p r + r.toNat := by
  unfold invT
  rw [List.length_map, List.length_range]
/-- the inverse of the shortest tuple is the shortest of its values -/
theorem inv_short (s : Short T p r) (r0 : 0 < r) : Short (invT T p r) r.toNat (p : Int) := by
  have o := s.ok
  have p0 := o.p0
  have p1 := o.p1
  obtain ⟨oi, hv⟩ := inv_ok o r0
  have bl := invB_lo o
  have ln : (invT T p r).length = invN T p r + r.toNat := invT_len
  refine ⟨oi, fun u c u0 u1 ud rep => ?_, ?_⟩
  · -- no lesser turn
    have all := rep_all oi rep
    have slope := rep_slope oi ud rep
    have c0 : 0 < c := by
      by_cases q : 0 < c
      · exact q
      · have h1 : c * ((r.toNat : Nat) : Int) ≤ 0 := Int.mul_nonpos_of_nonpos_of_nonneg (by omega) (by omega)
        have h2 : 0 < (p : Int) * (u : Int) := Int.mul_pos (by omega) (by omega)
        omega
    have cp : c < (p : Int) := by
      by_cases q : c < (p : Int)
      · exact q
      · have h1 : (p : Int) * (u : Int) < (p : Int) * ((r.toNat : Nat) : Int) := Int.mul_lt_mul_of_pos_left (by omega) (by omega)
        have h2 : (p : Int) * ((r.toNat : Nat) : Int) ≤ c * ((r.toNat : Nat) : Int) := Int.mul_le_mul_of_nonneg_right (by omega) (by omega)
        omega
    obtain ⟨cn, hc⟩ : ∃ cn : Nat, c = (cn : Int) := ⟨c.toNat, (Int.toNat_of_nonneg (by omega)).symm⟩
    subst hc
    have far : ∀ y, invN T p r ≤ y → lf T p r (y + u) = lf T p r y + cn := fun y hy => by
      have := all y (by omega)
      rw [hv, hv] at this
      omega
    -- so the rule itself has a lesser turn
    have back : ∀ x, lf T p r (invN T p r) ≤ x → vl T p r (x + cn) = vl T p r x + (u : Int) := fun x hx => by
      have n0 := o.pos x
      have h1 := (lf_le o r0).mp hx
      obtain ⟨v, hvx⟩ : ∃ v : Nat, vl T p r x = (v : Int) := ⟨(vl T p r x).toNat, (Int.toNat_of_nonneg n0).symm⟩
      have a1 : lf T p r v ≤ x := by
        rw [lf_le o r0]
        omega
      have a2 : x < lf T p r (v + 1) := by
        rcases Nat.lt_or_ge x (lf T p r (v + 1)) with q | q
        · exact q
        · rw [ge_iff_le, lf_le o r0] at q
          omega
      have b1 := far v (by omega)
      have b2 := far (v + 1) (by omega)
      have d1 : ((v + u : Nat) : Int) ≤ vl T p r (x + cn) := by
        rw [← lf_le o r0]
        omega
      have d2 : ¬ ((v + 1 + u : Nat) : Int) ≤ vl T p r (x + cn) := by
        rw [← lf_le o r0]
        omega
      omega
    have key : Nat.gcd p cn = p := by
      obtain ⟨g, hg⟩ := gcd_turn (f := vl T p r) (A := max (lf T p r (invN T p r)) (T.length - p)) _ p cn (Nat.le_refl _) p0 (by omega) ⟨r, fun x hx => vl_add p0 p1 (by omega)⟩ ⟨(u : Int), fun x hx => back x (by omega)⟩
      have gl : Nat.gcd p cn ≤ p := Nat.le_of_dvd p0 (Nat.gcd_dvd_left ..)
      have g0 : 0 < Nat.gcd p cn := Nat.gcd_pos_of_pos_left _ p0
      by_cases q : Nat.gcd p cn = p
      · exact q
      · refine absurd (fun i h1 h2 => ?_) (s.turn (Nat.gcd p cn) g g0 (by omega) (Nat.gcd_dvd_left ..))
        have := rep_down o hg (x := i) h1
        rw [vl_lt h2] at this
        exact this
    have := Nat.le_of_dvd (show 0 < cn by omega) (Nat.gcd_dvd_right p cn)
    omega
  · -- no lesser start
    by_cases z : invN T p r = 0
    · left
      omega
    right
    obtain ⟨y, hy⟩ : ∃ y, invN T p r = y + 1 := ⟨invN T p r - 1, by omega⟩
    have yb : (y : Int) = invB T p r := by
      unfold invN at hy
      omega
    have g : (invT T p r).getD y 0 = (lf T p r y : Int) := by
      rw [← vl_lt (p := r.toNat) (r := (p : Int)) (by omega), hv]
    rw [ln, hv, hy, show y + 1 + r.toNat - 1 = y + r.toNat by omega, show y + 1 + r.toNat - r.toNat - 1 = y by omega, g]
    intro e
    have e : lf T p r (y + r.toNat) = lf T p r y + p := by omega
    obtain ⟨a, b⟩ := lf_sp o r0 y
    obtain ⟨c, d⟩ := lf_sp o r0 (y + r.toNat)
    have wrap := o.wrap
    unfold invB at yb
    by_cases q : p < T.length
    · rw [if_pos q] at yb
      have st := s.start
      rcases st with w | w
      · omega
      rw [vl_lt (by omega)] at w
      rcases Int.lt_or_le (T.getD (T.length - 1) 0 - r) (T.getD (T.length - p - 1) 0) with h | h
      · -- the one before
        have l1 : lf T p r y ≤ T.length - p - 1 := by
          rw [lf_le o r0, vl_lt (by omega)]
          omega
        have l2 : T.length ≤ lf T p r (y + r.toNat) := by
          rcases Nat.lt_or_ge (lf T p r (y + r.toNat)) T.length with q2 | q2
          · have := o.le (show lf T p r (y + r.toNat) ≤ T.length - 1 by omega)
            rw [vl_lt (x := T.length - 1) (by omega)] at this
            omega
          · exact q2
        omega
      · -- the one behind
        have l1 : T.length - p ≤ lf T p r y := by
          rcases Nat.lt_or_ge (lf T p r y) (T.length - p) with q2 | q2
          · have := o.le (show lf T p r y ≤ T.length - p - 1 by omega)
            rw [vl_lt (x := T.length - p - 1) (by omega)] at this
            omega
          · exact q2
        have l2 : lf T p r (y + r.toNat) ≤ T.length - 1 := by
          rw [lf_le o r0, vl_lt (by omega)]
          omega
        omega
    · rw [if_neg q] at yb
      have l2 : lf T p r (y + r.toNat) ≤ T.length - 1 := by
        rw [lf_le o r0, vl_lt (by omega)]
        omega
      omega
end
end Sm

set_option linter.all false
set_option maxHeartbeats 4000000
namespace Sm
/-- a shortest tuple is no longer than any other of the same values -/
theorem short_len {T T2 : List Int} {p p2 : Nat} {r r2 : Int} (s : Short T p r) (o2 : RuleOk T2 p2 r2) (h : ∀ x, vl T p r x = vl T2 p2 r2 x) : T.length ≤ T2.length := by
  have o := s.ok
  have p0 := o.p0
  have p1 := o.p1
  have q0 := o2.p0
  have q1 := o2.p1
  have g := short_le s o2 h
  have hd : p ≤ p2 := Nat.le_of_dvd q0 (by
    have := Nat.gcd_dvd_right p p2
    rwa [g] at this)
  rcases Nat.lt_or_ge T2.length T.length with q | q
  · exfalso
    rcases s.start with e | e
    · omega
    · have far : ∀ x, T.length - p ≤ x → vl T2 p2 r2 (x + p) = vl T2 p2 r2 x + r := fun x hx => by
        rw [← h, ← h]
        exact vl_add p0 p1 hx
      by_cases z : p = T.length
      · omega
      · have := rep_down o2 far (x := T.length - p - 1) (by omega)
        rw [← h, ← h, show T.length - p - 1 + p = T.length - 1 by omega, vl_lt (x := T.length - p - 1) (by omega)] at this
        exact e this
  · exact q
section
variable {T T1 T2 Tc : List Int} {p p1 p2 pc : Nat} {r r1 r2 rc : Int}
/-- the inverse's inverse -/
theorem lf_inv (o : RuleOk T p r) (r0 : 0 < r) (x : Nat) : lf (invT T p r) r.toNat (p : Int) x = if x = 0 then 0 else (vl T p r (x - 1) + 1).toNat := by
  obtain ⟨oi, hv⟩ := inv_ok o r0
  have p0 : (0 : Int) < (p : Int) := by have := o.p0; omega
  have key : ∀ y, lf (invT T p r) r.toNat (p : Int) x ≤ y ↔ x ≤ lf T p r y := fun y => by
    rw [lf_le oi p0, hv]
    omega
  split
  · rename_i h
    have := (key 0).mpr (by omega)
    omega
  · rename_i h
    have n := o.pos (x - 1)
    have a : lf (invT T p r) r.toNat (p : Int) x ≤ (vl T p r (x - 1) + 1).toNat := by
      rw [key]
      rcases Nat.lt_or_ge (lf T p r (vl T p r (x - 1) + 1).toNat) x with q | q
      · have : lf T p r (vl T p r (x - 1) + 1).toNat ≤ x - 1 := by omega
        rw [lf_le o r0] at this
        omega
      · exact q
    have b : ¬ lf (invT T p r) r.toNat (p : Int) x ≤ (vl T p r (x - 1)).toNat := by
      rw [key]
      intro q
      have : lf T p r (vl T p r (x - 1)).toNat ≤ x - 1 := by
        rw [lf_le o r0]
        omega
      omega
    omega
/-- the inverse of one rule behind another -/
theorem lf_thn (o1 : RuleOk T1 p1 r1) (o2 : RuleOk T2 p2 r2) (oc : RuleOk Tc pc rc) (r10 : 0 < r1) (r20 : 0 < r2) (rc0 : 0 < rc) (hv : ∀ x, vl Tc pc rc x = thn T1 p1 r1 T2 p2 r2 x) (y : Nat) : lf Tc pc rc y = lf T1 p1 r1 (lf T2 p2 r2 y) := by
  have key : ∀ x, lf Tc pc rc y ≤ x ↔ lf T1 p1 r1 (lf T2 p2 r2 y) ≤ x := fun x => by
    have n := o1.pos x
    rw [lf_le oc rc0, hv, lf_le o1 r10]
    unfold thn
    rw [← lf_le o2 r20]
    omega
  have a := (key _).mp (Nat.le_refl _)
  have b := (key _).mpr (Nat.le_refl _)
  omega
theorem thn_rises (o1 : RuleOk T1 p1 r1) (o2 : RuleOk T2 p2 r2) (oc : RuleOk Tc pc rc) (r10 : 0 < r1) (r20 : 0 < r2) (hv : ∀ x, vl Tc pc rc x = thn T1 p1 r1 T2 p2 r2 x) : 0 < rc := by
  have rc0 := oc.r0
  by_cases z : rc = 0
  · exfalso
    obtain ⟨B, hB⟩ : ∃ B, B = T1.length + T2.length * p1 + Tc.length := ⟨_, rfl⟩
    have reach : ((T2.length - p2 : Nat) : Int) ≤ vl T1 p1 r1 B := by
      have a := vl_addk o1.p0 o1.p1 (r := r1) (x := T1.length) (by omega) T2.length
      have b := o1.le (show T1.length + T2.length * p1 ≤ B by omega)
      have c := o1.pos T1.length
      have d : (T2.length : Int) * 1 ≤ (T2.length : Int) * r1 := Int.mul_le_mul_of_nonneg_left (by omega) (by omega)
      omega
    have t := thn_turn (B := B) (a := p2) (b := r1.toNat) o1 o2 (by omega) (by rw [Int.toNat_of_nonneg (by omega), Int.mul_comm]) (.inr reach) B (Nat.le_refl _)
    have u := vl_addk oc.p0 oc.p1 (r := rc) (x := B) (by omega) (p2 * p1)
    have m : B + p2 * p1 ≤ B + p2 * p1 * pc := by
      have := Nat.le_mul_of_pos_right (p2 * p1) oc.p0
      omega
    have w := oc.le m
    rw [u, hv, hv, t] at w
    rw [z, Int.mul_zero, Int.add_zero] at w
    have : 0 < ((r1.toNat : Nat) : Int) * r2 := Int.mul_pos (by omega) r20
    omega
  · omega
/-- the rule behind its inverse, the inverse behind the rule -/
theorem over_ge (o : RuleOk T p r) (r0 : 0 < r) (y : Nat) : (y : Int) ≤ thn (invT T p r) r.toNat (p : Int) T p r y := by
  unfold thn
  rw [(inv_ok o r0).2, Int.toNat_natCast]
  exact (lf_sp o r0 y).1
theorem under_le (o : RuleOk T p r) (r0 : 0 < r) (x : Nat) : thn T p r (invT T p r) r.toNat (p : Int) x ≤ (x : Int) := by
  unfold thn
  rw [(inv_ok o r0).2]
  have n := o.pos x
  have : lf T p r (vl T p r x).toNat ≤ x := by
    rw [lf_le o r0]
    omega
  omega
theorem plain_vl (x : Nat) : vl [0] 1 1 x = (x : Int) := by
  unfold vl
  split
  · rename_i h
    simp at h
    rw [h]
    rfl
  · rename_i h
    simp at h
    rw [Nat.div_one, Nat.mul_one, List.length_singleton, show x - (x - 1 + 1) = 0 by omega, show x - 1 + 1 = x by omega, Int.mul_one]
    simp
theorem plain_short : Short [0] 1 1 := by
  refine ⟨⟨by decide, by decide, by decide, fun i hi => ?_, fun i hi => ?_, by decide⟩, fun s c h1 h2 => by omega, .inl rfl⟩
  · have hi : i < 1 := hi
    rw [show i = 0 by omega]
    decide
  · have hi : i + 1 < 1 := hi
    omega
/-- how long the tables are -/
theorem inv_over (s : Short Tc pc rc) (o : RuleOk T p r) (r0 : 0 < r) (hv : ∀ x, vl Tc pc rc x = thn (invT T p r) r.toNat (p : Int) T p r x) : Tc.length ≤ invN T p r + r.toNat := by
  obtain ⟨oi, hi⟩ := inv_ok o r0
  have bl := invB_lo o
  have t := thn_turn (B := invN T p r) (a := 1) (b := 1) oi o (by rw [invT_len]; omega) (by omega) (.inr (by
    rw [hi]
    have := inv_begin o (x := lf T p r (invN T p r)) (by have := (lf_sp o r0 (invN T p r)).1; unfold invN at *; omega)
    omega))
  have t : ∀ x, invN T p r ≤ x → thn (invT T p r) r.toNat (p : Int) T p r (x + r.toNat) = thn (invT T p r) r.toNat (p : Int) T p r x + r := fun x hx => by
    have := t x hx
    rw [Nat.one_mul] at this
    rw [this]
    omega
  have ok := tab_ok (f := thn (invT T p r) r.toNat (p : Int) T p r) (B := invN T p r) (t := r.toNat) (R := r) (by omega) (by omega) t (thn_pos o) (thn_up oi o)
  have := short_len s ok fun x => by rw [hv, tab_vl (f := thn (invT T p r) r.toNat (p : Int) T p r) (by omega) t]
  rwa [tab_len] at this
theorem inv_under (s : Short Tc pc rc) (o : RuleOk T p r) (r0 : 0 < r) (hv : ∀ x, vl Tc pc rc x = thn T p r (invT T p r) r.toNat (p : Int) x) : Tc.length ≤ T.length + p := by
  obtain ⟨oi, hi⟩ := inv_ok o r0
  have p0 := o.p0
  have p1 := o.p1
  have t := thn_turn (B := T.length) (a := 1) (b := 1) o oi (by omega) (by omega) (.inr (by
    rw [invT_len]
    have a := vl_add p0 p1 (r := r) (x := T.length - p) (Nat.le_refl _)
    rw [show T.length - p + p = T.length by omega] at a
    have a2 : vl T p r (T.length - p) = T.getD (T.length - p) 0 := vl_lt (by omega)
    have wrap := o.wrap
    have : invB T p r < vl T p r T.length := by
      unfold invB
      split
      · have := o.row (show T.length - p - 1 ≤ T.length - p by omega) (by omega)
        omega
      · have := o.pos T.length
        have g := o.nn (T.length - p) (by omega)
        omega
    have nn := o.pos T.length
    unfold invN
    omega))
  have t : ∀ x, T.length ≤ x → thn T p r (invT T p r) r.toNat (p : Int) (x + p) = thn T p r (invT T p r) r.toNat (p : Int) x + (p : Int) := fun x hx => by
    have := t x hx
    rw [Nat.one_mul] at this
    rw [this]
    omega
  have ok := tab_ok (f := thn T p r (invT T p r) r.toNat (p : Int)) (B := T.length) (t := p) (R := (p : Int)) p0 (by omega) t (thn_pos oi) (thn_up o oi)
  have := short_len s ok fun x => by rw [hv, tab_vl (f := thn T p r (invT T p r) r.toNat (p : Int)) p0 t]
  rwa [tab_len] at this
theorem thn_len (s : Short Tc pc rc) (o1 : RuleOk T1 p1 r1) (o2 : RuleOk T2 p2 r2) (r10 : 0 < r1) (hv : ∀ x, vl Tc pc rc x = thn T1 p1 r1 T2 p2 r2 x) : Tc.length ≤ T1.length + T2.length * p1 + p2 * p1 := by
  have reach : ((T2.length - p2 : Nat) : Int) ≤ vl T1 p1 r1 (T1.length + T2.length * p1) := by
    have a := vl_addk o1.p0 o1.p1 (r := r1) (x := T1.length) (by omega) T2.length
    have c := o1.pos T1.length
    have d : (T2.length : Int) * 1 ≤ (T2.length : Int) * r1 := Int.mul_le_mul_of_nonneg_left (by omega) (by omega)
    omega
  have t := thn_turn (B := T1.length + T2.length * p1) (a := p2) (b := r1.toNat) o1 o2 (by omega) (by rw [Int.toNat_of_nonneg (by omega), Int.mul_comm]) (.inr reach)
  have t0 : 0 < p2 * p1 := Nat.mul_pos o2.p0 o1.p0
  have R0 : 0 ≤ ((r1.toNat : Nat) : Int) * r2 := Int.mul_nonneg (by omega) o2.r0
  have ok := tab_ok (f := thn T1 p1 r1 T2 p2 r2) t0 R0 t (thn_pos o2) (thn_up o1 o2)
  have := short_len s ok fun x => by rw [hv, tab_vl (f := thn T1 p1 r1 T2 p2 r2) t0 t]
  rwa [tab_len] at this
theorem lf_small (o : RuleOk T p r) (r0 : 0 < r) (y : Nat) : lf T p r y ≤ T.length + y * p := by
  rw [lf_le o r0]
  have a := vl_addk o.p0 o.p1 (r := r) (x := T.length) (by omega) y
  have c := o.pos T.length
  have d : (y : Int) * 1 ≤ (y : Int) * r := Int.mul_le_mul_of_nonneg_left (by omega) (by omega)
  rw [a]
  omega
end
end Sm

set_option linter.all false
set_option maxHeartbeats 4000000
namespace Sm
/-! the best parting of an amount between two rules -/
def IsC (f g : Nat → Int) (n x : Nat) (v : Int) : Prop := (∃ a, a < n ∧ a ≤ x ∧ v = f a + g (x - a)) ∧ ∀ a, a < n → a ≤ x → f a + g (x - a) ≤ v
theorem IsC.one {f g : Nat → Int} {n x : Nat} {v w : Int} (h : IsC f g n x v) (k : IsC f g n x w) : v = w := by
  obtain ⟨⟨a, a1, a2, a3⟩, h2⟩ := h
  obtain ⟨⟨b, b1, b2, b3⟩, k2⟩ := k
  have := h2 b b1 b2
  have := k2 a a1 a2
  omega
theorem IsC.swap {f g : Nat → Int} {x : Nat} {v : Int} (h : IsC f g (x + 1) x v) : IsC g f (x + 1) x v := by
  obtain ⟨⟨a, a1, a2, a3⟩, h2⟩ := h
  refine ⟨⟨x - a, by omega, by omega, ?_⟩, fun b b1 b2 => ?_⟩
  · rw [show x - (x - a) = a by omega]
    omega
  · have := h2 (x - b) (by omega) (by omega)
    rw [show x - (x - b) = b by omega] at this
    omega
def cm (f g : Nat → Int) (x : Nat) : Nat → Int
  | 0 => f 0 + g x
  | k + 1 => if k + 1 ≤ x then max (cm f g x k) (f (k + 1) + g (x - (k + 1))) else cm f g x k
theorem cm_is (f g : Nat → Int) (x : Nat) : ∀ k, IsC f g (k + 1) x (cm f g x k)
  | 0 => ⟨⟨0, by omega, by omega, rfl⟩, fun a h1 h2 => by
      rw [show a = 0 by omega]
      exact Int.le_refl _⟩
  | k + 1 => by
    obtain ⟨⟨a, a1, a2, a3⟩, h2⟩ := cm_is f g x k
    unfold cm
    split
    · rename_i hk
      constructor
      · by_cases q : cm f g x k ≤ f (k + 1) + g (x - (k + 1))
        · exact ⟨k + 1, by omega, hk, by omega⟩
        · exact ⟨a, by omega, a2, by omega⟩
      · intro b b1 b2
        by_cases e : b = k + 1
        · subst e
          omega
        · have := h2 b (by omega) b2
          omega
    · rename_i hk
      refine ⟨⟨a, by omega, a2, a3⟩, fun b b1 b2 => h2 b (by omega) b2⟩
/-- what rises by r each p places from b on -/
structure Pd (f : Nat → Int) (b p : Nat) (r : Int) : Prop where
  p0 : 0 < p
  r0 : 0 ≤ r
  up : ∀ x, f x ≤ f (x + 1)
  nn : ∀ x, 0 ≤ f x
  turn : ∀ x, b ≤ x → f (x + p) = f x + r
theorem RuleOk.pd {T : List Int} {p : Nat} {r : Int} (o : RuleOk T p r) : Pd (vl T p r) (T.length - p) p r := ⟨o.p0, o.r0, o.up, o.pos, fun _ h => vl_add o.p0 o.p1 h⟩
section
variable {f g : Nat → Int} {b p c q : Nat} {r t : Int}
theorem Pd.le (h : Pd f b p r) : ∀ {x y}, x ≤ y → f x ≤ f y := by
  intro x y e
  obtain ⟨k, rfl⟩ := Nat.le.dest e
  clear e
  induction k with
  | zero => exact Int.le_refl _
  | succ k ih => exact Int.le_trans ih (h.up (x + k))
theorem Pd.turnk (h : Pd f b p r) {x : Nat} (hx : b ≤ x) : ∀ k, f (x + k * p) = f x + (k : Int) * r
  | 0 => by simp
  | k + 1 => by
    rw [Nat.succ_mul, ← Nat.add_assoc, h.turn _ (by omega), h.turnk hx k]
    rw [show ((k + 1 : Nat) : Int) = (k : Int) + 1 from rfl, Int.add_mul, Int.one_mul]
    omega
theorem cm_up (hg : Pd g c q t) (x k : Nat) : cm f g x k ≤ cm f g (x + 1) k := by
  obtain ⟨⟨a, a1, a2, a3⟩, _⟩ := cm_is f g x k
  have := (cm_is f g (x + 1) k).2 a a1 (by omega)
  have u := hg.le (show x - a ≤ x + 1 - a by omega)
  omega
theorem cm_pos (hf : ∀ x, 0 ≤ f x) (hg : ∀ x, 0 ≤ g x) (x k : Nat) : 0 ≤ cm f g x k := by
  have := (cm_is f g x k).2 0 (by omega) (by omega)
  have := hf 0
  have := hg (x - 0)
  omega
theorem cm_turn (hg : Pd g c q t) {x k : Nat} (hx : k + c ≤ x) : cm f g (x + q) k = cm f g x k + t := by
  obtain ⟨⟨a, a1, a2, a3⟩, h⟩ := cm_is f g x k
  obtain ⟨⟨d, d1, d2, d3⟩, e⟩ := cm_is f g (x + q) k
  have h1 := h d d1 (by omega)
  have h2 := e a a1 (by omega)
  rw [show x + q - a = x - a + q by omega, hg.turn _ (by omega)] at h2
  rw [show x + q - d = x - d + q by omega, hg.turn _ (by omega)] at d3
  omega
theorem cm_pd (hf : Pd f b p r) (hg : Pd g c q t) (k : Nat) : Pd (fun x => cm f g x k) (k + c) q t := ⟨hg.p0, hg.r0, fun x => cm_up hg x k, fun x => cm_pos hf.nn hg.nn x k, fun _ hx => cm_turn hg hx⟩
end
section
variable {f s : Nat → Int} {bf pf bs ps : Nat} {rf rs : Int}
/-- the common turn: its rises -/
theorem turns {L : Nat} (hf : Pd f bf pf rf) (hs : Pd s bs ps rs) (h1 : pf ∣ L) (h2 : ps ∣ L) (sl : rf * (ps : Int) ≤ rs * (pf : Int)) : ∃ F S : Int, F ≤ S ∧ (∀ x, bf ≤ x → f (x + L) = f x + F) ∧ ∀ x, bs ≤ x → s (x + L) = s x + S := by
  obtain ⟨kf, e1⟩ := h1
  obtain ⟨ks, e2⟩ := h2
  refine ⟨(kf : Int) * rf, (ks : Int) * rs, ?_, fun x hx => ?_, fun x hx => ?_⟩
  · have p0 := hs.p0
    have a : (kf : Int) * rf * (ps : Int) ≤ (ks : Int) * rs * (ps : Int) := by
      have h : (kf : Int) * (rf * (ps : Int)) ≤ (kf : Int) * (rs * (pf : Int)) := Int.mul_le_mul_of_nonneg_left sl (by omega)
      have e : (kf : Int) * (rs * (pf : Int)) = (ks : Int) * rs * (ps : Int) := by
        have e3 : (kf : Int) * (pf : Int) = (ks : Int) * (ps : Int) := by
          have : kf * pf = ks * ps := by rw [Nat.mul_comm, ← e1, e2, Nat.mul_comm]
          exact_mod_cast this
        rw [Int.mul_left_comm, e3, Int.mul_left_comm, Int.mul_assoc]
      rw [Int.mul_assoc, ← e]
      exact h
    exact Int.le_of_mul_le_mul_right a (by omega)
  · rw [e1, Nat.mul_comm]
    exact hf.turnk hx kf
  · rw [e2, Nat.mul_comm]
    exact hs.turnk hx ks
/-- the flat part, where the steep one is in its turns -/
theorem flat_part {L : Nat} (L0 : 0 < L) {F S : Int} (FS : F ≤ S) (hf : ∀ x, bf ≤ x → f (x + L) = f x + F) (hs : ∀ x, bs ≤ x → s (x + L) = s x + S) (x : Nat) : ∀ a, a ≤ x → bs ≤ x - a → f a + s (x - a) ≤ cm f s x (bf + L - 1) := by
  intro a
  induction a using Nat.strongRecOn with
  | _ a ih =>
    intro ha hb
    by_cases q : a < bf + L
    · exact (cm_is f s x (bf + L - 1)).2 a (by omega) ha
    · have := ih (a - L) (by omega) (by omega) (by omega)
      have e1 := hf (a - L) (by omega)
      have e2 := hs (x - a) hb
      rw [show a - L + L = a by omega] at e1
      rw [show x - a + L = x - (a - L) by omega] at e2
      omega
theorem split_all {L : Nat} (L0 : 0 < L) {F S : Int} (FS : F ≤ S) (hf : ∀ x, bf ≤ x → f (x + L) = f x + F) (hs : ∀ x, bs ≤ x → s (x + L) = s x + S) (z : bs = 0) (x : Nat) : IsC f s (x + 1) x (cm f s x (bf + L - 1)) := by
  obtain ⟨⟨a, a1, a2, a3⟩, _⟩ := cm_is f s x (bf + L - 1)
  exact ⟨⟨a, by omega, a2, a3⟩, fun b _ b2 => flat_part L0 FS hf hs x b b2 (by omega)⟩
theorem split_both {L : Nat} (L0 : 0 < L) {F S : Int} (FS : F ≤ S) (hf : ∀ x, bf ≤ x → f (x + L) = f x + F) (hs : ∀ x, bs ≤ x → s (x + L) = s x + S) (z : 0 < bs) (x : Nat) : IsC f s (x + 1) x (max (cm s f x (bs - 1)) (cm f s x (bf + L - 1))) := by
  obtain ⟨⟨a, a1, a2, a3⟩, _⟩ := cm_is f s x (bf + L - 1)
  obtain ⟨⟨c, c1, c2, c3⟩, h⟩ := cm_is s f x (bs - 1)
  constructor
  · by_cases q : cm s f x (bs - 1) ≤ cm f s x (bf + L - 1)
    · exact ⟨a, by omega, a2, by omega⟩
    · exact ⟨x - c, by omega, by omega, by rw [show x - (x - c) = c by omega]; omega⟩
  · intro b _ b2
    by_cases q : bs ≤ x - b
    · have := flat_part L0 FS hf hs x b b2 q
      omega
    · have := h (x - b) (by omega) (by omega)
      rw [show x - (x - b) = b by omega] at this
      omega
/-- far off the steep one is in its turns -/
theorem split_far {L : Nat} (hf : Pd f bf pf rf) (hs : Pd s bs ps rs) (L0 : 0 < L) (h1 : pf ∣ L) (h2 : ps ∣ L) (sl : rf * (ps : Int) < rs * (pf : Int)) (z : 0 < bs) {S X : Nat} (hS : (S : Int) = rs * (pf : Int)) (hX : bs + bf + (bs + ps * pf) * S ≤ X) : cm s f X (bs - 1) ≤ cm f s X (bf + L - 1) := by
  obtain ⟨F', S', FS, tf, ts⟩ := turns hf hs h1 h2 (by omega)
  obtain ⟨⟨a, a1, a2, a3⟩, _⟩ := cm_is s f X (bs - 1)
  have pp : 0 < ps * pf := Nat.mul_pos hs.p0 hf.p0
  obtain ⟨P, hP⟩ : ∃ P, P = ps * pf := ⟨_, rfl⟩
  rw [← hP] at pp hX
  obtain ⟨m, hm⟩ : ∃ m, m = (bs - 1) / P + 1 := ⟨_, rfl⟩
  have m1 : bs ≤ m * P := by
    have := Nat.div_add_mod (bs - 1) P
    have := Nat.mod_lt (bs - 1) pp
    rw [hm, Nat.add_mul, Nat.one_mul, Nat.mul_comm]
    omega
  have m2 : m * P ≤ bs + P := by
    have := Nat.div_mul_le_self (bs - 1) P
    rw [hm, Nat.add_mul, Nat.one_mul]
    omega
  have S0 : 0 < S := by
    have r0 := hf.r0
    have : 0 ≤ rf * (ps : Int) := Int.mul_nonneg r0 (by omega)
    omega
  have km : m ≤ m * S := Nat.le_mul_of_pos_right m S0
  have kP : m * S * P ≤ (bs + P) * S := by
    rw [Nat.mul_right_comm]
    exact Nat.mul_le_mul_right S m2
  have kP2 : m * P ≤ m * S * P := Nat.mul_le_mul_right P km
  -- the flat part's fall
  have e1 : f (X - a - m * S * P + m * S * P) = f (X - a - m * S * P) + ((m * S * ps : Nat) : Int) * rf := by
    have := hf.turnk (x := X - a - m * S * P) (by omega) (m * S * ps)
    rw [Nat.mul_assoc (m * S) ps pf, ← hP] at this
    exact this
  -- the steep part's rise
  have e2 : s (a + m * P + (m * S - m) * P) = s (a + m * P) + (((m * S - m) * pf : Nat) : Int) * rs := by
    have := hs.turnk (x := a + m * P) (by omega) ((m * S - m) * pf)
    rw [Nat.mul_assoc (m * S - m) pf ps, Nat.mul_comm pf ps, ← hP] at this
    exact this
  have e3 : a + m * P + (m * S - m) * P = X - (X - a - m * S * P) := by
    rw [Nat.sub_mul]
    omega
  have e4 := hs.le (show a ≤ a + m * P by omega)
  have e5 := flat_part L0 FS tf ts X (X - a - m * S * P) (by omega) (by omega)
  rw [e3] at e2
  rw [show X - a - m * S * P + m * S * P = X - a by omega] at e1
  -- k (S - F) ≥ m S
  have e6 : ((m * S * ps : Nat) : Int) * rf ≤ (((m * S - m) * pf : Nat) : Int) * rs := by
    have i1 : ((m * S * ps : Nat) : Int) * rf = (m : Int) * (S : Int) * (rf * (ps : Int)) := by
      rw [Int.natCast_mul, Int.natCast_mul, Int.mul_assoc, Int.mul_comm (ps : Int) rf]
    have i2 : (((m * S - m) * pf : Nat) : Int) * rs = ((m : Int) * (S : Int) - (m : Int)) * (S : Int) := by
      rw [Int.natCast_mul, Int.natCast_sub km, Int.natCast_mul, Int.mul_assoc, Int.mul_comm (pf : Int) rs, ← hS]
    rw [i1, i2, Int.sub_mul]
    have i3 : (m : Int) * (S : Int) * (rf * (ps : Int)) ≤ (m : Int) * (S : Int) * ((S : Int) - 1) := Int.mul_le_mul_of_nonneg_left (by omega) (Int.mul_nonneg (by omega) (by omega))
    rw [Int.mul_sub, Int.mul_one] at i3
    exact i3
  omega
/-- the rule of the best partings, and how long it is -/
theorem split_is {L : Nat} (hf : Pd f bf pf rf) (hs : Pd s bs ps rs) (L0 : 0 < L) (h1 : pf ∣ L) (h2 : ps ∣ L) (sl : rf * (ps : Int) ≤ rs * (pf : Int)) (z : 0 < bs) : ∃ T p r, Short T p r ∧ (∀ x, vl T p r x = max (cm s f x (bs - 1)) (cm f s x (bf + L - 1))) ∧ T.length ≤ 2 * bs + 2 * bf + L + ps * pf + ps + (bs + ps * pf) * (rs * (pf : Int)).toNat := by
  have m1 : Pd (fun x => cm f s x (bf + L - 1)) (bf + L - 1 + bs) ps rs := cm_pd hf hs (bf + L - 1)
  have m2 : Pd (fun x => cm s f x (bs - 1)) (bs - 1 + bf) pf rf := cm_pd hs hf (bs - 1)
  have up : ∀ x, max (cm s f x (bs - 1)) (cm f s x (bf + L - 1)) ≤ max (cm s f (x + 1) (bs - 1)) (cm f s (x + 1) (bf + L - 1)) := fun x => by
    have := m1.up x
    have := m2.up x
    omega
  have nn : ∀ x, 0 ≤ max (cm s f x (bs - 1)) (cm f s x (bf + L - 1)) := fun x => by
    have := m1.nn x
    omega
  have fin : ∀ (B t : Nat) (R : Int), 0 < t → 0 ≤ R → (∀ x, B ≤ x → max (cm s f (x + t) (bs - 1)) (cm f s (x + t) (bf + L - 1)) = max (cm s f x (bs - 1)) (cm f s x (bf + L - 1)) + R) → ∃ T p r, Short T p r ∧ (∀ x, vl T p r x = max (cm s f x (bs - 1)) (cm f s x (bf + L - 1))) ∧ T.length ≤ B + t := fun B t R t0 R0 turn => by
    have o := tab_ok (f := fun x => max (cm s f x (bs - 1)) (cm f s x (bf + L - 1))) t0 R0 turn nn up
    obtain ⟨T, p, r, sh, e⟩ := short_is o
    have l := short_len sh o e
    rw [tab_len] at l
    exact ⟨T, p, r, sh, fun x => by rw [e, tab_vl (f := fun x => max (cm s f x (bs - 1)) (cm f s x (bf + L - 1))) t0 turn], l⟩
  by_cases q : rf * (ps : Int) < rs * (pf : Int)
  · have S0 : 0 ≤ rf * (ps : Int) := Int.mul_nonneg hf.r0 (by omega)
    obtain ⟨X, hX⟩ : ∃ X, X = bs + bf + (bs + ps * pf) * (rs * (pf : Int)).toNat := ⟨_, rfl⟩
    obtain ⟨T, p, r, sh, e, l⟩ := fin (X + (bf + L - 1 + bs)) ps rs hs.p0 hs.r0 fun x hx => by
      have a := split_far hf hs L0 h1 h2 q z (S := (rs * (pf : Int)).toNat) (X := x) (by omega) (by omega)
      have b := split_far hf hs L0 h1 h2 q z (S := (rs * (pf : Int)).toNat) (X := x + ps) (by omega) (by omega)
      have c := m1.turn x (by omega)
      omega
    exact ⟨T, p, r, sh, e, by omega⟩
  · have e0 : rf * (ps : Int) = rs * (pf : Int) := by omega
    obtain ⟨T, p, r, sh, e, l⟩ := fin (bf + L - 1 + bs + (bs - 1 + bf)) (ps * pf) (rs * (pf : Int)) (Nat.mul_pos hs.p0 hf.p0) (Int.mul_nonneg hs.r0 (by omega)) fun x hx => by
      have a := m1.turnk (x := x) (by omega) pf
      have b := m2.turnk (x := x) (by omega) ps
      rw [Nat.mul_comm, Int.mul_comm] at a
      rw [Int.mul_comm, e0] at b
      omega
    exact ⟨T, p, r, sh, e, by omega⟩
end
/-- slopes of rules of the same values -/
theorem slope_eq {T T' : List Int} {p p' : Nat} {r r' : Int} (o : RuleOk T p r) (o' : RuleOk T' p' r') (hv : ∀ x, vl T' p' r' x = vl T p r x) : r' * (p : Int) = r * (p' : Int) := by
  have e1 := vl_addk o'.p0 o'.p1 (r := r') (x := T.length + T'.length) (by omega) p
  have e2 := vl_addk o.p0 o.p1 (r := r) (x := T.length + T'.length) (by omega) p'
  rw [hv, hv, Nat.mul_comm, e2] at e1
  rw [Int.mul_comm, Int.mul_comm r]
  omega
theorem slope_le {p p' : Nat} {r r' C : Int} (p0 : 0 < p) (e : r' * (p : Int) = r * (p' : Int)) (h : r ≤ C * (p : Int)) : r' ≤ C * (p' : Int) := by
  have a : r * (p' : Int) ≤ C * (p : Int) * (p' : Int) := Int.mul_le_mul_of_nonneg_right h (by omega)
  rw [← e, Int.mul_right_comm] at a
  exact Int.le_of_mul_le_mul_right a (by omega)
/-- a shortest tuple's turns begin no later -/
theorem begin_le {T T' : List Int} {p p' : Nat} {r r' : Int} (s : Short T' p' r') (o : RuleOk T p r) (hv : ∀ x, vl T' p' r' x = vl T p r x) : T'.length - p' ≤ T.length - p := by
  have o' := s.ok
  rcases Nat.lt_or_ge (T.length - p) (T'.length - p') with q | q
  · exfalso
    rcases s.start with e | e
    · omega
    · have p0 := o'.p0
      have p1 := o'.p1
      have far : ∀ x, T'.length - p' ≤ x → vl T p r (x + p') = vl T p r x + r' := fun x hx => by
        rw [← hv, ← hv]
        exact vl_add p0 p1 hx
      have := rep_down o far (x := T'.length - p' - 1) (by omega)
      rw [← hv, ← hv, show T'.length - p' - 1 + p' = T'.length - 1 by omega, vl_lt (x := T'.length - p' - 1) (by omega)] at this
      exact e this
  · exact q
end Sm

set_option linter.all false
set_option maxHeartbeats 4000000
namespace Sm
/-! ### the law's own search for the shortest table -/
def tabF (T : List Int) (p : Nat) (r : Int) (few : Nat) : List Int := (List.range few).map (vl T p r)
def riseF (T : List Int) (p : Nat) (r : Int) (few per : Nat) : Int := vl T p r few - vl T p r (few - per)
def Fits (T : List Int) (p : Nat) (r : Int) (few per : Nat) : Prop := ∀ x, vl (tabF T p r few) per (riseF T p r few per) x = vl T p r x
theorem tabF_len (T : List Int) (p : Nat) (r : Int) (few : Nat) : (tabF T p r few).length = few := by unfold tabF; rw [List.length_map, List.length_range]
theorem tabF_get {T : List Int} {p : Nat} {r : Int} {few i : Nat} (h : i < few) : (tabF T p r few).getD i 0 = vl T p r i := by
  unfold tabF
  rw [List.getD_eq_getElem?_getD, List.getElem?_map, List.getElem?_range h]
  rfl
theorem tabF_w {T : List Int} {p : Nat} {r : Int} {few per : Nat} (o : RuleOk T p r) (h0 : 0 < per) (h1 : per ≤ few) : RuleW (tabF T p r few) per (riseF T p r few per) :=
  ⟨h0, by rw [tabF_len]; exact h1, by have := o.le (show few - per ≤ few by omega); unfold riseF; omega⟩
/-- it is enough to look at some amounts -/
theorem fits_of {T : List Int} {p : Nat} {r : Int} {few per : Nat} (o : RuleOk T p r) (h0 : 0 < per) (h1 : per ≤ few) (h : ∀ i, i < 2 * T.length + 2 * p * per → vl (tabF T p r few) per (riseF T p r few per) (few + i) = vl T p r (few + i)) : Fits T p r few per := by
  have w := tabF_w o h0 h1
  have p0 := o.p0
  have p1 := o.p1
  have near : ∀ x, x < few + (2 * T.length + 2 * p * per) → gp (tabF T p r few) per (riseF T p r few per) T p r x = 0 := fun x hx => by
    unfold gp
    rcases Nat.lt_or_ge x few with q | q
    · rw [vl_lt (by rw [tabF_len]; exact q), tabF_get q]
      omega
    · have := h (x - few) (by omega)
      rw [show few + (x - few) = x by omega] at this
      omega
  obtain ⟨B, hB⟩ : ∃ B, B = few + T.length := ⟨_, rfl⟩
  have e : p * per = per * p := Nat.mul_comm _ _
  have tt : 0 < p * per := Nat.mul_pos p0 h0
  have turn : ∀ x, B ≤ x → gp (tabF T p r few) per (riseF T p r few per) T p r (x + p * per) = gp (tabF T p r few) per (riseF T p r few per) T p r x + ((p : Int) * riseF T p r few per - (per : Int) * r) := fun x hx => gp_turn w o.w (by rw [tabF_len]; omega) (by omega) e hx
  have z : (p : Int) * riseF T p r few per - (per : Int) * r = 0 := by
    have a := turn B (Nat.le_refl _)
    have e2 : 2 * p * per = 2 * (p * per) := Nat.mul_assoc ..
    rw [near B (by omega), near (B + p * per) (by omega)] at a
    omega
  intro x
  have key : gp (tabF T p r few) per (riseF T p r few per) T p r x = 0 := by
    rcases Nat.lt_or_ge x B with q | q
    · exact near x (by omega)
    · obtain ⟨y, k, y1, y2, rfl⟩ := split_turn tt q
      rw [gp_turns turn y1 k, z, Int.mul_zero]
      have e2 : 2 * p * per = 2 * (p * per) := Nat.mul_assoc ..
      rw [near y (by omega)]
      rfl
  unfold gp at key
  omega
/-- what a shortest tuple tells -/
theorem short_rep {S T : List Int} {p q : Nat} {r t : Int} (s : Short S q t) (o : RuleOk T p r) (h : ∀ x, vl S q t x = vl T p r x) : S.length ≤ T.length ∧ (S.length = T.length → T = S ∧ p = q ∧ r = t) := by
  have so := s.ok
  have g := short_le s o h
  have d : q ∣ p := by rw [← g]; exact Nat.gcd_dvd_right ..
  have qp : q ≤ p := Nat.le_of_dvd o.p0 d
  have b := begin_le s o h
  have p1 := o.p1
  have q1 := so.p1
  refine ⟨by omega, fun e => ?_⟩
  obtain rfl : p = q := by omega
  have e1 := vl_add so.p0 so.p1 (r := t) (x := S.length) (by omega)
  have e2 := vl_add o.p0 o.p1 (r := r) (x := S.length) (by omega)
  rw [h, h] at e1
  refine ⟨List.ext_getElem e.symm fun i h1 h2 => ?_, rfl, by omega⟩
  have q := h i
  rw [vl_lt h2, vl_lt h1, List.getD_eq_getElem?_getD, List.getD_eq_getElem?_getD, List.getElem?_eq_getElem h1, List.getElem?_eq_getElem h2] at q
  exact q.symm
/-- a tuple that tells the same is found by its own length and period -/
theorem fits_self {S T : List Int} {p q : Nat} {r t : Int} (so : RuleOk S q t) (h : ∀ x, vl S q t x = vl T p r x) : tabF T p r S.length = S ∧ riseF T p r S.length q = t := by
  constructor
  · refine List.ext_getElem (tabF_len ..) fun i h1 h2 => ?_
    have e := tabF_get (T := T) (p := p) (r := r) (few := S.length) (i := i) h2
    rw [List.getD_eq_getElem?_getD, List.getElem?_eq_getElem h1] at e
    have e3 := vl_lt (p := q) (r := t) h2
    rw [List.getD_eq_getElem?_getD, List.getElem?_eq_getElem h2] at e3
    have e : (tabF T p r S.length)[i] = vl T p r i := e
    have e3 : vl S q t i = S[i] := e3
    rw [e, ← h, e3]
  · unfold riseF
    have p1 := so.p1
    have e := vl_add so.p0 so.p1 (r := t) (x := S.length - q) (Nat.le_refl _)
    rw [show S.length - q + q = S.length by omega, h, h] at e
    omega
theorem found_short {T : List Int} {p : Nat} {r : Int} {few per : Nat} (o : RuleOk T p r) (h0 : 0 < per) (h1 : per ≤ few) (f : Fits T p r few per) (no : ∀ a b, a < few → 0 < b → b ≤ a → ¬ Fits T p r a b) : Short (tabF T p r few) per (riseF T p r few per) := by
  obtain ⟨S, q, t, s, hs⟩ := short_is o
  have so := s.ok
  obtain ⟨e1, e2⟩ := fits_self so hs
  have fs : Fits T p r S.length q := fun x => by rw [e1, e2]; exact hs x
  have le : few ≤ S.length := by
    rcases Nat.lt_or_ge S.length few with c | c
    · exact absurd fs (no _ _ c so.p0 so.p1)
    · exact c
  have ok : RuleOk (tabF T p r few) per (riseF T p r few per) := by
    have w := tabF_w o h0 h1
    refine W_ok w (fun i hi => ?_) fun x hx => ?_
    · rw [tabF_len] at hi
      rw [tabF_get hi]
      exact o.pos i
    · rw [tabF_len] at hx
      rw [tabF_get hx, f]
      exact o.up x
  obtain ⟨a, b⟩ := short_rep s ok fun x => by rw [hs, f]
  rw [tabF_len] at a b
  obtain ⟨b1, b2, b3⟩ := b (by omega)
  rw [b3, b1, b2]
  exact s
theorem found_some {T : List Int} {p : Nat} {r : Int} (o : RuleOk T p r) : ∃ few per, 0 < per ∧ per ≤ few ∧ few ≤ T.length ∧ Fits T p r few per := by
  obtain ⟨S, q, t, s, hs⟩ := short_is o
  have so := s.ok
  obtain ⟨e1, e2⟩ := fits_self so hs
  exact ⟨S.length, q, so.p0, so.p1, (short_rep s o hs).1, fun x => by rw [e1, e2]; exact hs x⟩
/-- how often the period fits in -/
def qt (T : List Int) (p x : Nat) : Nat := if x < T.length then 0 else (x - T.length) / p + 1
theorem qt_ok {T : List Int} {p : Nat} {r : Int} (x : Nat) (p0 : 0 < p) (p1 : p ≤ T.length) : qt T p x * p ≤ x ∧ x - qt T p x * p < T.length ∧ vl T p r x = T.getD (x - qt T p x * p) 0 + ((qt T p x : Nat) : Int) * r := by
  unfold qt
  by_cases c : x < T.length
  · rw [if_pos c, Nat.zero_mul, Nat.sub_zero]
    refine ⟨Nat.zero_le _, c, ?_⟩
    rw [vl_lt c]
    simp
  · rw [if_neg c]
    obtain ⟨a1, a2, a3⟩ := place p0 p1 (Nat.le_of_not_lt c)
    exact ⟨a1, a3, if_neg c⟩
theorem qt_int {T : List Int} {p x : Nat} (p0 : 0 < p) : (if ((x : Int) - (T.length : Int)) / (p : Int) + 1 > 0 then ((x : Int) - (T.length : Int)) / (p : Int) + 1 else 0) = ((qt T p x : Nat) : Int) := by
  unfold qt
  by_cases c : x < T.length
  · rw [if_pos c]
    have h : ((x : Int) - (T.length : Int)) / (p : Int) < 0 := Int.ediv_neg_of_neg_of_pos (by omega) (by omega)
    rw [if_neg (by omega)]
    rfl
  · rw [if_neg c, div_cast (Nat.le_of_not_lt c), if_pos (show ((((x - T.length) / p + 1 : Nat) : Int)) > 0 from Int.natCast_pos.mpr (Nat.succ_pos _))]
end Sm

set_option Elab.async false
set_option linter.all false
set_option maxRecDepth 100000
set_option maxHeartbeats 4000000
namespace Sm
open PySem PySem.Spec PyProof.Rows L2
theorem getD_map1 {T : List Int} {i : Nat} (h : i < T.length) : (T.map (· + 1)).getD i 0 = T.getD i 0 + 1 := by
  rw [List.getD_eq_getElem?_getD, List.getD_eq_getElem?_getD, List.getElem?_map, List.getElem?_eq_getElem h]
  rfl
theorem plus_ok {T : List Int} {p : Nat} {r : Int} (o : RuleOk T p r) : RuleOk (T.map (· + 1)) p r := by
  have p0 := o.p0
  have p1 := o.p1
  refine ⟨p0, by rw [List.length_map]; exact p1, o.r0, fun i hi => ?_, fun i hi => ?_, ?_⟩
  · rw [List.length_map] at hi
    rw [getD_map1 hi]
    have := o.nn i hi
    omega
  · rw [List.length_map] at hi
    rw [getD_map1 hi, getD_map1 (by omega)]
    have := o.mono i hi
    omega
  · rw [List.length_map, getD_map1 (by omega), getD_map1 (by omega)]
    have := o.wrap
    omega
theorem late_len {T : List Int} {a : Nat} (h : a ≤ T.length) : (T.take a ++ (T.drop a).map (· + 1)).length = T.length := by
  rw [List.length_append, List.length_map, List.length_take, List.length_drop]
  omega
theorem late_get {T : List Int} {a i : Nat} (h : a ≤ T.length) (hi : i < T.length) : (T.take a ++ (T.drop a).map (· + 1)).getD i 0 = T.getD i 0 + (if i < a then 0 else 1) := by
  rw [List.getD_eq_getElem?_getD, List.getElem?_append]
  have lt : (T.take a).length = a := by rw [List.length_take]; omega
  by_cases q : i < a
  · rw [if_pos (by omega), if_pos q, List.getElem?_take_of_lt q, List.getD_eq_getElem?_getD]
    omega
  · rw [if_neg (by omega), if_neg q, lt, List.getElem?_map, List.getElem?_drop, show a + (i - a) = i by omega, List.getD_eq_getElem?_getD, List.getElem?_eq_getElem hi]
    rfl
theorem flat_one {n : Nat} {x : V} : (List.replicate n [x]).flatten = List.replicate n x := List.flatten_replicate_singleton ..
theorem rep_int {n : Nat} {c : Int} : List.replicate n (V.int c) = (List.replicate n c).map V.int := (List.map_replicate ..).symm
theorem getD_rep {n i : Nat} {c : Int} (h : i < n) : (List.replicate n c).getD i 0 = c := by
  rw [List.getD_eq_getElem?_getD, List.getElem?_replicate, if_pos h]
  rfl
theorem zero_ok {n : Nat} {r : Int} (h : 0 < n) (h0 : 0 ≤ r) : RuleOk (List.replicate n 0) n r := by
  refine ⟨h, by rw [List.length_replicate]; exact Nat.le_refl _, h0, fun i hi => ?_, fun i hi => ?_, ?_⟩
  · rw [List.length_replicate] at hi
    rw [getD_rep hi]
    exact Int.le_refl _
  · rw [List.length_replicate] at hi
    rw [getD_rep hi, getD_rep (by omega)]
    exact Int.le_refl _
  · rw [List.length_replicate, getD_rep (by omega), getD_rep (by omega)]
    omega
theorem one_ok {c r : Int} (h : 0 ≤ c) (h0 : 0 ≤ r) : RuleOk [c] 1 r := by
  refine ⟨by decide, Nat.le_refl 1, h0, fun i hi => ?_, fun i hi => ?_, ?_⟩
  · have hi : i < 1 := hi
    rw [show i = 0 by omega]
    exact h
  · have hi : i + 1 < 1 := hi
    omega
  · show c ≤ c + r
    omega
abbrev rareT (q s : Nat) : List Int := List.replicate (s + 1) ((s : Int) - 1) ++ List.replicate (q - s - 1) ((s : Int) + (q : Int) - 1)
theorem rare_get {q s i : Nat} (hs : s + 1 ≤ q) (hi : i < q) : (rareT q s).getD i 0 = if i < s + 1 then (s : Int) - 1 else (s : Int) + (q : Int) - 1 := by
  rw [List.getD_eq_getElem?_getD, List.getElem?_append, List.length_replicate]
  by_cases h : i < s + 1
  · rw [if_pos h, if_pos h, List.getElem?_replicate, if_pos h]
    rfl
  · rw [if_neg h, if_neg h, List.getElem?_replicate, if_pos (by omega)]
    rfl
theorem rare_len {q s : Nat} (hs : s + 1 ≤ q) : (rareT q s).length = q := by
  rw [List.length_append, List.length_replicate, List.length_replicate]
  omega
theorem rare_ok {q s : Nat} (h1 : 1 ≤ s) (hs : s + 1 ≤ q) : RuleOk (rareT q s) q q := by
  have l := rare_len hs
  refine ⟨by omega, by omega, by omega, fun i hi => ?_, fun i hi => ?_, ?_⟩
  · rw [rare_get hs (by omega)]
    split <;> omega
  · rw [rare_get hs (by omega), rare_get hs (by omega)]
    split <;> split <;> omega
  · rw [l, rare_get hs (by omega), rare_get hs (by omega)]
    split <;> split <;> omega
theorem lay_ints : ∀ ns : List Int, PyData.canLayAll0 (ns.map PyData.int) = true
  | [] => rfl
  | n :: ns => by
    simp only [List.map_cons, PyData.canLayAll0, PyData.canLay0, lay_ints ns, Bool.and_self]
theorem shaped_ints (ns : List Int) : SeqAt.shaped (dataI ns) = true := by
  have d := depth_ints ns
  have e : (dataI ns).depth ≤ 64 := by
    unfold dataI
    simp only [PyData.depth]
    omega
  have l : (dataI ns).canLay0 = true := by
    unfold dataI
    simp only [PyData.canLay0, lay_ints]
  unfold SeqAt.shaped
  rw [l, decide_eq_true e]
  rfl
theorem ne_nil_ints {ns : List Int} : (!PyData.eqv (dataI ns) (.list [])) = decide (ns ≠ []) := by
  cases ns with
  | nil => rfl
  | cons n ns => rfl
theorem lc_turn1 {H0 H' : Hp} {U : Addr} {ns : List Int} {j : Nat} {x : V} (hl : ns.length ≤ 9000) (nU : H0 U = none) (hx : (ns.map V.int)[j]? = some x) (sm : Same H0 H') (hU : H' U = some (.lst (((ns.take j).map (· + 1)).map V.int))) :
    ∃ y, x = .int y ∧ (((ns.take j).map (· + 1)).map V.int).length < sizeLine ∧ Same H0 (upd H' U (.lst ((((ns.take j).map (· + 1)).map V.int) ++ [V.int (y + 1)]))) ∧
      upd H' U (.lst ((((ns.take j).map (· + 1)).map V.int) ++ [V.int (y + 1)])) U = some (.lst (((ns.take (j + 1)).map (· + 1)).map V.int)) := by
  rw [List.getElem?_map] at hx
  cases e : ns[j]? with
  | none => rw [e] at hx; cases hx
  | some y =>
    rw [e] at hx
    have hj := (List.getElem?_eq_some_iff.mp e).1
    refine ⟨y, (Option.some.inj hx).symm, ?_, fun b' u e' => ?_, ?_⟩
    · rw [List.length_map, List.length_map, List.length_take]
      exact Nat.lt_of_le_of_lt (show min j ns.length ≤ 9000 by omega) (by decide)
    · rw [upd_ne (ne_of_none e' nU)]
      exact sm _ _ e'
    · rw [upd_same, List.take_add_one, e, List.map_append, List.map_append]
      rfl
theorem small_log30 {i : Nat} (h1 : i ≤ 1000000000000000000000000000000) : (i : Int).natAbs.log2 < 1920 :=
  Nat.lt_of_lt_of_le (PySem.Flt.log2_lt_of (k := 310) (by decide) (by omega)) (by decide)
section
variable {K : PySem.W.Frag} {H : Hp} {Q : VK}
end
end Sm

set_option Elab.async false
set_option linter.all false
set_option maxRecDepth 100000
set_option maxHeartbeats 4000000
namespace Sm
open PySem PySem.Spec PyProof.Rows L2
/-! ### comprehensions whose items are told one by one, what stands stays -/
abbrev lcmQ (H : Hp) (D : Addr) (fv : Nat → V) (i : Nat) : VK := fun y H4 => ∃ acc, H4 D = some (.lst acc) ∧ acc.length < sizeLine ∧ Same H (upd H4 D (.lst (acc ++ [y]))) ∧ upd H4 D (.lst (acc ++ [y])) D = some (.lst ((List.range (i + 1)).map fv))
theorem lcm_step {H H' H4 : Hp} {D : Addr} {i n : Nat} {fv : Nat → V} (nD : H D = none) (s : Same H H') (hD : H' D = some (.lst ((List.range i).map fv))) (hi : i ≤ n) (ln : n ≤ 20000) (s4 : Same H' H4) :
    ∃ acc, H4 D = some (.lst acc) ∧ acc.length < sizeLine ∧ Same H (upd H4 D (.lst (acc ++ [fv i]))) ∧ upd H4 D (.lst (acc ++ [fv i])) D = some (.lst ((List.range (i + 1)).map fv)) := by
  refine ⟨_, s4 _ _ hD, ?_, fun b o e => ?_, ?_⟩
  · rw [List.length_map, List.length_range]
    exact Nat.lt_of_le_of_lt (show i ≤ 20000 by omega) (by decide)
  · rw [upd_ne (ne_of_none e nD)]
    exact s4 _ _ (s _ _ e)
  · rw [upd_same, List.range_succ, List.map_append]
    rfl
theorem lc_mT {K : PySem.W.Frag} {a : Addr} {xs : List V} {g : TG} {te : TE} {vs : List Nat} {σ : L2.St} {H : Hp} {D : Addr} {Qd : Hp → Prop} (fv : Nat → V) (ha : H a = some (.tup xs)) (nD : H D = none) (ln : xs.length ≤ 20000)
    (hs : ∀ i x H', xs[i]? = some x → Same H H' → ∀ R : VK, (∀ H4, Same H' H4 → R (fv i) H4) → g x (wipe σ vs) H' fun σ2 H2 => wipe σ2 vs = wipe σ vs ∧ te σ2 H2 R)
    (mono : ∀ x H' (A B : L2.St → Hp → Prop), (∀ σ2 H2, A σ2 H2 → B σ2 H2) → g x (wipe σ vs) H' A → g x (wipe σ vs) H' B)
    (hd : ∀ H', Same H H' → H' D = some (.lst ((List.range xs.length).map fv)) → Qd H') :
    ∃ W : Nat → Nat → Hp → Prop, (∃ m, W 0 m (upd H D (.lst []))) ∧ ∀ i m H, W i m H → ((Itt K a).stop i H ∧ Qd H) ∨ ((Itt K a).go i H ∧ ∃ Nx : Hp → Prop, (∀ H', Nx H' → ∃ m', m' < m ∧ W (i + 1) m' H') ∧ ∀ x H', (Itt K a).yld i H x H' → g x (wipe σ vs) H' fun σ2 H2 => wipe σ2 vs = wipe σ vs ∧ tYes σ2 H2 fun b H3 =>
        if b = true then te σ2 H3 fun y H4 => ∃ acc, H4 D = some (.lst acc) ∧ acc.length < sizeLine ∧ Nx (upd H4 D (.lst (acc ++ [y]))) else Nx H3) := by
  refine lc_tup (K := K) (a := a) (xs := xs) (fun i H' => Same H H' ∧ H' D = some (.lst ((List.range i).map fv))) ⟨same_upd nD, upd_same⟩ (fun i H' _ h => SqT.of (h.1 _ _ ha)) ?_ (fun H' h => hd H' h.1 h.2)
  rintro i x H' hx ⟨s, hD⟩
  have il : i < xs.length := (List.getElem?_eq_some_iff.mp hx).1
  refine mono x H' _ _ ?_ (hs i x H' hx s (lcmQ H D fv i) fun H4 s4 => lcm_step nD s hD (Nat.le_of_lt il) ln s4)
  rintro σ2 H2 ⟨e, h⟩
  refine ⟨e, ?_⟩
  unfold tYes
  exact iteT h
theorem lc_mL {K : PySem.W.Frag} {a : Addr} {xs : List V} {g : TG} {te : TE} {vs : List Nat} {σ : L2.St} {H : Hp} {D : Addr} {Qd : Hp → Prop} (fv : Nat → V) (ha : H a = some (.lst xs)) (nD : H D = none) (ln : xs.length ≤ 20000)
    (hs : ∀ i x H', xs[i]? = some x → Same H H' → ∀ R : VK, (∀ H4, Same H' H4 → R (fv i) H4) → g x (wipe σ vs) H' fun σ2 H2 => wipe σ2 vs = wipe σ vs ∧ te σ2 H2 R)
    (mono : ∀ x H' (A B : L2.St → Hp → Prop), (∀ σ2 H2, A σ2 H2 → B σ2 H2) → g x (wipe σ vs) H' A → g x (wipe σ vs) H' B)
    (hd : ∀ H', Same H H' → H' D = some (.lst ((List.range xs.length).map fv)) → Qd H') :
    ∃ W : Nat → Nat → Hp → Prop, (∃ m, W 0 m (upd H D (.lst []))) ∧ ∀ i m H, W i m H → ((Itl K a).stop i H ∧ Qd H) ∨ ((Itl K a).go i H ∧ ∃ Nx : Hp → Prop, (∀ H', Nx H' → ∃ m', m' < m ∧ W (i + 1) m' H') ∧ ∀ x H', (Itl K a).yld i H x H' → g x (wipe σ vs) H' fun σ2 H2 => wipe σ2 vs = wipe σ vs ∧ tYes σ2 H2 fun b H3 =>
        if b = true then te σ2 H3 fun y H4 => ∃ acc, H4 D = some (.lst acc) ∧ acc.length < sizeLine ∧ Nx (upd H4 D (.lst (acc ++ [y]))) else Nx H3) := by
  refine lc_list (K := K) (a := a) (xs := xs) (fun i H' => Same H H' ∧ H' D = some (.lst ((List.range i).map fv))) ⟨same_upd nD, upd_same⟩ (fun i H' _ h => SqL.of (h.1 _ _ ha)) ?_ (fun H' h => hd H' h.1 h.2)
  rintro i x H' hx ⟨s, hD⟩
  have il : i < xs.length := (List.getElem?_eq_some_iff.mp hx).1
  refine mono x H' _ _ ?_ (hs i x H' hx s (lcmQ H D fv i) fun H4 s4 => lcm_step nD s hD (Nat.le_of_lt il) ln s4)
  rintro σ2 H2 ⟨e, h⟩
  refine ⟨e, ?_⟩
  unfold tYes
  exact iteT h
theorem lc_mR {lo : Int} {n : Nat} {g : TG} {te : TE} {vs : List Nat} {σ : L2.St} {H : Hp} {D : Addr} {Qd : Hp → Prop} (fv : Nat → V) (nD : H D = none) (ln : n ≤ 20000)
    (hs : ∀ i H', i < n → Same H H' → ∀ R : VK, (∀ H4, Same H' H4 → R (fv i) H4) → g (.int (lo + i)) (wipe σ vs) H' fun σ2 H2 => wipe σ2 vs = wipe σ vs ∧ te σ2 H2 R)
    (mono : ∀ x H' (A B : L2.St → Hp → Prop), (∀ σ2 H2, A σ2 H2 → B σ2 H2) → g x (wipe σ vs) H' A → g x (wipe σ vs) H' B)
    (hd : ∀ H', Same H H' → H' D = some (.lst ((List.range n).map fv)) → Qd H') :
    ∃ W : Nat → Nat → Hp → Prop, (∃ m, W 0 m (upd H D (.lst []))) ∧ ∀ i m H, W i m H → ((Itr lo n).stop i H ∧ Qd H) ∨ ((Itr lo n).go i H ∧ ∃ Nx : Hp → Prop, (∀ H', Nx H' → ∃ m', m' < m ∧ W (i + 1) m' H') ∧ ∀ x H', (Itr lo n).yld i H x H' → g x (wipe σ vs) H' fun σ2 H2 => wipe σ2 vs = wipe σ vs ∧ tYes σ2 H2 fun b H3 =>
        if b = true then te σ2 H3 fun y H4 => ∃ acc, H4 D = some (.lst acc) ∧ acc.length < sizeLine ∧ Nx (upd H4 D (.lst (acc ++ [y]))) else Nx H3) := by
  refine lc_range (fun i H' => Same H H' ∧ H' D = some (.lst ((List.range i).map fv))) ⟨same_upd nD, upd_same⟩ ?_ (fun H' h => hd H' h.1 h.2)
  rintro i H' il ⟨s, hD⟩
  refine mono _ H' _ _ ?_ (hs i H' il s (lcmQ H D fv i) fun H4 s4 => lcm_step nD s hD (Nat.le_of_lt il) ln s4)
  rintro σ2 H2 ⟨e, h⟩
  refine ⟨e, ?_⟩
  unfold tYes
  exact iteT h
/-- one name -/
theorem gName_mono {j : Nat} {σ : L2.St} : ∀ (x : V) (H' : Hp) (A B : L2.St → Hp → Prop), (∀ σ2 H2, A σ2 H2 → B σ2 H2) → gName j x σ H' A → gName j x σ H' B := fun x H' A B h a => h _ _ a
end Sm

set_option Elab.async false
set_option linter.all false
set_option maxRecDepth 100000
set_option maxHeartbeats 4000000
namespace Sm
open PySem PySem.Spec PyProof.Rows L2
/-! ### comprehensions of draws over a range: each item is told by something that outlives all but its own tuples -/
def KeepT (H H' : Hp) : Prop := ∀ b xs, H b = some (.tup xs) → H' b = some (.tup xs)
/-- a row of values and what they are -/
def RowOf {α : Type} (rel : Hp → V → α → Prop) (H : Hp) (vs : List V) (as : List α) : Prop := vs.length = as.length ∧ ∀ (i : Nat) (v : V), vs[i]? = some v → ∃ a, as[i]? = some a ∧ rel H v a
theorem RowOf.keep {α : Type} {rel : Hp → V → α → Prop} (st : ∀ H H' v a, KeepT H H' → rel H v a → rel H' v a) {H H' : Hp} {vs : List V} {as : List α} (r : RowOf rel H vs as) (k : KeepT H H') : RowOf rel H' vs as :=
  ⟨r.1, fun i v e => by obtain ⟨a, h1, h2⟩ := r.2 i v e; exact ⟨a, h1, st _ _ _ _ k h2⟩⟩
theorem RowOf.snoc {α : Type} {rel : Hp → V → α → Prop} {H : Hp} {vs : List V} {as : List α} {v : V} {a : α} (r : RowOf rel H vs as) (h : rel H v a) : RowOf rel H (vs ++ [v]) (as ++ [a]) := by
  refine ⟨by rw [List.length_append, List.length_append, r.1]; rfl, fun i z e => ?_⟩
  rcases Nat.lt_or_ge i vs.length with c | c
  · rw [List.getElem?_append_left c] at e
    obtain ⟨b, h1, h2⟩ := r.2 i z e
    exact ⟨b, by rw [List.getElem?_append_left (by rw [← r.1]; exact c)]; exact h1, h2⟩
  · rw [List.getElem?_append_right c] at e
    have hi : i - vs.length = 0 := by
      rcases Nat.eq_zero_or_pos (i - vs.length) with q | q
      · exact q
      · rw [List.getElem?_eq_none (by show [v].length ≤ _; exact q)] at e
        cases e
    rw [hi] at e
    have e : z = v := (Option.some.inj e).symm
    subst e
    refine ⟨a, ?_, h⟩
    rw [List.getElem?_append_right (by rw [← r.1]; exact c), ← r.1, hi]
    rfl
theorem lc_rdA {α : Type} (rel : Hp → V → α → Prop) (st : ∀ H H' v a, KeepT H H' → rel H v a → rel H' v a) {lo : Int} {n : Nat} {g : TG} {te : TE} {vs : List Nat} {σ : L2.St} {H : Hp} {D p l : Addr} {n0 c : Int} {Qd : Hp → Prop} (G : α → Prop) (D0 : Deck H p l n0) (nD : H D = none) (ln : n ≤ 20000) (c0 : 0 ≤ c)
    (hs : ∀ i H' n', i < n → Fr p l H H' → Deck H' p l n' → n0 ≤ n' → n' ≤ n0 + c * (i : Int) → ∀ R : VK, (∀ H4 v a n4, Fr p l H' H4 → Deck H4 p l n4 → n' ≤ n4 → n4 ≤ n' + c → G a → rel H4 v a → R v H4) → g (.int (lo + i)) (wipe σ vs) H' fun σ2 H2 => wipe σ2 vs = wipe σ vs ∧ te σ2 H2 R)
    (mono : ∀ x H' (A B : L2.St → Hp → Prop), (∀ σ2 H2, A σ2 H2 → B σ2 H2) → g x (wipe σ vs) H' A → g x (wipe σ vs) H' B)
    (hd : ∀ H' (n' : Int) (us : List V) (as : List α), Fr p l H H' → Deck H' p l n' → n0 ≤ n' → n' ≤ n0 + c * (n : Int) → as.length = n → (∀ a ∈ as, G a) → RowOf rel H' us as → H' D = some (.lst us) → Qd H') :
    ∃ W : Nat → Nat → Hp → Prop, (∃ m, W 0 m (upd H D (.lst []))) ∧ ∀ i m H, W i m H → ((Itr lo n).stop i H ∧ Qd H) ∨ ((Itr lo n).go i H ∧ ∃ Nx : Hp → Prop, (∀ H', Nx H' → ∃ m', m' < m ∧ W (i + 1) m' H') ∧ ∀ x H', (Itr lo n).yld i H x H' → g x (wipe σ vs) H' fun σ2 H2 => wipe σ2 vs = wipe σ vs ∧ tYes σ2 H2 fun b H3 =>
        if b = true then te σ2 H3 fun y H4 => ∃ acc, H4 D = some (.lst acc) ∧ acc.length < sizeLine ∧ Nx (upd H4 D (.lst (acc ++ [y]))) else Nx H3) := by
  obtain ⟨Dp, Dl⟩ := D0.lne nD
  refine lc_range (fun i H' => ∃ (n' : Int) (us : List V) (as : List α), Fr p l H H' ∧ Deck H' p l n' ∧ n0 ≤ n' ∧ n' ≤ n0 + c * (i : Int) ∧ as.length = i ∧ (∀ a ∈ as, G a) ∧ RowOf rel H' us as ∧ H' D = some (.lst us)) ?_ ?_ ?_
  · exact ⟨n0, [], [], Same.fr (same_upd nD), D0.same (same_upd nD), by omega, by simp, rfl, fun x hx => (nomatch hx), ⟨rfl, fun i v e => by simp at e⟩, upd_same⟩
  · rintro i H' il ⟨n', us, as, f, D1, a0, a1, xl, xg, row, hD⟩
    refine mono _ H' _ _ ?_ (hs i H' n' il f D1 a0 a1 (fun y H4 => ∃ acc, H4 D = some (.lst acc) ∧ acc.length < sizeLine ∧ ∃ (n' : Int) (us : List V) (as : List α), Fr p l H (upd H4 D (.lst (acc ++ [y]))) ∧ Deck (upd H4 D (.lst (acc ++ [y]))) p l n' ∧ n0 ≤ n' ∧ n' ≤ n0 + c * ((i + 1 : Nat) : Int) ∧ as.length = i + 1 ∧ (∀ a ∈ as, G a) ∧ RowOf rel (upd H4 D (.lst (acc ++ [y]))) us as ∧ upd H4 D (.lst (acc ++ [y])) D = some (.lst us)) fun H4 v a n4 f4 D4 b0 b1 ga ra => ?_)
    · rintro σ2 H2 ⟨e, h⟩
      refine ⟨e, ?_⟩
      unfold tYes
      exact iteT h
    · have hD4 := f4 _ _ Dp Dl hD
      have kt : KeepT H4 (upd H4 D (.lst (us ++ [v]))) := fun b xs e => by
        rw [upd_ne (ne_of e hD4 (by intro q; cases q))]
        exact e
      refine ⟨us, hD4, ?_, n4, us ++ [v], as ++ [a], ?_, ⟨by rw [upd_ne Dp.symm]; exact D4.hp, ?_⟩, by omega, ?_, ?_, ?_, ?_, upd_same⟩
      · rw [row.1, xl]
        exact Nat.lt_of_le_of_lt (show i ≤ 20000 by omega) (by decide)
      · intro b o h1 h2 hb
        rw [upd_ne (ne_of_none hb nD)]
        exact f4 b o h1 h2 (f b o h1 h2 hb)
      · obtain ⟨cells, q1, q2⟩ := D4.hl
        exact ⟨cells, by rw [upd_ne Dl.symm]; exact q1, q2⟩
      · have : c * ((i + 1 : Nat) : Int) = c * (i : Int) + c := by rw [Int.natCast_add, Int.mul_add, show ((1 : Nat) : Int) = 1 from rfl, Int.mul_one]
        omega
      · rw [List.length_append, List.length_singleton, xl]
      · intro z hz
        rcases List.mem_append.mp hz with hz | hz
        · exact xg z hz
        · rw [List.mem_singleton.mp hz]
          exact ga
      · exact (row.keep st (H' := upd H4 D (.lst (us ++ [v]))) fun b xs e => kt b xs (f4.tup D1 e)).snoc (st _ _ _ _ kt ra)
  · rintro H' ⟨n', us, as, f, D1, a0, a1, xl, xg, row, hD⟩
    exact hd H' n' us as f D1 a0 a1 xl xg row hD
/-- ints -/
def relI : Hp → V → Int → Prop := fun _ v a => v = .int a
theorem relI_keep : ∀ H H' v a, KeepT H H' → relI H v a → relI H' v a := fun _ _ _ _ _ h => h
theorem RowOf.ints {H : Hp} : ∀ {vs : List V} {as : List Int}, RowOf relI H vs as → vs = as.map V.int
  | [], [], _ => rfl
  | [], _ :: _, h => nomatch h.1
  | _ :: _, [], h => nomatch h.1
  | v :: vs, a :: as, h => by
    obtain ⟨b, h1, h2⟩ := h.2 0 v rfl
    have h1 : a = b := Option.some.inj h1
    have h2 : v = .int b := h2
    have r : RowOf relI H vs as := ⟨Nat.succ.inj h.1, fun i z e => h.2 (i + 1) z e⟩
    rw [h2, ← h1, r.ints]
    rfl
end Sm

set_option Elab.async false
set_option linter.all false
set_option maxRecDepth 100000
set_option maxHeartbeats 8000000
namespace Sm
open PySem PySem.Spec PyProof.Rows L2
open C8 (pss_cut)
def topS (i : Nat) : Stmt := PySem.Challenge.pw_smallchange_k73_rules_above_and_below.main.body.getD i (.Pass ⟨0, 0, 0, 0⟩)
structure Txt (mg : Str → Option Value) : Prop where
  n_abs : mg "abs" = none
  n_all : mg "all" = none
  n_any : mg "any" = none
  n_bool : mg "bool" = none
  n_cls : mg "cls" = none
  n_int : mg "int" = none
  n_isinstance : mg "isinstance" = none
  n_iter : mg "iter" = none
  n_len : mg "len" = none
  n_list : mg "list" = none
  n_max : mg "max" = none
  n_min : mg "min" = none
  n_range : mg "range" = none
  n_repr : mg "repr" = none
  n_tuple : mg "tuple" = none
  g_gcd : mg "gcd" = some (.builtin "math.gcd")
  g_lcm : mg "lcm" = some (.builtin "math.lcm")
  c_MAX_TOLD : ∃ t, mg "MAX_TOLD" = some (.int 5000 t)
/-! ### rules in the heap -/
def RuleAt (H : Hp) (d : Addr) (T : List Int) (p : Nat) (r : Int) : Prop := ∃ t, H d = some (.tup [.ref t, .int (p : Int), .int r]) ∧ H t = some (.tup (T.map V.int))
theorem RuleAt.same {H H' : Hp} {d : Addr} {T : List Int} {p : Nat} {r : Int} (R : RuleAt H d T p r) (s : Same H H') : RuleAt H' d T p r := by
  obtain ⟨t, h1, h2⟩ := R
  exact ⟨t, s _ _ h1, s _ _ h2⟩
theorem RuleAt.fr {H H' : Hp} {d a l : Addr} {n : Int} {T : List Int} {p : Nat} {r : Int} (R : RuleAt H d T p r) (f : Fr a l H H') (D : Deck H a l n) : RuleAt H' d T p r := by
  obtain ⟨t, h1, h2⟩ := R
  exact ⟨t, f.tup D h1, f.tup D h2⟩
structure RB (T : List Int) (p : Nat) (r : Int) : Prop where
  len : T.length ≤ 6000
  r1 : r ≤ 1000000000000000000
  top : ∀ i, i < T.length → T.getD i 0 ≤ 100000000000000000000
/-- a rule cut shorter -/
structure Cut (T : List Int) (p : Nat) (r : Int) (T' : List Int) (p' : Nat) (r' : Int) : Prop where
  len : T'.length ≤ T.length
  turn : p' ≤ p
  rise : r' ≤ r
  get : ∀ i, i < T'.length → T'.getD i 0 = T.getD i 0
theorem Cut.rb {T T' : List Int} {p p' : Nat} {r r' : Int} (c : Cut T p r T' p' r') (b : RB T p r) : RB T' p' r' := by
  have h1 := c.len
  have h3 := c.rise
  have b1 := b.len
  have b3 := b.r1
  exact ⟨by omega, by omega, fun i hi => by rw [c.get i hi]; exact b.top i (by omega)⟩
theorem get_int {T : List Int} {i : Nat} (h : i < T.length) : (T.map V.int)[i]? = some (.int (T.getD i 0)) := by
  rw [List.getElem?_map, List.getElem?_eq_getElem h, List.getD_eq_getElem?_getD, List.getElem?_eq_getElem h]
  rfl
theorem atI_neg1 {xs : List V} {v : V} (h0 : 0 < xs.length) (h : xs[xs.length - 1]? = some v) : atI xs (-1) = some v := by
  unfold atI ixN
  rw [if_neg (by decide), if_pos (by omega), show ((-1 : Int) + (xs.length : Int)).toNat = xs.length - 1 by omega]
  exact h
theorem last_int {T : List Int} (h : 0 < T.length) : atI (T.map V.int) (-1) = some (.int (T.getD (T.length - 1) 0)) :=
  atI_neg1 (by rw [List.length_map]; exact h) (by rw [List.length_map]; exact get_int (by omega))
section
variable {P : Program} {w : World} {K : PySem.W.Frag} {mg : Str → Option Value} {base : Heap}
abbrev s_l_deck : Stmt := topS 42
abbrev N_l_deck : List Str := ["_law_script", "_law_cell"]
theorem sc_l_deck : FnScope N_l_deck ["_law_script"] (defScope s_l_deck) := ⟨rfl, rfl, rfl, by decide +kernel, rfl, by decide +kernel, by decide +kernel⟩
theorem ok_l_deck (T : Txt mg) (D : Df K mg "_law_deck" s_l_deck ["_law_script"]) : Cal P w K mg base "_law_deck" ["_law_script"] 1 (sp_l_deck K) := by
  refine D.cal sc_l_deck (fun vs H Q E h => ?_) (fun f cdv A outer s H vs Q E hr h => ?_)
  · obtain ⟨a, ns, rfl, _⟩ := h
    rfl
  obtain ⟨a, ns, rfl, hS, hlen, k⟩ := h
  refine ⟨_, (pss_one (ps_ret (pe_lst (pa_cons (pe_lc (own := [("_law_cell", 1)]) (g := gName 1) (tt := tYes) rfl sc_l_deck.nd (pi_list (pe_slice sl_list (pv 0) po_none (po_some pe_int))) (blkOk_by (own := [("_law_cell", 1)]) (N := N_l_deck) (sc := defScope s_l_deck) (by decide +kernel)) (fun _ _ _ _ _ => pg_name (i := 1) sc_l_deck.nd rfl (Or.inl rfl)) (fun _ _ _ _ _ => pts_nil) (fun _ _ _ _ _ => (pe_callB call_abs (by rfl) T.n_abs (by decide +kernel) (pa_cons (pv 1) pa_nil)))) (pa_cons pe_int pa_nil))))), ?_⟩
  refine ⟨_, rfl, _, rfl, a, _, rfl, hS, fun c nc => ?_⟩
  rw [cut63 hlen]
  have s1 := same_upd (o := .lst (ns.map V.int)) nc
  refine ⟨c, rfl, ⟨_, SqL.of upd_same⟩, fun D nD => ?_⟩
  have s2 := s1.trans (same_upd (o := .lst []) nD)
  have hc2 : upd (upd H c (.lst (ns.map V.int))) D (.lst []) c = some (.lst (ns.map V.int)) := same_upd nD _ _ upd_same
  refine lc_list (K := K) (a := c) (xs := ns.map V.int) (fun i H' => Same H H' ∧ H' c = some (.lst (ns.map V.int)) ∧ c ≠ D ∧ H D = none ∧ H' D = some (.lst (((ns.take i).map absI).map V.int)))
    ⟨s2, hc2, ne_of_none upd_same nD, s1.free nD, upd_same⟩ (fun i H' _ h => SqL.of h.2.1) ?_ ?_
  · rintro i x H' hx ⟨sm, hc, ncD, nD0, hD⟩
    rw [List.getElem?_map] at hx
    cases e : ns[i]? with
    | none => rw [e] at hx; cases hx
    | some y =>
      rw [e] at hx
      have ex : x = .int y := (Option.some.inj hx).symm
      subst ex
      refine ⟨rfl, ?_⟩
      unfold tYes
      refine iteT ?_
      refine ⟨_, rfl, _, rfl, _, hD, ?_, ?_⟩
      · rw [List.length_map, List.length_map, List.length_take]
        exact Nat.lt_of_le_of_lt (Nat.min_le_right _ _) (small1000 (by omega))
      · refine ⟨fun b o e => ?_, ?_, ncD, nD0, ?_⟩
        · rw [upd_ne (ne_of_none e nD0)]
          exact sm _ _ e
        · rw [upd_ne ncD]
          exact hc
        · rw [upd_same, List.take_add_one, e, List.map_append, List.map_append]
          rfl
  · rintro H' ⟨sm, hc, ncD, nD0, hD⟩
    refine ⟨(by show 2 ≤ sizeLine; decide), fun p np => ?_⟩
    have s3 := sm.trans (same_upd (o := .lst [.ref D, .int 0]) np)
    refine k _ p D s3 ⟨upd_same, _, (same_upd np) _ _ hD, fun c hc => ?_, ?_⟩
    · obtain ⟨y, _, rfl⟩ := List.mem_map.mp hc
      exact absI_pos y
    · rw [List.length_map, List.length_take]
      omega
abbrev s_l_draw : Stmt := topS 43
abbrev N_l_draw : List Str := ["_law_deck_here", "_law_many", "_law_place", "_law_cell", "_law_mixed"]
theorem sc_l_draw : FnScope N_l_draw ["_law_deck_here", "_law_many"] (defScope s_l_draw) := ⟨rfl, rfl, rfl, by decide +kernel, rfl, by decide +kernel, by decide +kernel⟩
theorem ok_l_draw (T : Txt mg) (D : Df K mg "_law_draw" s_l_draw ["_law_deck_here", "_law_many"]) : Cal P w K mg base "_law_draw" ["_law_deck_here", "_law_many"] 1 (sp_l_draw K) := by
  refine D.cal sc_l_draw (fun vs H Q E h => ?_) (fun f cdv A outer s H vs Q E hr h => ?_)
  · obtain ⟨p, l, n, m, rfl, _⟩ := h
    rfl
  obtain ⟨p, l, n, m, rfl, D, n0, n1, m0, m1, k⟩ := h
  obtain ⟨cells, hl, hc⟩ := D.hl
  have npl : p ≠ l := ne_of D.hp hl deck_ne
  refine ⟨_, (pss_cons (ps_asg (pe_op op_add (pe_ix ix_list (pv 0) pe_int (fun _ _ => rfl)) pe_int) (pg_sub (pv 0) pe_int set_list))
    (pss_cons (ps_set (i := 2) sc_l_draw.nd rfl (Or.inl rfl) (pe_op op_modN (pe_callTy call_int1 (by rfl) T.n_int (by decide +kernel) (pa_cons (pe_ix ix_list (pv 0) pe_int (fun _ _ => rfl)) pa_nil)) (pe_callB (call_max2 rfl) (by rfl) T.n_max (by decide +kernel) (pa_cons pe_int (pa_cons (pe_callB call_len_seq (by rfl) T.n_len (by decide +kernel) (pa_cons (pe_ix ix_list (pv 0) pe_int (fun _ _ => rfl)) pa_nil)) pa_nil)))))
    (pss_cons (ps_set (i := 3) sc_l_draw.nd rfl (Or.inl rfl) (pe_ix ix_list (pe_op op_cat (pe_ix ix_list (pv 0) pe_int (fun _ _ => rfl)) (pe_lst (pa_cons pe_int pa_nil))) (pv 2) (fun _ _ => rfl)))
    (pss_cons (ps_if (pt_cmpR op_ge (pv 3) (pe_op op_pow pe_int pe_int) (nomark _)) (pss_cons (ps_asg (pe_op op_fdivW (pv 3) (pv 1)) (pg_sub (pe_ix ix_list (pv 0) pe_int (fun _ _ => rfl)) (pv 2) set_list))
    (pss_one (ps_ret (pe_op op_modN (pe_callTy call_int1 (by rfl) T.n_int (by decide +kernel) (pa_cons (pv 3) pa_nil)) (pv 1))))) pss_nil)
    (pss_cons (ps_set (i := 4) sc_l_draw.nd rfl (Or.inl rfl) (pe_op op_pow (pe_op op_add (pe_op op_add (pe_op op_modN (pe_callTy call_int1 (by rfl) T.n_int (by decide +kernel) (pa_cons (pv 3) pa_nil)) pe_int) (pe_op op_mul pe_int (pe_ix ix_list (pv 0) pe_int (fun _ _ => rfl)))) pe_int) pe_int))
    (pss_one (ps_ret (pe_op op_modN (pe_callTy call_int1 (by rfl) T.n_int (by decide +kernel) (pa_cons (pe_op op_modN (pe_callTy call_int1 (by rfl) T.n_int (by decide +kernel) (pa_cons (pv 4) pa_nil)) pe_int) pa_nil)) (pv 1))))))))), ?_⟩
  refine ⟨_, rfl, _, _, _, _, rfl, rfl, SqL.of D.hp, atI_nat (j := 1) rfl, _, _, rfl, rfl, _, rfl, _, _, _, _, rfl, rfl, D.hp, rfl, ?_⟩
  generalize hH0 : upd H p (HO.lst (List.set [V.ref l, V.int n] (Int.toNat 1) ((fun i j => V.int (i + j)) n 1))) = H0
  have hH0 : upd H p (.lst [.ref l, .int (n + 1)]) = H0 := hH0
  have f0 : Fr p l H H0 := fun b o h1 _ h => by rw [← hH0, upd_ne h1]; exact h
  have hl0 : H0 l = some (.lst (cells.map V.int)) := by rw [← hH0, upd_ne npl.symm]; exact hl
  have hp0 : H0 p = some (.lst [.ref l, .int (n + 1)]) := by rw [← hH0, upd_same]
  -- place
  have big : (if ((cells.map V.int).length : Int) > 1 then ((cells.map V.int).length : Int) else 1) = max 1 (cells.length : Int) := by
    rw [List.length_map]
    split <;> omega
  have fm : (n + 1).fmod (max 1 (cells.length : Int)) = (n + 1) % (max 1 (cells.length : Int)) := fmod_pos (by omega)
  have q0 : 0 ≤ (n + 1).fmod (max 1 (cells.length : Int)) := by rw [fm]; exact Int.emod_nonneg _ (by omega)
  have q1 : (n + 1).fmod (max 1 (cells.length : Int)) < max 1 (cells.length : Int) := by rw [fm]; exact Int.emod_lt_of_pos _ (by omega)
  refine ⟨_, rfl, _, _, _, _, rfl, rfl, SqL.of hp0, atI_nat (j := 1) rfl, .inl ⟨_, rfl, _, rfl, _, _, _, _, rfl, rfl, SqL.of hp0, atI_nat (j := 0) rfl, _, _, rfl, .inl (SqL.of hl0), _, _, rfl, _, _, rfl, rfl, (by rw [big]; omega), ?_⟩⟩
  have z : ∀ B : Int → Prop, B ((n + 1).fmod (max 1 (cells.length : Int))) → B ((n + 1).fmod (if ((cells.map V.int).length : Int) > 1 then ((cells.map V.int).length : Int) else 1)) := fun B h => by rw [big]; exact h
  refine z (fun y => gName 2 (.int y) _ _ _) ?_
  clear z
  -- cell
  refine ⟨_, rfl, _, _, _, _, rfl, rfl, SqL.of hp0, atI_nat (j := 0) rfl, (by show 1 ≤ sizeLine; decide), fun t nt => ?_⟩
  have st := same_upd (o := .lst [.int 0]) nt
  have hp1 := st _ _ hp0
  have hl1 := st _ _ hl0
  have f1 := f0.trans (Same.fr (p := p) (l := l) st)
  obtain ⟨hc, h63⟩ := hc
  have ln : (cells.map V.int).length = cells.length := List.length_map ..
  refine ⟨_, _, _, _, rfl, rfl, hl1, upd_same, (by rw [ln]; exact Nat.le_trans (by omega : cells.length + 1 ≤ 64) (by decide)), fun t2 nt2 => ?_⟩
  have st2 := same_upd (o := .lst (cells.map V.int ++ [.int 0])) nt2
  have hp2 := st2 _ _ hp1
  have hl2 := st2 _ _ hl1
  have f2 := f1.trans (Same.fr (p := p) (l := l) st2)
  have ht2 : upd (upd H0 t (.lst [.int 0])) t2 (.lst (cells.map V.int ++ [.int 0])) t2 = some (.lst ((cells ++ [0]).map V.int)) := by rw [upd_same, List.map_append]; rfl
  generalize upd (upd H0 t (HO.lst [V.int 0])) t2 (HO.lst (cells.map V.int ++ [V.int 0])) = H2 at hp2 hl2 f2 ht2 ⊢
  have q2 : ((n + 1).fmod (max 1 (cells.length : Int))).toNat < (cells ++ [0]).length := by rw [List.length_append, List.length_singleton]; omega
  have q3 : (n + 1).fmod (max 1 (cells.length : Int)) = (((n + 1).fmod (max 1 (cells.length : Int))).toNat : Int) := by omega
  generalize (n + 1).fmod (max 1 (cells.length : Int)) = pl at q0 q1 q2 q3 ⊢
  have q4 : ((cells ++ [0]).map V.int)[pl.toNat]? = some (.int (cells ++ [0])[pl.toNat]) := by
    rw [List.getElem?_map, List.getElem?_eq_getElem q2]
    rfl
  have c0 : 0 ≤ (cells ++ [0])[pl.toNat] := by
    rcases List.mem_append.mp (List.getElem_mem q2) with q | q
    · exact hc _ q
    · rw [List.mem_singleton.mp q]
      decide
  have inside : 1000000000000000000 ≤ (cells ++ [0])[pl.toNat] → pl.toNat < cells.length := by
    intro q
    by_cases e : pl.toNat < cells.length
    · exact e
    · rw [List.getElem_append_right (by omega)] at q
      simp at q
  generalize (cells ++ [0])[pl.toNat] = c at q4 c0 inside ⊢
  refine ⟨_, rfl, _, _, _, _, rfl, rfl, SqL.of ht2, at_of q3 q4, ?_⟩
  refine ⟨_, rfl, _, _, rfl, rfl, ⟨by decide, by decide, by decide⟩, _, _, rfl, rfl, _, rfl, ite3 (fun e => ?_) (fun e => ?_)⟩
  · have e : 1000000000000000000 ≤ c := e
    have p1 := inside e
    have ix : ixN (cells.map V.int).length pl = some pl.toNat := by
      unfold ixN
      rw [if_pos q0, if_pos (by omega)]
    refine ⟨_, rfl, _, rfl, _, _, rfl, rfl, div_draw m0 m1, _, rfl, _, _, _, _, rfl, rfl, SqL.of hp2, atI_nat (j := 0) rfl, _, rfl, _, _, _, _, rfl, rfl, hl2, ix, ?_⟩
    refine ⟨_, rfl, .inl ⟨_, rfl, _, rfl, _, _, rfl, rfl, (by omega), ?_⟩⟩
    have fm : c.fmod m = c % m := fmod_pos m0
    refine k _ _ (by rw [fm]; exact Int.emod_nonneg _ (by omega)) (by rw [fm]; exact Int.emod_lt_of_pos _ m0) (f2.trans fun b o _ h2 h => by rw [upd_ne h2]; exact h) ⟨by rw [upd_ne npl]; exact hp2, cells.set pl.toNat (c / m), by rw [upd_same, List.map_set], fun y hy => ?_, by rw [List.length_set]; exact h63⟩
    rcases List.mem_or_eq_of_mem_set hy with q | q
    · exact hc y q
    · rw [q]; exact Int.ediv_nonneg c0 (by omega)
  · refine ⟨_, rfl, .inl ⟨_, rfl, _, _, rfl, rfl, (show (2147483587 : Int) ≠ 0 by decide), _, rfl, _, _, _, _, rfl, rfl, SqL.of hp2, atI_nat (j := 1) rfl, _, _, rfl, rfl, .inl ⟨by decide, by decide⟩, _, _, rfl, rfl, _, _, rfl, rfl, ?_⟩⟩
    have fm : c.fmod 2147483587 = c % 2147483587 := fmod_pos (by decide)
    have h0 := Int.emod_nonneg c (show (2147483587 : Int) ≠ 0 by decide)
    have h1 := Int.emod_lt_of_pos c (show (0 : Int) < 2147483587 by decide)
    refine ⟨_, _, rfl, rfl, ⟨by decide, by decide, by rw [fm]; omega⟩, ?_⟩
    refine ⟨_, rfl, .inl ⟨_, rfl, _, _, rfl, rfl, (show (2147483647 : Int) ≠ 0 by decide), .inl ⟨_, rfl, _, rfl, _, _, rfl, rfl, (by omega), ?_⟩⟩⟩
    refine k _ _ ?_ ?_ f2 ⟨hp2, cells, hl2, hc, h63⟩
    · rw [fmod_pos m0]; exact Int.emod_nonneg _ (by omega)
    · rw [fmod_pos m0]; exact Int.emod_lt_of_pos _ m0
end
end Sm

set_option Elab.async false
set_option linter.all false
set_option maxRecDepth 100000
set_option maxHeartbeats 16000000
namespace Sm
open PySem PySem.Spec PyProof.Rows L2
open C8 (pss_cut tCut)
theorem RB.div {T : List Int} {p : Nat} {r x : Int} (b : RB T p r) (o : RuleW T p r) : CDivW x (p : Int) := by
  have := b.len
  have := o.p0
  have := o.p1
  exact ⟨by omega, Nat.lt_of_le_of_lt (Nat.log2_le_self _) (by omega)⟩
theorem RB.mulR {T : List Int} {p : Nat} {r x : Int} (b : RB T p r) (o : RuleW T p r) : CMul x r := by
  have := b.r1
  have := o.r0
  exact .inr ⟨by omega, by omega⟩
theorem RB.mulR' {T : List Int} {p : Nat} {r x : Int} (b : RB T p r) (o : RuleW T p r) : CMul r x := by
  have := b.r1
  have := o.r0
  exact .inl ⟨by omega, by omega⟩
theorem RB.mulP {T : List Int} {p : Nat} {r x : Int} (b : RB T p r) (o : RuleW T p r) : CMul x (p : Int) := by
  have := b.len
  have := o.p1
  exact .inr ⟨by omega, by omega⟩
theorem len_int (T : List Int) : (((T.map V.int).length : Nat) : Int) = (T.length : Int) := by rw [List.length_map]
/-- small rules: tables of at most so many members, numbers up to M -/
structure RM (M : Int) (T : List Int) (p : Nat) (r : Int) : Prop where
  len : T.length ≤ 60
  r1 : r ≤ M
  top : ∀ i, i < T.length → T.getD i 0 ≤ M
theorem RM.up {M N : Int} {T : List Int} {p : Nat} {r : Int} (b : RM M T p r) (h : M ≤ N) : RM N T p r := ⟨b.len, Int.le_trans b.r1 h, fun i hi => Int.le_trans (b.top i hi) h⟩
theorem RM.rb {M : Int} {T : List Int} {p : Nat} {r : Int} (b : RM M T p r) (h : M ≤ 10000000000000000) : RB T p r :=
  ⟨by have := b.len; omega, by have := b.r1; omega, fun i hi => by have := b.top i hi; omega⟩
theorem RM.vl {M : Int} {T : List Int} {p : Nat} {r : Int} (o : RuleOk T p r) (b : RM M T p r) (M0 : 0 ≤ M) : ∀ x : Nat, vl T p r x ≤ M * ((x : Int) + 2) := by
  intro x
  induction x using Nat.strongRecOn with
  | _ x ih =>
    have p0 := o.p0
    have p1 := o.p1
    have r1 := b.r1
    by_cases q : x < T.length
    · rw [vl_lt q]
      have := b.top x q
      have h2 : M * 1 ≤ M * ((x : Int) + 2) := Int.mul_le_mul_of_nonneg_left (by omega) M0
      omega
    · rw [vl_step p0 o.p1 (by omega)]
      have h1 := ih (x - p) (by omega)
      have h2 : M * (((x - p : Nat) : Int) + 2 + 1) ≤ M * ((x : Int) + 2) := Int.mul_le_mul_of_nonneg_left (by omega) M0
      rw [Int.mul_add, Int.mul_one] at h2
      omega
/-- what the search looks at is small too -/
theorem found_rm {M : Int} {T : List Int} {p few per : Nat} {r : Int} (o : RuleOk T p r) (b : RM M T p r) (M0 : 0 ≤ M) (fl : few ≤ T.length) : RM (M * 100) (tabF T p r few) per (riseF T p r few per) := by
  have bl := b.len
  have key : ∀ x : Nat, x ≤ 60 → Sm.vl T p r x ≤ M * 100 := fun x hx => Int.le_trans (RM.vl o b M0 x) (Int.mul_le_mul_of_nonneg_left (by omega) M0)
  refine ⟨by rw [tabF_len]; omega, ?_, fun i hi => ?_⟩
  · have := key few (by omega)
    have := o.pos (few - per)
    unfold riseF
    omega
  · rw [tabF_len] at hi
    rw [tabF_get hi]
    exact key i (by omega)
def sp_l_value (_ : PySem.W.Frag) : Sp := fun vs H Q _ => ∃ (d : Addr) (T : List Int) (p : Nat) (r : Int) (x : Nat), vs = [.ref d, .int (x : Int)] ∧ RuleAt H d T p r ∧ RuleW T p r ∧ RB T p r ∧ Q (.int (vl T p r x)) H
def sp_l_fits (_ : PySem.W.Frag) : Sp := fun vs H Q _ => ∃ (d : Addr) (T : List Int) (p : Nat) (r : Int) (few per : Nat) (M : Int), vs = [.ref d, .int (few : Int), .int (per : Int)] ∧ RuleAt H d T p r ∧ RuleOk T p r ∧ RM M T p r ∧ 0 ≤ M ∧ M ≤ 10000000000000 ∧ 0 < per ∧ per ≤ few ∧ few ≤ T.length ∧
  (∀ H', Same H H' → ¬ Fits T p r few per → Q .non H') ∧ (∀ H' q, Same H H' → Fits T p r few per → RuleAt H' q (tabF T p r few) per (riseF T p r few per) → Q (.ref q) H')
def sp_l_short (_ : PySem.W.Frag) : Sp := fun vs H Q _ => ∃ (d : Addr) (T : List Int) (p : Nat) (r : Int) (M : Int), vs = [.ref d] ∧ RuleAt H d T p r ∧ RuleOk T p r ∧ RM M T p r ∧ 0 ≤ M ∧ M ≤ 10000000000000 ∧
  ∀ H' q T' p' r', Same H H' → RuleAt H' q T' p' r' → Short T' p' r' → (∀ x, vl T' p' r' x = vl T p r x) → T'.length ≤ T.length → RM (M * 100) T' p' r' → Q (.ref q) H'
section
variable {P : Program} {w : World} {K : PySem.W.Frag} {mg : Str → Option Value} {base : Heap}
abbrev s_l_value : Stmt := topS 46
abbrev N_l_value : List Str := ["_law_rule", "_law_x", "_law_table", "_law_period", "_law_rise", "_law_turns"]
theorem sc_l_value : FnScope N_l_value ["_law_rule", "_law_x"] (defScope s_l_value) := ⟨rfl, rfl, rfl, by decide +kernel, rfl, by decide +kernel, by decide +kernel⟩
theorem ok_l_value (T : Txt mg) (D : Df K mg "_law_value" s_l_value ["_law_rule", "_law_x"]) : Cal P w K mg base "_law_value" ["_law_rule", "_law_x"] 1 (sp_l_value K) := by
  refine D.cal sc_l_value (fun vs H Q E h => ?_) (fun f cdv A outer s H vs Q E hr h => ?_)
  · obtain ⟨d, T0, p, r, x, rfl, _⟩ := h
    rfl
  obtain ⟨d, T0, p, r, x, rfl, ⟨t, hd, ht⟩, o, b, k⟩ := h
  have p0 := o.p0
  have p1 := o.p1
  obtain ⟨a1, a2, a3⟩ := qt_ok (r := r) x p0 p1
  have qi := qt_int (T := T0) (x := x) p0
  rw [a3] at k
  refine ⟨_, (pss_cons (ps_asg (pv 0) (pg_tup (by rfl) (pgs_cons (pg_name (i := 2) sc_l_value.nd rfl (Or.inl rfl)) (pgs_cons (pg_name (i := 3) sc_l_value.nd rfl (Or.inl rfl)) (pgs_cons (pg_name (i := 4) sc_l_value.nd rfl (Or.inl rfl)) pgs_nil)))))
    (pss_cons (ps_set (i := 5) sc_l_value.nd rfl (Or.inl rfl) (pe_callB (call_max2 rfl) (by rfl) T.n_max (by decide +kernel) (pa_cons pe_int (pa_cons (pe_op op_add (pe_op op_fdivW (pe_op op_sub (pv 1) (pe_callB call_len_seq (by rfl) T.n_len (by decide +kernel) (pa_cons (pv 2) pa_nil))) (pv 3)) pe_int) pa_nil))))
    (pss_one (ps_ret (pe_op op_add (pe_ix ix_tup (pv 2) (pe_op op_sub (pv 1) (pe_op op_mul (pv 5) (pv 3))) (fun _ _ => rfl)) (pe_op op_mul (pv 5) (pv 4))))))), ?_⟩
  refine ⟨_, rfl, _, _, rfl, SqT.of hd, rfl, _, _, rfl, _, _, rfl, _, _, rfl, rfl, ?_⟩
  refine ⟨_, rfl, _, rfl, _, _, rfl, .inr (SqT.of ht), _, _, rfl, rfl, _, rfl, _, _, rfl, rfl, b.div o, _, _, rfl, rfl, _, _, rfl, ?_⟩
  rw [← len_int T0] at qi
  have z : ∀ B : Int → Prop, B ((qt T0 p x : Nat) : Int) → B (if ((x : Int) - (((T0.map V.int).length : Nat) : Int)) / (p : Int) + 1 > 0 then ((x : Int) - (((T0.map V.int).length : Nat) : Int)) / (p : Int) + 1 else 0) := fun B h => by rw [qi]; exact h
  refine z (fun y => gName 5 (.int y) _ _ _) ?_
  clear z qi
  generalize qt T0 p x = q at a1 a2 a3 k ⊢
  have ix : (x : Int) - (q : Int) * (p : Int) = ((x - q * p : Nat) : Int) := by
    have e : ((q * p : Nat) : Int) = (q : Int) * (p : Int) := Int.natCast_mul ..
    omega
  exact ⟨_, rfl, _, rfl, _, rfl, _, rfl, _, _, rfl, rfl, b.mulP o, _, _, rfl, rfl, _, _, _, _, rfl, rfl, SqT.of ht, at_of ix (get_int a2), _, rfl, _, rfl, _, _, rfl, rfl, b.mulR o, _, _, rfl, rfl, k⟩
abbrev s_l_fits : Stmt := topS 47
abbrev N_l_fits : List Str := ["_law_rule", "_law_few", "_law_period", "_law_table", "_law_found", "_law_x"]
theorem sc_l_fits : FnScope N_l_fits ["_law_rule", "_law_few", "_law_period"] (defScope s_l_fits) := ⟨rfl, rfl, rfl, by decide +kernel, rfl, by decide +kernel, by decide +kernel⟩
theorem ok_l_fits (T : Txt mg) (D : Df K mg "_law_fits" s_l_fits ["_law_rule", "_law_few", "_law_period"]) (C_l_value : Cal P w K mg base "_law_value" ["_law_rule", "_law_x"] 1 (sp_l_value K)) : Cal P w K mg base "_law_fits" ["_law_rule", "_law_few", "_law_period"] 2 (sp_l_fits K) := by
  obtain ⟨f_l_value, fd_l_value, G_l_value, m_l_value, k_l_value, b_l_value⟩ := C_l_value
  refine D.cal sc_l_fits (fun vs H Q E h => ?_) (fun f cdv A outer s H vs Q E hr h => ?_)
  · obtain ⟨d, T0, p, r, few, per, M, rfl, _⟩ := h
    rfl
  obtain ⟨d, T0, p, r, few, per, M, rfl, R, o, b, M0, M1, per0, per1, fl, kn, kf⟩ := h
  obtain ⟨t, hd, ht⟩ := id R
  have bl := b.len
  have p0 := o.p0
  have p1 := o.p1
  have bb := b.rb (by omega)
  have fm := found_rm o b M0 fl (per := per)
  have fw := tabF_w o per0 per1
  have fb := fm.rb (by omega)
  refine ⟨_, (pss_cons (ps_set (i := 3) sc_l_fits.nd rfl (Or.inl rfl) (pe_callTy call_tuple_of (by rfl) T.n_tuple (by decide +kernel) (pa_cons (pe_lc (own := [("_law_x", 5)]) (g := gName 5) (tt := tYes) rfl sc_l_fits.nd (pi_range1 (by rfl) T.n_range (pa_cons (pv 1) pa_nil)) (blkOk_by (own := [("_law_x", 5)]) (N := N_l_fits) (sc := defScope s_l_fits) (by decide +kernel)) (fun _ _ _ _ _ => pg_name (i := 5) sc_l_fits.nd rfl (Or.inl rfl)) (fun _ _ _ _ _ => pts_nil) (fun _ _ _ _ _ => (pe_call G_l_value (hr.mono (by decide)) (by rfl) m_l_value k_l_value b_l_value .nil pass0 (pa_cons (pv 0) (pa_cons (pv 5) pa_nil))))) pa_nil)))
    (pss_cons (ps_set (i := 4) sc_l_fits.nd rfl (Or.inl rfl) (pe_tup (pa_cons (pv 3) (pa_cons (pv 2) (pa_cons (pe_op op_sub (pe_call G_l_value (hr.mono (by decide)) (by rfl) m_l_value k_l_value b_l_value .nil pass0 (pa_cons (pv 0) (pa_cons (pv 1) pa_nil))) (pe_ix ix_tup (pv 3) (pe_op op_sub (pv 1) (pv 2)) (fun _ _ => rfl))) pa_nil)))))
    (pss_cons (ps_for PassesOwn.never rfl (pi_range2 (by rfl) T.n_range (pa_cons (pv 1) (pa_cons (pe_op op_add (pe_op op_add (pe_op op_mul pe_int (pe_callB call_len_seq (by rfl) T.n_len (by decide +kernel) (pa_cons (pe_ix ix_tup (pv 0) pe_int (fun _ _ => rfl)) pa_nil))) (pe_op op_mul (pe_op op_mul pe_int (pe_ix ix_tup (pv 0) pe_int (fun _ _ => rfl))) (pv 2))) (pv 1)) pa_nil))) (pg_name (i := 5) sc_l_fits.nd rfl (Or.inl rfl))
      (pss_one (ps_if (pt_cmpR op_ne (pe_call G_l_value (hr.mono (by decide)) (by rfl) m_l_value k_l_value b_l_value .nil pass0 (pa_cons (pv 4) (pa_cons (pv 5) pa_nil))) (pe_call G_l_value (hr.mono (by decide)) (by rfl) m_l_value k_l_value b_l_value .nil pass0 (pa_cons (pv 0) (pa_cons (pv 5) pa_nil))) (nomark _)) (pss_one (ps_ret pe_non)) pss_nil)))
    (pss_one (ps_ret (pv 4)))))), ?_⟩
  refine ⟨_, rfl, _, rfl, by omega, by omega, fun U nU => ?_⟩
  refine lc_mR (n := few) (fun i => .int (vl T0 p r i)) nU (by omega) ?_ gName_mono ?_
  · intro i H' hi s' R' hR
    rw [Int.zero_add]
    exact ⟨rfl, _, rfl, _, rfl, d, T0, p, r, i, rfl, R.same s', o.w, bb, hR H' (Same.refl _)⟩
  intro H1 s1 hU
  have hU : H1 U = some (.lst ((tabF T0 p r few).map V.int)) := by rw [hU]; unfold tabF; rw [List.map_map]; rfl
  refine ⟨_, _, rfl, .inl ⟨SqL.of hU, fun tb nt => ?_⟩⟩
  have s2 := s1.trans (same_upd (o := .tup ((tabF T0 p r few).map V.int)) nt)
  have htb : upd H1 tb (.tup ((tabF T0 p r few).map V.int)) tb = some (.tup ((tabF T0 p r few).map V.int)) := upd_same
  generalize upd H1 tb (.tup ((tabF T0 p r few).map V.int)) = H2 at s2 htb ⊢
  refine ⟨_, rfl, _, rfl, _, rfl, _, rfl, d, T0, p, r, few, rfl, R.same s2, o.w, bb, ?_⟩
  have ix : (few : Int) - (per : Int) = ((few - per : Nat) : Int) := by omega
  refine ⟨_, rfl, _, rfl, _, rfl, _, _, rfl, rfl, _, _, _, _, rfl, rfl, SqT.of htb, at_of ix (get_int (by rw [tabF_len]; omega)), _, _, rfl, rfl, (by show 3 ≤ sizeLine; decide), fun q nq => ?_⟩
  rw [tabF_get (show few - per < few by omega)]
  have s3 := s2.trans (same_upd (o := .tup [.ref tb, .int (per : Int), .int (vl T0 p r few - vl T0 p r (few - per))]) nq)
  have hq : upd H2 q (.tup [.ref tb, .int (per : Int), .int (vl T0 p r few - vl T0 p r (few - per))]) q = some (.tup [.ref tb, .int (per : Int), .int (riseF T0 p r few per)]) := upd_same
  have htb := same_upd (o := .tup [.ref tb, .int (per : Int), .int (vl T0 p r few - vl T0 p r (few - per))]) nq _ _ htb
  generalize upd H2 q (.tup [.ref tb, .int (per : Int), .int (vl T0 p r few - vl T0 p r (few - per))]) = H3 at s3 hq htb ⊢
  have RF : RuleAt H3 q (tabF T0 p r few) per (riseF T0 p r few per) := ⟨tb, hq, htb⟩
  refine ⟨_, rfl, _, rfl, _, _, _, _, rfl, rfl, SqT.of (s3 _ _ hd), atI_nat (j := 0) rfl, _, _, rfl, .inr (SqT.of (s3 _ _ ht)), _, _, rfl, rfl, .inl ⟨by decide, by decide⟩, _, rfl, _, _, _, _, rfl, rfl, SqT.of (s3 _ _ hd), atI_nat (j := 1) rfl, _, _, rfl, rfl, .inl ⟨by decide, by decide⟩, _, rfl, _, _, rfl, rfl, .inr ⟨by omega, by omega⟩, _, _, rfl, rfl, _, rfl, _, _, rfl, rfl, ?_⟩
  have pp : p * per ≤ 60 * 60 := Nat.mul_le_mul (by omega) (by omega)
  have pe : 2 * (p : Int) * (per : Int) = ((2 * p * per : Nat) : Int) := by rw [Int.natCast_mul, Int.natCast_mul]; rfl
  have pm : 2 * p * per = 2 * (p * per) := Nat.mul_assoc ..
  have en : 2 * (((T0.map V.int).length : Nat) : Int) + 2 * (p : Int) * (per : Int) + (few : Int) = ((2 * T0.length + 2 * p * per + few : Nat) : Int) := by rw [len_int, pe]; omega
  refine ⟨_, _, rfl, ⟨by omega, by omega, by rw [en]; omega, by rw [en]; omega⟩, ?_⟩
  rw [show Int.toNat (2 * (((T0.map V.int).length : Nat) : Int) + 2 * (p : Int) * (per : Int) + (few : Int) - (few : Int)) = 2 * T0.length + 2 * p * per by rw [en]; omega]
  refine for_range (lo := (few : Int)) (n := 2 * T0.length + 2 * p * per) (fun i σ H' => ∃ v5 : Option V, σ = [some (.ref d), some (.int (few : Int)), some (.int (per : Int)), some (.ref tb), some (.ref q), v5] ∧ Same H3 H' ∧ ∀ j, j < i → vl (tabF T0 p r few) per (riseF T0 p r few per) (few + j) = vl T0 p r (few + j))
    ⟨none, rfl, Same.refl _, fun j hj => absurd hj (Nat.not_lt_zero _)⟩ ?_ ?_
  · rintro i σ H4 hi ⟨v5, rfl, s4, al⟩
    rw [show (few : Int) + (i : Int) = ((few + i : Nat) : Int) by omega]
    refine ⟨_, rfl, _, rfl, q, _, per, _, few + i, rfl, RF.same s4, fw, fb, _, rfl, _, rfl, d, T0, p, r, few + i, rfl, R.same (s3.trans s4), o.w, bb, rfl, _, rfl, ?_⟩
    by_cases c : vl (tabF T0 p r few) per (riseF T0 p r few per) (few + i) = vl T0 p r (few + i)
    · refine iteNP (congrArg V.int c) ⟨_, rfl, s4, fun j hj => ?_⟩
      rcases Nat.lt_or_ge j i with e | e
      · exact al j e
      · rw [show j = i by omega]
        exact c
    · exact iteNN (fun e => c (V.int.inj e)) (kn H4 (s3.trans s4) fun f => c (f _))
  · rintro σ H4 ⟨v5, rfl, s4, al⟩
    exact ⟨_, rfl, kf H4 q (s3.trans s4) (fits_of o per0 per1 al) (RF.same s4)⟩
abbrev s_l_short : Stmt := topS 48
abbrev N_l_short : List Str := ["_law_rule", "_law_few", "_law_period", "_law_found"]
theorem sc_l_short : FnScope N_l_short ["_law_rule"] (defScope s_l_short) := ⟨rfl, rfl, rfl, by decide +kernel, rfl, by decide +kernel, by decide +kernel⟩
theorem ok_l_short (T : Txt mg) (D : Df K mg "_law_short" s_l_short ["_law_rule"]) (C_l_fits : Cal P w K mg base "_law_fits" ["_law_rule", "_law_few", "_law_period"] 2 (sp_l_fits K)) : Cal P w K mg base "_law_short" ["_law_rule"] 3 (sp_l_short K) := by
  obtain ⟨f_l_fits, fd_l_fits, G_l_fits, m_l_fits, k_l_fits, b_l_fits⟩ := C_l_fits
  refine D.cal sc_l_short (fun vs H Q E h => ?_) (fun f cdv A outer s H vs Q E hr h => ?_)
  · obtain ⟨d, T0, p, r, M, rfl, _⟩ := h
    rfl
  obtain ⟨d, T0, p, r, M, rfl, R, o, b, M0, M1, k⟩ := h
  obtain ⟨t, hd, ht⟩ := id R
  have bl := b.len
  have ll := len_int T0
  refine ⟨_, (pss_cons (ps_for PassesOwn.never rfl (pi_range2 (by rfl) T.n_range (pa_cons pe_int (pa_cons (pe_op op_add (pe_callB call_len_seq (by rfl) T.n_len (by decide +kernel) (pa_cons (pe_ix ix_tup (pv 0) pe_int (fun _ _ => rfl)) pa_nil)) pe_int) pa_nil))) (pg_name (i := 1) sc_l_short.nd rfl (Or.inl rfl))
      (pss_one (ps_for PassesOwn.never rfl (pi_range2 (by rfl) T.n_range (pa_cons pe_int (pa_cons (pe_op op_add (pv 1) pe_int) pa_nil))) (pg_name (i := 2) sc_l_short.nd rfl (Or.inl rfl))
      (pss_cons (ps_set (i := 3) sc_l_short.nd rfl (Or.inl rfl) (pe_call G_l_fits (hr.mono (by decide)) (by rfl) m_l_fits k_l_fits b_l_fits .nil pass0 (pa_cons (pv 0) (pa_cons (pv 1) (pa_cons (pv 2) pa_nil)))))
    (pss_one (ps_if (pt_cmpR op_notN (pv 3) pe_non (nomark _)) (pss_one (ps_ret (pv 3))) pss_nil))))))
    (pss_one (ps_ret (pv 0)))), ?_⟩
  refine ⟨_, rfl, _, _, _, _, rfl, rfl, SqT.of hd, atI_nat (j := 0) rfl, _, _, rfl, .inr (SqT.of ht), _, _, rfl, rfl, _, _, rfl, ⟨by omega, by omega, by rw [ll]; omega, by rw [ll]; omega⟩, ?_⟩
  rw [show Int.toNat ((((T0.map V.int).length : Nat) : Int) + 1 - 1) = T0.length by rw [ll]; omega]
  refine for_range (lo := 1) (n := T0.length) (fun i σ H' => ∃ v1 v2 v3 : Option V, σ = [some (.ref d), v1, v2, v3] ∧ Same H H' ∧ ∀ a b, a < i + 1 → 0 < b → b ≤ a → ¬ Fits T0 p r a b)
    ⟨none, none, none, rfl, Same.refl _, fun a b h1 h2 h3 => by omega⟩ ?_ ?_
  · rintro i σ H1 hi ⟨v1, v2, v3, rfl, s1, no⟩
    rw [show (1 : Int) + (i : Int) = ((i + 1 : Nat) : Int) by omega]
    refine ⟨_, rfl, _, _, rfl, rfl, _, _, rfl, ⟨by omega, by omega, by omega, by omega⟩, ?_⟩
    rw [show Int.toNat (((i + 1 : Nat) : Int) + 1 - 1) = i + 1 by omega]
    refine for_range (lo := 1) (n := i + 1) (fun j σ H' => ∃ v2 v3 : Option V, σ = [some (.ref d), some (.int ((i + 1 : Nat) : Int)), v2, v3] ∧ Same H H' ∧ ∀ b, b < j + 1 → 0 < b → ¬ Fits T0 p r (i + 1) b)
      ⟨v2, v3, rfl, s1, fun b h1 h2 => by omega⟩ ?_ ?_
    · rintro j σ H2 hj ⟨v2, v3, rfl, s2, no2⟩
      rw [show (1 : Int) + (j : Int) = ((j + 1 : Nat) : Int) by omega]
      refine ⟨_, rfl, _, rfl, _, rfl, d, T0, p, r, i + 1, j + 1, M, rfl, R.same s2, o, b, M0, M1, by omega, by omega, by omega, fun H3 s3 nf => ?_, fun H3 q s3 f RF => ?_⟩
      · refine ⟨_, rfl, rfl, _, rfl, iteNP rfl ⟨_, _, rfl, s2.trans s3, fun b h1 h2 => ?_⟩⟩
        rcases Nat.lt_or_ge b (j + 1) with e | e
        · exact no2 b e h2
        · rw [show b = j + 1 by omega]
          exact nf
      · refine ⟨_, rfl, rfl, _, rfl, iteNN (fun e => nomatch e) ⟨_, rfl, ?_⟩⟩
        exact k H3 q _ _ _ (s2.trans s3) RF (found_short o (by omega) (by omega) f fun a b h1 h2 h3 => no a b h1 h2 h3) f (by rw [tabF_len]; omega) (found_rm o ‹RM M T0 p r› M0 (by omega))
    · rintro σ H2 ⟨v2, v3, rfl, s2, no2⟩
      refine ⟨_, _, _, rfl, s2, fun a b h1 h2 h3 => ?_⟩
      rcases Nat.lt_or_ge a (i + 1) with e | e
      · exact no a b e h2 h3
      · rw [show a = i + 1 by omega]
        exact no2 b (by omega) h2
  · rintro σ H1 ⟨v1, v2, v3, rfl, s1, no⟩
    obtain ⟨few, per, h1, h2, h3, f⟩ := found_some o
    exact absurd f (no few per (by omega) h1 h2)
end
end Sm

set_option Elab.async false
set_option linter.all false
set_option maxRecDepth 100000
set_option maxHeartbeats 16000000
namespace Sm
open PySem PySem.Spec PyProof.Rows L2
open C8 (pss_cut tCut)
theorem getD_app {T : List Int} {x : Int} {i : Nat} : (T ++ [x]).getD i 0 = if i < T.length then T.getD i 0 else if i = T.length then x else 0 := by
  rw [List.getD_eq_getElem?_getD, List.getD_eq_getElem?_getD, List.getElem?_append]
  by_cases h : i < T.length
  · rw [if_pos h, if_pos h]
  · rw [if_neg h, if_neg h]
    by_cases e : i = T.length
    · rw [if_pos e, e, Nat.sub_self]
      rfl
    · rw [if_neg e, List.getElem?_eq_none (by rw [List.length_singleton]; omega)]
      rfl
/-- a small table -/
structure Tz (T : List Int) : Prop where
  ne : 0 < T.length
  nn : ∀ i, i < T.length → 0 ≤ T.getD i 0
  mono : ∀ i, i + 1 < T.length → T.getD i 0 ≤ T.getD (i + 1) 0
  top : ∀ i, i < T.length → T.getD i 0 ≤ 10 * ((i : Int) + 1)
theorem Tz.more {T : List Int} (t : Tz T) {c : Int} (c0 : 0 ≤ c) (c1 : c ≤ 10) : Tz (T ++ [T.getD (T.length - 1) 0 + c]) := by
  have n := t.ne
  have l := t.nn (T.length - 1) (by omega)
  have u := t.top (T.length - 1) (by omega)
  refine ⟨by rw [List.length_append]; omega, fun i hi => ?_, fun i hi => ?_, fun i hi => ?_⟩
  · rw [List.length_append, List.length_singleton] at hi
    rw [getD_app]
    split
    · exact t.nn i (by assumption)
    · rw [if_pos (by omega)]
      omega
  · rw [List.length_append, List.length_singleton] at hi
    rw [getD_app, getD_app, if_pos (by omega)]
    split
    · exact t.mono i (by assumption)
    · rw [if_pos (by omega), show i = T.length - 1 by omega]
      omega
  · rw [List.length_append, List.length_singleton] at hi
    rw [getD_app]
    split
    · exact t.top i (by assumption)
    · rw [if_pos (by omega), show i = T.length by omega]
      omega
theorem Tz.one {z : Int} (z0 : 0 ≤ z) (z1 : z ≤ 10) : Tz [z] := by
  refine ⟨by show 0 < 1; decide, fun i hi => ?_, fun i hi => ?_, fun i hi => ?_⟩
  · have hi : i < 1 := hi
    rw [show i = 0 by omega]
    exact z0
  · have hi : i + 1 < 1 := hi
    omega
  · have hi : i < 1 := hi
    rw [show i = 0 by omega]
    show z ≤ 10 * (((0 : Nat) : Int) + 1)
    omega
theorem Tz.rising {T : List Int} (t : Tz T) {p : Nat} {c : Int} (p0 : 0 < p) (p1 : p ≤ T.length) (c0 : 0 ≤ c) : RuleOk T p (T.getD (T.length - 1) 0 - T.getD (T.length - p) 0 + c) := by
  have up : T.getD (T.length - p) 0 ≤ T.getD (T.length - 1) 0 := by
    have z : RuleOk T 1 0 := ⟨by decide, t.ne, by decide, t.nn, t.mono, by omega⟩
    exact z.row (by omega) (by omega)
  exact ⟨p0, p1, by omega, t.nn, t.mono, by omega⟩
def sp_l_drawn (_ : PySem.W.Frag) : Sp := fun vs H Q _ => ∃ (p l : Addr) (n upto : Int), vs = [.ref p, .int upto] ∧ Deck H p l n ∧ 0 ≤ n ∧ n ≤ 900000 ∧ 1 ≤ upto ∧ upto ≤ 7 ∧
  ∀ H' d T q r n', Fr p l H H' → Deck H' p l n' → n ≤ n' → n' ≤ n + 50 → RuleAt H' d T q r → RuleOk T q r → RM 100 T q r → (T.length : Int) ≤ upto → Q (.ref d) H'
section
variable {P : Program} {w : World} {K : PySem.W.Frag} {mg : Str → Option Value} {base : Heap}
abbrev s_l_drawn : Stmt := topS 45
abbrev N_l_drawn : List Str := ["_law_deck_here", "_law_upto", "_law_table", "_law_k", "_law_period"]
theorem sc_l_drawn : FnScope N_l_drawn ["_law_deck_here", "_law_upto"] (defScope s_l_drawn) := ⟨rfl, rfl, rfl, by decide +kernel, rfl, by decide +kernel, by decide +kernel⟩
theorem ok_l_drawn (T : Txt mg) (D : Df K mg "_law_drawn" s_l_drawn ["_law_deck_here", "_law_upto"]) (C_l_draw : Cal P w K mg base "_law_draw" ["_law_deck_here", "_law_many"] 1 (sp_l_draw K)) : Cal P w K mg base "_law_drawn" ["_law_deck_here", "_law_upto"] 2 (sp_l_drawn K) := by
  obtain ⟨f_l_draw, fd_l_draw, G_l_draw, m_l_draw, k_l_draw, b_l_draw⟩ := C_l_draw
  refine D.cal sc_l_drawn (fun vs H Q E h => ?_) (fun f cdv A outer s H vs Q E hr h => ?_)
  · obtain ⟨p, l, n, upto, rfl, _⟩ := h
    rfl
  obtain ⟨p, l, n, upto, rfl, D0, n0, n1, u0, u1, k⟩ := h
  refine ⟨_, (pss_cons (ps_set (i := 2) sc_l_drawn.nd rfl (Or.inl rfl) (pe_lst (pa_cons (pe_ix ix_list (pe_lst (pa_cons pe_int (pa_cons pe_int (pa_cons pe_int (pa_cons pe_int pa_nil))))) (pe_call G_l_draw (hr.mono (by decide)) (by rfl) m_l_draw k_l_draw b_l_draw .nil pass0 (pa_cons (pv 0) (pa_cons pe_int pa_nil))) (fun _ _ => rfl)) pa_nil)))
    (pss_cons (ps_for PassesOwn.never rfl (pi_range1 (by rfl) T.n_range (pa_cons (pe_call G_l_draw (hr.mono (by decide)) (by rfl) m_l_draw k_l_draw b_l_draw .nil pass0 (pa_cons (pv 0) (pa_cons (pv 1) pa_nil))) pa_nil)) (pg_name (i := 3) sc_l_drawn.nd rfl (Or.inl rfl))
      (pss_one (ps_expr (pe_bm PySem.F.plainAttrs_list PySem.F.slot_list_append PySem.F.type_list_append mt_append (pv 2) (pa_cons (pe_op op_add (pe_ix ix_list (pv 2) (pe_un un_neg pe_int) (fun _ _ => rfl)) (pe_ix ix_list (pe_lst (pa_cons pe_int (pa_cons pe_int (pa_cons pe_int (pa_cons pe_int (pa_cons pe_int (pa_cons pe_int pa_nil))))))) (pe_call G_l_draw (hr.mono (by decide)) (by rfl) m_l_draw k_l_draw b_l_draw .nil pass0 (pa_cons (pv 0) (pa_cons pe_int pa_nil))) (fun _ _ => rfl))) pa_nil)))))
    (pss_cons (ps_set (i := 4) sc_l_drawn.nd rfl (Or.inl rfl) (pe_op op_add pe_int (pe_call G_l_draw (hr.mono (by decide)) (by rfl) m_l_draw k_l_draw b_l_draw .nil pass0 (pa_cons (pv 0) (pa_cons (pe_callB call_len_seq (by rfl) T.n_len (by decide +kernel) (pa_cons (pv 2) pa_nil)) pa_nil)))))
    (pss_one (ps_ret (pe_tup (pa_cons (pe_callTy call_tuple_of (by rfl) T.n_tuple (by decide +kernel) (pa_cons (pv 2) pa_nil)) (pa_cons (pv 4) (pa_cons (pe_op op_add (pe_op op_sub (pe_ix ix_list (pv 2) (pe_un un_neg pe_int) (fun _ _ => rfl)) (pe_ix ix_list (pv 2) (pe_op op_sub (pe_callB call_len_seq (by rfl) T.n_len (by decide +kernel) (pa_cons (pv 2) pa_nil)) (pv 4)) (fun _ _ => rfl))) (pe_call G_l_draw (hr.mono (by decide)) (by rfl) m_l_draw k_l_draw b_l_draw .nil pass0 (pa_cons (pv 0) (pa_cons pe_int pa_nil)))) pa_nil))))))))), ?_⟩
  -- the first member
  refine ⟨(by show 4 ≤ sizeLine; decide), fun b nb => ?_⟩
  have sb := same_upd (o := .lst [.int 0, .int 0, .int 1, .int 5]) nb
  obtain ⟨bp, bl⟩ := D0.lne nb
  refine ⟨_, rfl, p, l, n, 4, rfl, D0.same sb, by omega, by omega, by omega, by omega, fun i4 H4 i40 i41 f4 D4 => ?_⟩
  obtain ⟨z, zz, hz⟩ := pickI [0, 0, 1, 5] i40 (show i4 < 4 from i41)
  have z0 : 0 ≤ z ∧ z ≤ 10 := by
    simp only [List.mem_cons, List.not_mem_nil, or_false] at zz
    omega
  refine ⟨_, _, _, _, rfl, rfl, SqL.of (f4 b _ bp bl upd_same), at_of (j := i4.toNat) (by omega) hz, ?_⟩
  refine ⟨(by show 1 ≤ sizeLine; decide), fun L nL => ?_⟩
  obtain ⟨Lp, Ll⟩ := D4.lne nL
  have sL := same_upd (o := .lst [.int z]) nL
  have fr : Fr p l H (upd H4 L (.lst [.int z])) := ((Same.fr sb).trans f4).trans (Same.fr sL)
  have D5 := D4.same sL
  have hn : ∀ b o, H b = some o → b ≠ L := by
    intro b o hb e
    subst e
    by_cases q1 : b = p
    · exact Lp q1
    · by_cases q2 : b = l
      · exact Ll q2
      · have := ((Same.fr (p := p) (l := l) sb).trans f4) b o q1 q2 hb
        rw [nL] at this
        cases this
  -- the others
  refine ⟨_, rfl, _, rfl, p, l, n + 1, upto, rfl, D5, by omega, by omega, by omega, by omega, fun m H6 m0 m1 f6 D6 => ?_⟩
  refine ⟨_, rfl, by omega, by omega, ?_⟩
  refine for_range (lo := 0) (n := m.toNat) (fun i σ H' => ∃ (n' : Int) (T0 : List Int) (v : Option V), σ = [some (.ref p), some (.int upto), some (.ref L), v, none] ∧
      Deck H' p l n' ∧ n ≤ n' ∧ n' ≤ n + 4 + (i : Int) ∧ Fr p l H H' ∧ H' L = some (.lst (T0.map V.int)) ∧ T0.length = i + 1 ∧ Tz T0)
    ⟨_, [z], none, rfl, D6, by omega, by omega, fr.trans f6, f6 L _ Lp Ll upd_same, rfl, Tz.one z0.1 z0.2⟩ ?_ ?_
  · rintro i σ H' hi ⟨n', T0, v, rfl, D', a0, a1, f', hL, hT, tb⟩
    refine ⟨_, rfl, .inl ⟨rfl, _, SqL.of hL⟩, ?_⟩
    refine ⟨_, rfl, _, rfl, _, _, _, _, rfl, rfl, SqL.of hL, last_int tb.ne, ?_⟩
    refine ⟨(by show 6 ≤ sizeLine; decide), fun b' nb' => ?_⟩
    have sb' := same_upd (o := .lst [.int 0, .int 0, .int 1, .int 1, .int 2, .int 9]) nb'
    obtain ⟨bp', bl'⟩ := D'.lne nb'
    refine ⟨_, rfl, p, l, n', 6, rfl, D'.same sb', by omega, by omega, by omega, by omega, fun i5 H7 i50 i51 f7 D7 => ?_⟩
    obtain ⟨c, cc, hc⟩ := pickI [0, 0, 1, 1, 2, 9] i50 (show i5 < 6 from i51)
    have c0 : 0 ≤ c ∧ c ≤ 10 := by
      simp only [List.mem_cons, List.not_mem_nil, or_false] at cc
      omega
    have hL7 : H7 L = some (.lst (T0.map V.int)) := f7 L _ Lp Ll (sb' _ _ hL)
    refine ⟨_, _, _, _, rfl, rfl, SqL.of (f7 b' _ bp' bl' upd_same), at_of (j := i5.toNat) (by omega) hc, _, _, rfl, rfl, L, _, _, rfl, rfl, hL7, ?_, ?_⟩
    · rw [List.length_map, hT]
      exact small1000 (by omega)
    · have fL : Fr p l H (upd H7 L (.lst ((T0 ++ [T0.getD (T0.length - 1) 0 + c]).map V.int))) := by
        intro b o h1 h2 hb
        rw [upd_ne (hn b o hb)]
        exact (f'.trans ((Same.fr sb').trans f7)) b o h1 h2 hb
      refine ⟨n' + 1, T0 ++ [T0.getD (T0.length - 1) 0 + c], _, rfl, ⟨by rw [upd_ne Lp.symm]; exact D7.hp, ?_⟩, by omega, by omega, ?_, ?_, ?_, tb.more c0.1 c0.2⟩
      · obtain ⟨cells, q1, q2⟩ := D7.hl
        exact ⟨cells, by rw [upd_ne Ll.symm]; exact q1, q2⟩
      · rw [List.map_append] at fL
        exact fL
      · rw [upd_same, List.map_append]
        rfl
      · rw [List.length_append, List.length_singleton, hT]
  · rintro σ H' ⟨n', T0, v, rfl, D', a0, a1, f', hL, hT, tb⟩
    have hlen : (T0.length : Int) ≤ upto := by omega
    have ll := len_int T0
    refine ⟨_, rfl, _, rfl, _, _, rfl, .inl (SqL.of hL), p, l, n', _, rfl, D', by omega, by omega, by rw [ll]; omega, by rw [ll]; omega, fun rp H7 rp0 rp1 f7 D7 => ?_⟩
    rw [ll] at rp1
    have hL7 := f7 L _ Lp Ll hL
    refine ⟨_, _, rfl, rfl, _, rfl, L, _, rfl, .inl ⟨SqL.of hL7, fun t nt => ?_⟩⟩
    have st := same_upd (o := .tup (T0.map V.int)) nt
    have gs : (T0.map V.int)[T0.length - (1 + rp).toNat]? = some (.int (T0.getD (T0.length - (1 + rp).toNat) 0)) := get_int (by omega)
    refine ⟨_, rfl, _, rfl, _, rfl, _, _, _, _, rfl, rfl, SqL.of (st _ _ hL7), last_int tb.ne, _, rfl, _, rfl, _, _, rfl, .inl (SqL.of (st _ _ hL7)), _, rfl, _, _, rfl, rfl, _, _, _, _, rfl, rfl, SqL.of (st _ _ hL7), at_of (by rw [ll]; omega) gs, _, _, rfl, rfl, ?_⟩
    refine ⟨_, rfl, p, l, n' + 1, 3, rfl, D7.same st, by omega, by omega, by omega, by omega, fun c H8 c0 c1 f8 D8 => ?_⟩
    refine ⟨_, _, rfl, rfl, (by show 3 ≤ sizeLine; decide), fun d nd => ?_⟩
    have ht8 := f8.tup (D7.same st) (show upd H7 t (.tup (T0.map V.int)) t = some (.tup (T0.map V.int)) from upd_same)
    have ok := tb.rising (p := (1 + rp).toNat) (c := c) (by omega) (by omega) c0
    have ep : (((1 + rp).toNat : Nat) : Int) = 1 + rp := by omega
    have sd := same_upd (o := .tup [.ref t, .int (1 + rp), .int (T0.getD (T0.length - 1) 0 - T0.getD (T0.length - (1 + rp).toNat) 0 + c)]) nd
    have t1 := tb.top (T0.length - 1) (by omega)
    have t2 := tb.nn (T0.length - (1 + rp).toNat) (by omega)
    refine k _ d T0 (1 + rp).toNat (T0.getD (T0.length - 1) 0 - T0.getD (T0.length - (1 + rp).toNat) 0 + c) (n' + 1 + 1) (f'.trans (f7.trans ((Same.fr st).trans (f8.trans (Same.fr sd))))) (D8.same sd) (by omega) (by omega) ⟨t, by rw [ep]; exact upd_same, sd _ _ ht8⟩ ok ⟨by omega, by omega, fun i hi => ?_⟩ hlen
    have := tb.top i hi
    omega
end
end Sm

set_option Elab.async false
set_option linter.all false
set_option maxRecDepth 100000
set_option maxHeartbeats 16000000
namespace Sm
open PySem PySem.Spec PyProof.Rows L2
open C8 (pss_cut tCut)
def sp_cycle_of (K : PySem.W.Frag) : Sp := fun vs H Q _ => ∃ (a : Addr) (I : List Int), vs = [.ref a] ∧ H a = some (.lst (I.map V.int)) ∧ 0 < I.length ∧ I.length ≤ 6000 ∧ ∀ H' s, Same H H' → Cyc I s → Q (.int (s : Int)) H'
theorem ints_eqvAll : ∀ I J : List Int, PyData.eqvAll (I.map PyData.int) (J.map PyData.int) = decide (I = J)
  | [], [] => by simp [PyData.eqvAll]
  | [], j :: J => by simp [PyData.eqvAll]
  | i :: I, [] => by simp [PyData.eqvAll]
  | i :: I, j :: J => by
    have := ints_eqvAll I J
    simp only [List.map_cons, PyData.eqvAll, this]
    simp [PyData.eqv]
    rfl
theorem ints_eqv (I J : List Int) : PyData.eqv (.list (I.map PyData.int)) (.list (J.map PyData.int)) = decide (I = J) := by
  rw [← ints_eqvAll]
  simp [PyData.eqv]
theorem ints_shaped (I : List Int) : SeqAt.shaped (.list (I.map PyData.int)) = true := by
  have a : PyData.canLayAll0 (I.map PyData.int) = true := by
    induction I with
    | nil => rfl
    | cons i I ih => simp [PyData.canLayAll0, PyData.canLay0, ih]
  have b := depth_ints I
  have c : PyData.depth (.list (I.map PyData.int)) ≤ 64 := by
    simp only [PyData.depth]
    omega
  simp [SeqAt.shaped, PyData.canLay0, a, c]
theorem steps_split {T : List Int} {p : Nat} {r : Int} (o : RuleW T p r) : ((List.range (p - 1)).map fun i => T.getD (T.length - p + (i + 1)) 0 - T.getD (T.length - p + i) 0) ++ [T.getD (T.length - p + 0) 0 + r - T.getD (T.length - 1) 0] = stepsOf T p r := by
  have p0 := o.p0
  have p1 := o.p1
  obtain ⟨q, rfl⟩ : ∃ q, p = q + 1 := ⟨p - 1, by omega⟩
  unfold stepsOf
  rw [List.range_succ, List.map_append, Nat.add_sub_cancel]
  congr 1
  · refine List.map_congr_left fun i hi => ?_
    have hi := List.mem_range.mp hi
    rw [vl_lt (by omega), vl_lt (by omega), Nat.add_assoc]
  · show [_] = [vl T (q + 1) r (T.length - (q + 1) + q + 1) - vl T (q + 1) r (T.length - (q + 1) + q)]
    have e := vl_add p0 p1 (r := r) (x := T.length - (q + 1)) (Nat.le_refl _)
    rw [show T.length - (q + 1) + q + 1 = T.length - (q + 1) + (q + 1) by omega, e, vl_lt (by omega), vl_lt (by omega), show T.length - (q + 1) + q = T.length - 1 by omega]
    rfl
/-! ### a list or a tuple -/
def SA (H : Hp) (a : Addr) (xs : List V) : Prop := H a = some (.lst xs) ∨ H a = some (.tup xs)
theorem SA.same {H H' : Hp} {a : Addr} {xs : List V} (h : SA H a xs) (s : Same H H') : SA H' a xs := h.imp (s _ _) (s _ _)
theorem SA.sq {K : PySem.W.Frag} {H : Hp} {a : Addr} {xs : List V} (h : SA H a xs) : SqL K H a xs ∨ SqT K H a xs := h.imp SqL.of SqT.of
theorem ix_any {K : PySem.W.Frag} {H : Hp} {a : Addr} {xs : List V} {i : Int} {v : V} {Q : VK} (h : SA H a xs) (g : atI xs i = some v) (q : Q v H) : rIx K (.ref a) (.int i) H Q := by
  rcases h with h | h
  · exact .inl ⟨_, _, _, _, rfl, rfl, SqL.of h, g, q⟩
  · exact .inr (.inl ⟨_, _, _, _, rfl, rfl, SqT.of h, g, q⟩)
theorem sl_any {X : Cx} : SlR X (fun x lo hi H Q => rSlL X.K x lo hi H Q ∨ rSlA X.K x lo hi H Q) := fun pins s σ H x v vl vu lo hi sl Q I rv sw pl pu h => h.elim (sl_list pins s σ H x v vl vu lo hi sl Q I rv sw pl pu) (sl_tupA pins s σ H x v vl vu lo hi sl Q I rv sw pl pu)
theorem sl_anyU {K : PySem.W.Frag} {H : Hp} {a : Addr} {xs : List V} {lo hi : Option Int} {Q : VK} (h : SA H a xs) (q : ∀ u H', Same H H' → SA H' u (cutV xs lo hi) → Q (.ref u) H') : rSlL K (.ref a) lo hi H Q ∨ rSlA K (.ref a) lo hi H Q := by
  rcases h with h | h
  · exact .inl ⟨a, xs, rfl, SqL.of h, fun p np => q p _ (same_upd np) (.inl upd_same)⟩
  · exact .inr (sl_uni h fun u H' s' hu => q u H' s' (.inr hu))
theorem tup_anyU {K : PySem.W.Frag} {H : Hp} {a : Addr} {xs : List V} {Q : VK} (h : SA H a xs) (q : ∀ u H', Same H H' → H' u = some (.tup xs) → Q (.ref u) H') :
    ∃ p ys, [V.ref a] = [V.ref p] ∧ ((SqL K H p ys ∧ ∀ l, H l = none → Q (.ref l) (upd H l (.tup ys))) ∨ (SqT K H p ys ∧ Q (.ref p) H)) := by
  rcases h with h | h
  · exact ⟨a, xs, rfl, .inl ⟨SqL.of h, fun l nl => q l _ (same_upd nl) upd_same⟩⟩
  · exact ⟨a, xs, rfl, .inr ⟨SqT.of h, q a H (Same.refl _) h⟩⟩
def sp_shortest (K : PySem.W.Frag) : Sp := fun vs H Q _ => ∃ (a : Addr) (T : List Int) (p : Nat) (r : Int), vs = [.ref a, .int (p : Int), .int r] ∧ SA H a (T.map V.int) ∧ RuleOk T p r ∧ RB T p r ∧
  ∀ H' d' T' p' r', Same H H' → RuleAt H' d' T' p' r' → Cut T p r T' p' r' → Short T' p' r' → (∀ x, vl T' p' r' x = vl T p r x) → Q (.ref d') H'
section
variable {P : Program} {w : World} {K : PySem.W.Frag} {mg : Str → Option Value} {base : Heap}
abbrev s_cycle_of : Stmt := topS 15
abbrev N_cycle_of : List Str := ["items", "turn"]
theorem sc_cycle_of : FnScope N_cycle_of ["items"] (defScope s_cycle_of) := ⟨rfl, rfl, rfl, by decide +kernel, rfl, by decide +kernel, by decide +kernel⟩
theorem ok_cycle_of (T : Txt mg) (D : Df K mg "cycle_of" s_cycle_of ["items"]) : Cal P w K mg base "cycle_of" ["items"] 1 (sp_cycle_of K) := by
  refine D.cal sc_cycle_of (fun vs H Q E h => ?_) (fun f cdv A outer s H vs Q E hr h => ?_)
  · obtain ⟨a, I, rfl, _⟩ := h
    rfl
  obtain ⟨a, I, rfl, hS, i0, i1, k⟩ := h
  have ll := len_int I
  have lm : (I.map V.int).length = I.length := List.length_map ..
  refine ⟨_, (pss_cons (ps_for PassesOwn.never rfl (pi_range2 (by rfl) T.n_range (pa_cons pe_int (pa_cons (pe_callB call_len_seq (by rfl) T.n_len (by decide +kernel) (pa_cons (pv 0) pa_nil)) pa_nil))) (pg_name (i := 1) sc_cycle_of.nd rfl (Or.inl rfl))
      (pss_one (ps_if (PW.pt (pw_and (pt_cmpR op_eq (pe_op op_modN (pe_callB call_len_seq (by rfl) T.n_len (by decide +kernel) (pa_cons (pv 0) pa_nil)) (pv 1)) pe_int (nomark _)) (pw_and1 (pt_cmpR (op_eqD hr.units) (pv 0) (pe_op op_cat (pe_slice sl_list (pv 0) (po_some (pv 1)) po_none) (pe_slice sl_list (pv 0) po_none (po_some (pv 1)))) (nomark _))))) (pss_one (ps_ret (pv 1))) pss_nil)))
    (pss_one (ps_ret (pe_callB call_len_seq (by rfl) T.n_len (by decide +kernel) (pa_cons (pv 0) pa_nil))))), ?_⟩
  refine ⟨_, rfl, _, _, rfl, .inl (SqL.of hS), _, _, rfl, ⟨by omega, by omega, by rw [ll]; omega, by rw [ll]; omega⟩, ?_⟩
  refine for_range (lo := _) (n := _) (fun i σ H' => ∃ v, σ = [some (.ref a), v] ∧ Same H H' ∧ H' a = some (.lst (I.map V.int)) ∧ ∀ t, 0 < t → t ≤ i → t < I.length → t ∣ I.length → ¬ Rot I t)
    ⟨none, rfl, Same.refl _, hS, fun t h1 h2 => absurd h1 (by omega)⟩ ?_ ?_
  · rintro i σ H' hi ⟨v, rfl, s, hS, least⟩
    rw [ll] at hi
    have hi : 1 + i < I.length := by omega
    have more : (1 + i ∣ I.length → ¬ Rot I (1 + i)) → ∀ t, 0 < t → t ≤ i + 1 → t < I.length → t ∣ I.length → ¬ Rot I t := by
      intro h t h1 h2 h3 h4
      by_cases q : t = 1 + i
      · subst q
        exact h h4
      · exact least t h1 (by omega) h3 h4
    refine ⟨_, rfl, _, _, rfl, .inl (SqL.of hS), _, rfl, _, _, rfl, rfl, (by omega), rfl, _, rfl, ite3 (fun e => ?_) (fun e => ?_)⟩
    · rw [ll] at e
      have dv : 1 + i ∣ I.length := dvd_of (V.int.inj e)
      refine ⟨_, rfl, _, rfl, _, rfl, _, rfl, a, _, rfl, SqL.of hS, fun c nc => ?_⟩
      have e1 : cutV (I.map V.int) (some (1 + (i : Int))) none = (I.drop (1 + i)).map V.int := by
        rw [show (1 : Int) + (i : Int) = ((1 + i : Nat) : Int) by omega, cut_from, List.map_drop]
      have e2 : cutV (I.map V.int) none (some (1 + (i : Int))) = (I.take (1 + i)).map V.int := by
        rw [show (1 : Int) + (i : Int) = ((1 + i : Nat) : Int) by omega, cut_all, List.map_take]
      have s1 := same_upd (o := .lst (cutV (I.map V.int) (some (1 + (i : Int))) none)) nc
      refine ⟨_, rfl, _, rfl, _, rfl, a, _, rfl, SqL.of (s1 _ _ hS), fun d nd => ?_⟩
      have s2 := same_upd (o := .lst (cutV (I.map V.int) none (some (1 + (i : Int))))) nd
      refine ⟨_, _, _, _, rfl, rfl, s2 _ _ upd_same, upd_same, ?_, fun g ng => ?_⟩
      · rw [e1, e2, List.length_map, List.length_map, List.length_drop, List.length_take]
        exact Nat.le_trans (show I.length - (1 + i) + min (1 + i) I.length ≤ 6000 by omega) (by decide)
      rw [e1, e2] at *
      have s3 := same_upd (o := .lst ((I.drop (1 + i)).map V.int ++ (I.take (1 + i)).map V.int)) ng
      have sz := s1.trans (s2.trans s3)
      have hg : ∀ H9 : Hp, H9 = upd (upd (upd H' c (.lst ((I.drop (1 + i)).map V.int))) d (.lst ((I.take (1 + i)).map V.int))) g (.lst ((I.drop (1 + i)).map V.int ++ (I.take (1 + i)).map V.int)) → H9 g = some (.lst ((I.drop (1 + i) ++ I.take (1 + i)).map V.int)) := by
        rintro H9 rfl
        rw [upd_same, List.map_append]
      have hg := hg _ rfl
      generalize upd (upd (upd H' c (.lst ((I.drop (1 + i)).map V.int))) d (.lst ((I.take (1 + i)).map V.int))) g (.lst ((I.drop (1 + i)).map V.int ++ (I.take (1 + i)).map V.int)) = H9 at sz hg ⊢
      refine ⟨dataI I, dataI (I.drop (1 + i) ++ I.take (1 + i)), .lst (SqL.of (sz _ _ hS)) (dp_ints _), .lst (SqL.of hg) (dp_ints _), ints_shaped _, ints_shaped _, ?_⟩
      unfold dataI
      rw [ints_eqv]
      refine ⟨_, rfl, ite3 (fun r => ?_) (fun r => ?_)⟩
      · refine ⟨_, rfl, ?_⟩
        have z : (1 : Int) + (i : Int) = ((1 + i : Nat) : Int) := by omega
        rw [z]
        exact k H9 (1 + i) (s.trans sz) ⟨by omega, by omega, dv, fun _ => r, fun t h1 h2 h3 => least t h1 (by omega) (by omega) h3⟩
      · exact ⟨_, rfl, s.trans sz, sz _ _ hS, more fun _ => r⟩
    · exact iteF ⟨_, rfl, s, hS, more fun dv => absurd (congrArg V.int (by rw [ll]; exact of_dvd dv)) e⟩
  · rintro σ H' ⟨v, rfl, s, hS, least⟩
    rw [ll] at least
    refine ⟨_, rfl, _, _, rfl, .inl (SqL.of hS), ?_⟩
    rw [ll]
    exact k H' I.length s ⟨i0, Nat.le_refl _, Nat.dvd_refl _, fun h => absurd h (Nat.lt_irrefl _), fun t h1 h2 h3 => least t h1 (by omega) (by omega) h3⟩
abbrev s_shortest : Stmt := topS 14
abbrev N_shortest : List Str := ["table", "period", "rise", "tail", "steps", "turn", "gain", "count", "at"]
theorem sc_shortest : FnScope N_shortest ["table", "period", "rise"] (defScope s_shortest) := ⟨rfl, rfl, rfl, by decide +kernel, rfl, by decide +kernel, by decide +kernel⟩
theorem ok_shortest (T : Txt mg) (D : Df K mg "shortest" s_shortest ["table", "period", "rise"]) (C_cycle_of : Cal P w K mg base "cycle_of" ["items"] 1 (sp_cycle_of K)) : Cal P w K mg base "shortest" ["table", "period", "rise"] 2 (sp_shortest K) := by
  obtain ⟨f_cycle_of, fd_cycle_of, G_cycle_of, m_cycle_of, k_cycle_of, b_cycle_of⟩ := C_cycle_of
  refine D.cal sc_shortest (fun vs H Q E h => ?_) (fun f cdv A outer s H vs Q E hr h => ?_)
  · obtain ⟨a, T0, p, r, rfl, _⟩ := h
    rfl
  obtain ⟨a, T0, p, r, rfl, hS, o, b, k⟩ := h
  have p0 := o.p0
  have p1 := o.p1
  have bl := b.len
  have r0 := o.r0
  have ll := len_int T0
  have lm : (T0.map V.int).length = T0.length := List.length_map ..
  have lo : (((T0.map V.int).length : Nat) : Int) - (p : Int) = ((T0.length - p : Nat) : Int) := by rw [ll]; omega
  refine ⟨_, (pss_cons (ps_set (i := 3) sc_shortest.nd rfl (Or.inr rfl) (pe_slice sl_any (pv 0) (po_some (pe_op op_sub (pe_callB call_len_seq (by rfl) T.n_len (by decide +kernel) (pa_cons (pv 0) pa_nil)) (pv 1))) po_none))
    (pss_cons (ps_setLc (i := 4) (own := [("at", 8)]) (g := gName 8) (tt := tYes) rfl sc_shortest.nd rfl rfl (sw_true rfl rfl rfl (by decide +kernel)) (pi_range1 (by rfl) T.n_range (pa_cons (pe_op op_sub (pv 1) pe_int) pa_nil)) (blkOk_by (own := [("at", 8)]) (N := N_shortest) (sc := defScope s_shortest) (by decide +kernel)) (fun _ _ _ _ _ => pg_name (i := 8) sc_shortest.nd rfl (Or.inl rfl)) (fun _ _ _ _ _ => pts_nil) (fun _ _ _ _ _ => (pe_op op_sub (pe_ix (show IxR _ (rIx K) from ix_seq) (pv 3) (pe_op op_add (pv 8) pe_int) (fun _ _ => rfl)) (pe_ix (show IxR _ (rIx K) from ix_seq) (pv 3) (pv 8) (fun _ _ => rfl)))))
    (pss_cons (ps_set (i := 5) sc_shortest.nd rfl (Or.inl rfl) (pe_call G_cycle_of (hr.mono (by decide)) (by rfl) m_cycle_of k_cycle_of b_cycle_of .nil pass0 (pa_cons (pe_op op_cat (pv 4) (pe_lst (pa_cons (pe_op op_sub (pe_op op_add (pe_ix ix_seq (pv 3) pe_int (fun _ _ => rfl)) (pv 2)) (pe_ix ix_seq (pv 3) (pe_un un_neg pe_int) (fun _ _ => rfl))) pa_nil))) pa_nil)))
    (pss_cons (ps_set (i := 6) sc_shortest.nd rfl (Or.inl rfl) (pe_op op_fdivW (pe_op op_mul (pv 2) (pv 5)) (pv 1)))
    (pss_cons (ps_set (i := 7) sc_shortest.nd rfl (Or.inl rfl) (pe_callB call_len_seq (by rfl) T.n_len (by decide +kernel) (pa_cons (pv 0) pa_nil)))
    (pss_cons (ps_while PassesOwn.never (PW.pt (pw_and (pt_cmpR op_gt (pv 7) (pv 5) (nomark _)) (pw_and1 (pt_cmpR op_eq (pe_ix ix_seq (pv 0) (pe_op op_sub (pv 7) pe_int) (fun _ _ => rfl)) (pe_op op_add (pe_ix ix_seq (pv 0) (pe_op op_sub (pe_op op_sub (pv 7) pe_int) (pv 5)) (fun _ _ => rfl)) (pv 6)) (nomark _)))))
      (pss_one (ps_aug (i := 7) sc_shortest.nd rfl (Or.inl rfl) pe_int ip_sub)))
    (pss_one (ps_ret (pe_tup (pa_cons (pe_callTy call_tuple_of (by rfl) T.n_tuple (by decide +kernel) (pa_cons (pe_slice sl_any (pv 0) po_none (po_some (pv 7))) pa_nil)) (pa_cons (pv 5) (pa_cons (pv 6) pa_nil)))))))))))), ?_⟩
  refine ⟨_, rfl, _, rfl, _, _, rfl, hS.sq, _, rfl, _, _, rfl, rfl, _, rfl, ?_⟩
  rw [lo]
  refine sl_anyU hS fun c H1 s1 hc => ?_
  rw [cut_from, ← List.map_drop] at hc
  have tl : (T0.drop (T0.length - p)).length = p := by rw [List.length_drop]; omega
  have tg : ∀ i, i < p → ((T0.drop (T0.length - p)).map V.int)[i]? = some (.int (T0.getD (T0.length - p + i) 0)) := by
    intro i hi
    rw [List.getElem?_map, List.getElem?_drop, List.getElem?_eq_getElem (by omega), List.getD_eq_getElem?_getD, List.getElem?_eq_getElem (by omega)]
    rfl
  have cnt : ((p : Int) - 1).toNat = p - 1 := by omega
  refine ⟨_, rfl, _, _, rfl, rfl, _, rfl, (by omega), (by omega), fun D nD => ?_⟩
  rw [cnt]
  have sD := same_upd (o := .lst []) nD
  refine lc_range (lo := 0) (n := p - 1) (fun j H' => Same H1 H' ∧ H' D = some (.lst (((List.range j).map fun i => T0.getD (T0.length - p + (i + 1)) 0 - T0.getD (T0.length - p + i) 0).map V.int))) ⟨sD, upd_same⟩ ?_ ?_
  · rintro j H' hj ⟨s', hD⟩
    refine ⟨rfl, ?_⟩
    unfold tYes
    refine iteT ?_
    have e1 : (0 : Int) + (j : Int) + 1 = ((j + 1 : Nat) : Int) := by omega
    have e0 : (0 : Int) + (j : Int) = (j : Int) := Int.zero_add _
    refine ⟨_, rfl, _, rfl, _, _, rfl, rfl, ix_any (hc.same s') (at_of e1 (tg (j + 1) (by omega))) ⟨_, rfl, _, rfl, ix_any (hc.same s') (at_of e0 (tg j (by omega))) ⟨_, _, rfl, rfl, _, hD, ?_, fun b o e => ?_, ?_⟩⟩⟩
    · rw [List.length_map, List.length_map, List.length_range]
      exact Nat.lt_of_le_of_lt (show j ≤ 6000 by omega) (by decide)
    · rw [upd_ne (ne_of_none e nD)]
      exact s' _ _ e
    · rw [upd_same, List.range_succ, List.map_append, List.map_append]
      rfl
  rintro H2 ⟨s2, hD⟩
  have hc2 := hc.same s2
  have g0 := tg 0 p0
  have gl := tg (p - 1) (by omega)
  rw [show T0.length - p + (p - 1) = T0.length - 1 by omega] at gl
  refine ⟨_, rfl, _, rfl, ix_any hc2 (atI_nat (j := 0) g0) ⟨_, rfl, _, _, rfl, rfl, _, rfl, _, rfl, ix_any hc2 (atI_neg1 (by rw [List.length_map, tl]; exact p0) (by rw [List.length_map, tl]; exact gl)) ⟨_, _, rfl, rfl, (by show 1 ≤ sizeLine; decide), fun e ne => ?_⟩⟩⟩
  have se := same_upd (o := .lst [.int (T0.getD (T0.length - p + 0) 0 + r - T0.getD (T0.length - 1) 0)]) ne
  refine ⟨_, _, _, _, rfl, rfl, se _ _ hD, upd_same, ?_, fun g ng => ?_⟩
  · rw [List.length_map, List.length_map, List.length_range]
    exact Nat.le_trans (show p - 1 + 1 ≤ 6000 by omega) (by decide)
  have sg := same_upd (o := .lst ((((List.range (p - 1)).map fun i => T0.getD (T0.length - p + (i + 1)) 0 - T0.getD (T0.length - p + i) 0).map V.int) ++ [.int (T0.getD (T0.length - p + 0) 0 + r - T0.getD (T0.length - 1) 0)])) ng
  have hg : ∀ H9 : Hp, H9 g = some (.lst ((((List.range (p - 1)).map fun i => T0.getD (T0.length - p + (i + 1)) 0 - T0.getD (T0.length - p + i) 0).map V.int) ++ [.int (T0.getD (T0.length - p + 0) 0 + r - T0.getD (T0.length - 1) 0)])) → H9 g = some (.lst ((stepsOf T0 p r).map V.int)) := by
    intro H9 h
    rw [h, ← steps_split o.w, List.map_append]
    rfl
  have s3 := s1.trans (s2.trans (se.trans sg))
  refine ⟨g, stepsOf T0 p r, rfl, hg _ upd_same, by rw [stepsOf_len]; exact p0, by rw [stepsOf_len]; omega, fun H3 s s4 cyc => ?_⟩
  obtain ⟨s0, sp, sd, hs, hm⟩ := cyc_rule o cyc
  have sz := s3.trans s4
  have hS3 := hS.same sz
  refine ⟨_, rfl, _, rfl, _, _, rfl, rfl, b.mulR' o.w, _, rfl, _, _, rfl, rfl, b.div o.w, _, rfl, _, _, rfl, hS3.sq, ?_⟩
  have c0 : 0 ≤ r * (s : Int) / (p : Int) := Int.ediv_nonneg (Int.mul_nonneg r0 (by omega)) (by omega)
  have c1 : r * (s : Int) / (p : Int) ≤ r := by
    have h1 : r * (s : Int) ≤ r * (p : Int) := Int.mul_le_mul_of_nonneg_left (by omega) r0
    have h2 := Int.ediv_le_ediv (show (0 : Int) < (p : Int) by omega) h1
    rw [Int.mul_ediv_cancel _ (by omega)] at h2
    exact h2
  have all := rep_all o hs
  obtain ⟨cc, ec⟩ : ∃ cc, cc = r * (s : Int) / (p : Int) := ⟨_, rfl⟩
  rw [← ec] at c0 c1 all
  refine ⟨fun m σ H' => σ = [some (.ref a), some (.int (p : Int)), some (.int r), some (.ref c), some (.ref D), some (.int (s : Int)), some (.int cc), some (.int ((m + s : Nat) : Int)), none] ∧ H' = H3 ∧ m + s ≤ T0.length ∧ ∀ y, m ≤ y → vl T0 p r (y + s) = vl T0 p r y + cc, ⟨T0.length - s, ?_, rfl, by omega, fun y hy => all y (by omega)⟩, ?_⟩
  · rw [ec, show T0.length - s + s = T0.length by omega, ← ll]
    rfl
  rintro m σ H' ⟨rfl, rfl, al, ha⟩
  have fin : (m = 0 ∨ vl T0 p r (m - 1 + s) ≠ T0.getD (m - 1) 0 + cc) → ∀ (H5 : Hp) (t' : Addr), Same H' H5 → H5 t' = some (.tup ((T0.take (m + s)).map V.int)) → ∀ q, H5 q = none → Q (.ref q) (upd H5 q (.tup [.ref t', .int (s : Int), .int cc])) := by
    intro st H5 t' sm h5 q nq
    have sq := same_upd (o := .tup [.ref t', .int (s : Int), .int cc]) nq
    have am : m ≤ T0.length - p := by
      rcases Nat.lt_or_ge (T0.length - p) m with w | w
      · exfalso
        rcases st with z | z
        · omega
        · apply z
          rw [all (m - 1) (by omega), vl_lt (by omega)]
      · exact w
    refine k _ q (T0.take (m + s)) s cc (sz.trans (sm.trans sq)) ⟨t', upd_same, sq _ _ h5⟩ ⟨?_, sp, c1, fun i hi => ?_⟩ (cut_short o s0 sd am c0 ha hm st) (cut_vl s0 (by omega) ha)
    · rw [List.length_take]
      omega
    · rw [List.length_take] at hi
      exact getD_take (by omega)
  have cx : cutV (T0.map V.int) none (some ((m + s : Nat) : Int)) = (T0.take (m + s)).map V.int := by rw [cut_all, List.map_take]
  refine ⟨_, rfl, _, rfl, _, _, rfl, rfl, _, rfl, ?_⟩
  by_cases e : ((m + s : Nat) : Int) > (s : Int)
  · have e1 : ((m + s : Nat) : Int) - 1 = ((m + s - 1 : Nat) : Int) := by omega
    have e2 : ((m + s : Nat) : Int) - 1 - (s : Int) = ((m - 1 : Nat) : Int) := by omega
    refine iteP e ⟨_, rfl, _, rfl, _, _, rfl, rfl, ix_any hS3 (at_of e1 (get_int (by omega))) ⟨_, rfl, _, rfl, _, _, rfl, rfl, _, rfl, _, _, rfl, rfl, ix_any hS3 (at_of e2 (get_int (by omega))) ⟨_, rfl, _, _, rfl, rfl, rfl, _, rfl, ?_⟩⟩⟩
    have e4 : vl T0 p r (m - 1 + s) = T0.getD (m + s - 1) 0 := by rw [show m - 1 + s = m + s - 1 by omega, vl_lt (by omega)]
    by_cases e3 : T0.getD (m + s - 1) 0 = T0.getD (m - 1) 0 + cc
    · refine iteP (congrArg V.int e3) ⟨fun σ H'' => σ = [some (.ref a), some (.int (p : Int)), some (.int r), some (.ref c), some (.ref D), some (.int (s : Int)), some (.int cc), some (.int ((m - 1 + s : Nat) : Int)), none] ∧ H'' = H' ∧ m - 1 + s ≤ T0.length ∧ ∀ y, m - 1 ≤ y → vl T0 p r (y + s) = vl T0 p r y + cc, fun σ' H3 hw => ⟨m - 1, by omega, hw⟩, ?_⟩
      have e5 : ((m + s : Nat) : Int) - 1 = ((m - 1 + s : Nat) : Int) := by omega
      refine ⟨_, rfl, _, _, rfl, rfl, ⟨by rw [← e5]; rfl, rfl, by omega, fun y hy => ?_⟩⟩
      by_cases q : y = m - 1
      · rw [q, e4, e3, vl_lt (by omega)]
      · exact ha y (by omega)
    · refine iteN (fun q => e3 (V.int.inj q)) ?_
      refine ⟨_, rfl, _, rfl, _, rfl, sl_anyU hS3 fun g H5 s5 hg => ?_⟩
      rw [cx] at hg
      rcases hg with hg | hg
      · refine ⟨_, _, rfl, .inl ⟨SqL.of hg, fun t' nt => ⟨_, rfl, _, rfl, (by show 3 ≤ sizeLine; decide), fun q nq => ?_⟩⟩⟩
        exact fin (.inr (by rw [e4]; exact e3)) _ t' (s5.trans (same_upd nt)) upd_same q nq
      · refine ⟨_, _, rfl, .inr ⟨SqT.of hg, _, rfl, _, rfl, (by show 3 ≤ sizeLine; decide), fun q nq => ?_⟩⟩
        exact fin (.inr (by rw [e4]; exact e3)) _ g s5 hg q nq
  · refine iteN e (iteF ?_)
    refine ⟨_, rfl, _, rfl, _, rfl, sl_anyU hS3 fun g H5 s5 hg => ?_⟩
    rw [cx] at hg
    rcases hg with hg | hg
    · refine ⟨_, _, rfl, .inl ⟨SqL.of hg, fun t' nt => ⟨_, rfl, _, rfl, (by show 3 ≤ sizeLine; decide), fun q nq => ?_⟩⟩⟩
      exact fin (.inl (by omega)) _ t' (s5.trans (same_upd nt)) upd_same q nq
    · refine ⟨_, _, rfl, .inr ⟨SqT.of hg, _, rfl, _, rfl, (by show 3 ≤ sizeLine; decide), fun q nq => ?_⟩⟩
      exact fin (.inl (by omega)) _ g s5 hg q nq
end
end Sm

set_option Elab.async false
set_option linter.all false
set_option maxRecDepth 100000
set_option maxHeartbeats 16000000
namespace Sm
open PySem PySem.Spec PyProof.Rows L2
open C8 (pss_cut tCut)
def FormOk (T : List Int) (p r : Int) : Prop := 1 ≤ p ∧ p ≤ (T.length : Int) ∧ 0 ≤ r ∧ ∀ i, i < T.length → 0 ≤ T.getD i 0
def sp_is_whole (_ : PySem.W.Frag) : Sp := fun vs H Q _ => ∃ i : Int, vs = [.int i] ∧ Q (.bl true) H
def sp_is_amount (_ : PySem.W.Frag) : Sp := fun vs H Q _ => ∃ i : Int, vs = [.int i] ∧ Q (.bl (decide (i ≥ 0))) H
def sp_told_error (_ : PySem.W.Frag) : Sp := fun vs H Q _ => ∃ (a : Addr) (T : List Int) (p r : Int), vs = [.ref a, .int p, .int r] ∧ SA H a (T.map V.int) ∧ T.length ≤ 6000 ∧
  (∀ H', Same H H' → ¬ FormOk T p r → Q (.str "form") H') ∧ (∀ H', Same H H' → FormOk T p r → ¬ RuleOk T p.toNat r → Q (.str "falls") H') ∧ (∀ H', Same H H' → FormOk T p r → RuleOk T p.toNat r → Q .non H')
theorem ite3n {p A B : Prop} [Decidable p] (h1 : p → B) (h2 : ¬ p → A) : if (!decide p) = true then A else B := by
  by_cases h : p
  · exact iteNP h (h1 h)
  · exact iteNN h (h2 h)
theorem all_nn {T : List Int} : (T.map fun v => decide (v ≥ 0)).all id = true ↔ ∀ i, i < T.length → 0 ≤ T.getD i 0 := by
  rw [List.all_map, List.all_eq_true]
  constructor
  · intro h i hi
    have := h (T.getD i 0) (by rw [List.getD_eq_getElem?_getD, List.getElem?_eq_getElem hi]; exact List.getElem_mem hi)
    exact of_decide_eq_true this
  · intro h x hx
    obtain ⟨i, hi, rfl⟩ := List.getElem_of_mem hx
    have := h i hi
    rw [List.getD_eq_getElem?_getD, List.getElem?_eq_getElem hi] at this
    exact decide_eq_true this
theorem any_mono {T : List Int} : ((List.range (T.length - 1)).map fun i => decide (T.getD i 0 > T.getD (i + 1) 0)).any id = false ↔ ∀ i, i + 1 < T.length → T.getD i 0 ≤ T.getD (i + 1) 0 := by
  rw [List.any_map, List.any_eq_false]
  constructor
  · intro h i hi
    have := h i (List.mem_range.mpr (by omega))
    have := of_decide_eq_false (Bool.eq_false_iff.mpr this)
    omega
  · intro h i hi
    have := h i (by have := List.mem_range.mp hi; omega)
    exact Bool.eq_false_iff.mp (decide_eq_false (by omega))
section
variable {P : Program} {w : World} {K : PySem.W.Frag} {mg : Str → Option Value} {base : Heap}
abbrev s_is_whole : Stmt := topS 3
abbrev N_is_whole : List Str := ["value"]
theorem sc_is_whole : FnScope N_is_whole ["value"] (defScope s_is_whole) := ⟨rfl, rfl, rfl, by decide +kernel, rfl, by decide +kernel, by decide +kernel⟩
theorem ok_is_whole (T : Txt mg) (D : Df K mg "is_whole" s_is_whole ["value"]) : Cal P w K mg base "is_whole" ["value"] 1 (sp_is_whole K) := by
  refine D.cal sc_is_whole (fun vs H Q E h => ?_) (fun f cdv A outer s H vs Q E hr h => ?_)
  · obtain ⟨i, rfl, _⟩ := h
    rfl
  obtain ⟨i, rfl, k⟩ := h
  refine ⟨_, (pss_one (ps_ret (pe_and (pe_callB call_isi (by rfl) T.n_isinstance (by decide +kernel) (pa_cons (pv 0) (pa_cons (pe_bltn (v := .ty "int") (by rfl) T.n_int (by decide +kernel) rfl) pa_nil))) (pe_one (pe_not (pe_callB call_isi (by rfl) T.n_isinstance (by decide +kernel) (pa_cons (pv 0) (pa_cons (pe_bltn (v := .ty "bool") (by rfl) T.n_bool (by decide +kernel) rfl) pa_nil)))))))), ?_⟩
  refine ⟨_, rfl, _, _, _, _, _, rfl, .ty "int", .base (.int _), kit_ty (b := "int") (r := true) (by decide +kernel), _, rfl, iteT ?_⟩
  refine ⟨_, rfl, _, _, _, _, _, rfl, .ty "bool", .base (.int _), kit_ty (b := "bool") (r := false) (by decide +kernel), _, rfl, k⟩
abbrev s_is_amount : Stmt := topS 4
abbrev N_is_amount : List Str := ["value"]
theorem sc_is_amount : FnScope N_is_amount ["value"] (defScope s_is_amount) := ⟨rfl, rfl, rfl, by decide +kernel, rfl, by decide +kernel, by decide +kernel⟩
theorem ok_is_amount (T : Txt mg) (D : Df K mg "is_amount" s_is_amount ["value"]) (C_is_whole : Cal P w K mg base "is_whole" ["value"] 1 (sp_is_whole K)) : Cal P w K mg base "is_amount" ["value"] 2 (sp_is_amount K) := by
  obtain ⟨f_is_whole, fd_is_whole, G_is_whole, m_is_whole, k_is_whole, b_is_whole⟩ := C_is_whole
  refine D.cal sc_is_amount (fun vs H Q E h => ?_) (fun f cdv A outer s H vs Q E hr h => ?_)
  · obtain ⟨i, rfl, _⟩ := h
    rfl
  obtain ⟨i, rfl, k⟩ := h
  refine ⟨_, (pss_one (ps_ret (pe_and (pe_call G_is_whole (hr.mono (by decide)) (by rfl) m_is_whole k_is_whole b_is_whole .nil pass0 (pa_cons (pv 0) pa_nil)) (pe_one (pe_cmpR op_ge (pv 0) pe_int (nomark _)))))), ?_⟩
  exact ⟨_, rfl, _, rfl, _, rfl, iteT ⟨_, rfl, _, _, rfl, rfl, k⟩⟩
abbrev s_told_error : Stmt := topS 12
abbrev N_told_error : List Str := ["table", "period", "rise", "at", "worth"]
theorem sc_told_error : FnScope N_told_error ["table", "period", "rise"] (defScope s_told_error) := ⟨rfl, rfl, rfl, by decide +kernel, rfl, by decide +kernel, by decide +kernel⟩
theorem ok_told_error (T : Txt mg) (D : Df K mg "told_error" s_told_error ["table", "period", "rise"]) (C_is_amount : Cal P w K mg base "is_amount" ["value"] 2 (sp_is_amount K)) (C_is_whole : Cal P w K mg base "is_whole" ["value"] 1 (sp_is_whole K)) : Cal P w K mg base "told_error" ["table", "period", "rise"] 3 (sp_told_error K) := by
  obtain ⟨f_is_amount, fd_is_amount, G_is_amount, m_is_amount, k_is_amount, b_is_amount⟩ := C_is_amount
  obtain ⟨f_is_whole, fd_is_whole, G_is_whole, m_is_whole, k_is_whole, b_is_whole⟩ := C_is_whole
  refine D.cal sc_told_error (fun vs H Q E h => ?_) (fun f cdv A outer s H vs Q E hr h => ?_)
  · obtain ⟨a, T0, p, r, rfl, _⟩ := h
    rfl
  obtain ⟨a, T0, p, r, rfl, hA, tl, kf, ke, kr⟩ := h
  have ll := len_int T0
  have lm : (T0.map V.int).length = T0.length := List.length_map ..
  rcases id hA with hS | hS
  ·
    refine ⟨_, (pss_cons (ps_if (PW.pt (pw_or (pt_not (pt_val (pe_call G_is_whole (hr.mono (by decide)) (by rfl) m_is_whole k_is_whole b_is_whole .nil pass0 (pa_cons (pv 1) pa_nil)))) (pw_or (pt_not (pt_chain op_le op_le pe_int (pv 1) (pe_callB call_len_seq (by rfl) T.n_len (by decide +kernel) (pa_cons (pv 0) pa_nil)))) (pw_or1 (pt_not (pt_val (pe_call G_is_amount (hr.mono (by decide)) (by rfl) m_is_amount k_is_amount b_is_amount .nil pass0 (pa_cons (pv 2) pa_nil)))))))) (pss_one (ps_ret pe_str)) pss_nil)
    (pss_cons (ps_if (pt_not (pt_val (pe_callB (cr_all rfl) (by rfl) T.n_all (by decide +kernel) (pa_cons (pe_lc (own := [("worth", 4)]) (g := gName 4) (tt := tYes) rfl sc_told_error.nd (pi_list (pv 0)) (blkOk_by (own := [("worth", 4)]) (N := N_told_error) (sc := defScope s_told_error) (by decide +kernel)) (fun _ _ _ _ _ => pg_name (i := 4) sc_told_error.nd rfl (Or.inl rfl)) (fun _ _ _ _ _ => pts_nil) (fun _ _ _ _ _ => (pe_call G_is_amount (hr.mono (by decide)) (by rfl) m_is_amount k_is_amount b_is_amount .nil pass0 (pa_cons (pv 4) pa_nil)))) pa_nil)))) (pss_one (ps_ret pe_str)) pss_nil)
    (pss_cons (ps_if (pt_val (pe_callB (cr_any rfl) (by rfl) T.n_any (by decide +kernel) (pa_cons (pe_lc (own := [("at", 3)]) (g := gName 3) (tt := tYes) rfl sc_told_error.nd (pi_range1 (by rfl) T.n_range (pa_cons (pe_op op_sub (pe_callB call_len_seq (by rfl) T.n_len (by decide +kernel) (pa_cons (pv 0) pa_nil)) pe_int) pa_nil)) (blkOk_by (own := [("at", 3)]) (N := N_told_error) (sc := defScope s_told_error) (by decide +kernel)) (fun _ _ _ _ _ => pg_name (i := 3) sc_told_error.nd rfl (Or.inl rfl)) (fun _ _ _ _ _ => pts_nil) (fun _ _ _ _ _ => (pe_cmpR op_gt (pe_ix (show IxR _ (rIx K) from ix_seq) (pv 0) (pv 3) (fun _ _ => rfl)) (pe_ix (show IxR _ (rIx K) from ix_seq) (pv 0) (pe_op op_add (pv 3) pe_int) (fun _ _ => rfl)) (nomark _)))) pa_nil))) (pss_one (ps_ret pe_str)) pss_nil)
    (pss_cons (ps_if (pt_cmpR op_gt (pe_ix ix_seq (pv 0) (pe_un un_neg pe_int) (fun _ _ => rfl)) (pe_op op_add (pe_ix ix_seq (pv 0) (pe_op op_sub (pe_callB call_len_seq (by rfl) T.n_len (by decide +kernel) (pa_cons (pv 0) pa_nil)) (pv 1)) (fun _ _ => rfl)) (pv 2)) (nomark _)) (pss_one (ps_ret pe_str)) pss_nil)
    (pss_one (ps_ret pe_non)))))), ?_⟩
    refine ⟨_, rfl, p, rfl, _, rfl, iteF ?_⟩
    refine ⟨_, rfl, _, _, rfl, rfl, _, rfl, ite3 (fun c1 => ?_) (fun c1 => ⟨_, rfl, iteT (kf H (Same.refl _) fun F => c1 F.1)⟩)⟩
    refine ⟨_, rfl, _, _, rfl, hA.sq, _, _, rfl, rfl, _, rfl, ite3n (fun c2 => ?_) (fun c2 => kf H (Same.refl _) fun F => c2 (by rw [ll]; exact F.2.1))⟩
    rw [ll] at c2
    refine ⟨_, rfl, r, rfl, _, rfl, ite3n (fun c3 => ?_) (fun c3 => kf H (Same.refl _) fun F => c3 F.2.2.1)⟩
    -- all
    refine ⟨_, rfl, a, rfl, ⟨_, SqL.of hS⟩, fun D nD => ?_⟩
    have sD := same_upd (o := .lst []) nD
    refine lc_list (K := K) (a := a) (xs := T0.map V.int) (fun j H' => Same H H' ∧ H' D = some (.lst (((T0.take j).map fun v => decide (v ≥ 0)).map V.bl))) ⟨sD, upd_same⟩ (fun j H' _ h => SqL.of (h.1 _ _ hS)) ?_ ?_
    · rintro j x H' hx ⟨s', hD⟩
      have hj : j < T0.length := by
        have := (List.getElem?_eq_some_iff.mp hx).1
        rw [lm] at this
        exact this
      have tk : T0.take (j + 1) = T0.take j ++ [T0.getD j 0] := by
        rw [List.take_add_one, List.getD_eq_getElem?_getD, List.getElem?_eq_getElem hj]
        rfl
      rw [get_int hj] at hx
      have hx := (Option.some.inj hx).symm
      subst hx
      refine ⟨rfl, ?_⟩
      unfold tYes
      refine iteT ?_
      refine ⟨_, rfl, _, rfl, _, hD, ?_, fun b o e => ?_, ?_⟩
      · rw [List.length_map, List.length_map, List.length_take]
        exact Nat.lt_of_le_of_lt (show min j T0.length ≤ 6000 by omega) (by decide)
      · rw [upd_ne (ne_of_none e nD)]
        exact s' _ _ e
      · rw [upd_same, tk, List.map_append, List.map_append]
        rfl
    rintro H1 ⟨s1, hD⟩
    rw [lm, List.take_length] at hD
    refine ⟨D, _, rfl, SqL.of hD, _, rfl, ?_⟩
    have hA1 := hA.same s1
    by_cases c4 : ∀ i, i < T0.length → 0 ≤ T0.getD i 0
    · rw [all_nn.mpr c4]
      refine iteF ?_
      have F : FormOk T0 p r := ⟨c1, c2, c3, c4⟩
      obtain ⟨q, rfl⟩ : ∃ q : Nat, p = (q : Int) := ⟨p.toNat, by omega⟩
      rw [Int.toNat_natCast] at kr ke
      -- any
      refine ⟨_, rfl, _, _, rfl, hA1.sq, _, _, rfl, rfl, _, rfl, (by rw [ll]; omega), (by rw [ll]; omega), fun U nU => ?_⟩
      have cnt : ((((T0.map V.int).length : Nat) : Int) - 1).toNat = T0.length - 1 := by rw [ll]; omega
      rw [cnt]
      have sU := same_upd (o := .lst []) nU
      refine lc_range (lo := 0) (n := T0.length - 1) (fun j H' => Same H1 H' ∧ H' U = some (.lst (((List.range j).map fun i => decide (T0.getD i 0 > T0.getD (i + 1) 0)).map V.bl))) ⟨sU, upd_same⟩ ?_ ?_
      · rintro j H' hj ⟨s', hU⟩
        refine ⟨rfl, ?_⟩
        unfold tYes
        refine iteT ?_
        refine ⟨_, rfl, _, rfl, ix_any (hA1.same s') (at_of (j := j) (Int.zero_add _) (get_int (by omega))) ⟨_, rfl, _, rfl, _, _, rfl, rfl, ix_any (hA1.same s') (at_of (j := j + 1) (by omega) (get_int (by omega))) ⟨_, _, rfl, rfl, _, hU, ?_, fun b o e => ?_, ?_⟩⟩⟩
        · rw [List.length_map, List.length_map, List.length_range]
          exact Nat.lt_of_le_of_lt (show j ≤ 6000 by omega) (by decide)
        · rw [upd_ne (ne_of_none e nU)]
          exact s' _ _ e
        · rw [upd_same, List.range_succ, List.map_append, List.map_append]
          rfl
      rintro H2 ⟨s2, hU⟩
      refine ⟨U, _, rfl, SqL.of hU, _, rfl, ?_⟩
      have hA2 := hA1.same s2
      have s12 := s1.trans s2
      by_cases c5 : ∀ i, i + 1 < T0.length → T0.getD i 0 ≤ T0.getD (i + 1) 0
      · rw [any_mono.mpr c5]
        refine iteF ?_
        have e1 : (((T0.map V.int).length : Nat) : Int) - (q : Int) = ((T0.length - q : Nat) : Int) := by rw [ll]; omega
        refine ⟨_, rfl, _, rfl, ix_any hA2 (last_int (by omega)) ⟨_, rfl, _, rfl, _, _, rfl, hA2.sq, _, rfl, _, _, rfl, rfl, ix_any hA2 (at_of e1 (get_int (by omega))) ⟨_, rfl, _, _, rfl, rfl, _, _, rfl, rfl, _, rfl, ite3 (fun c6 => ke H2 s12 F fun o => ?_) (fun c6 => kr H2 s12 F ⟨by omega, by omega, c3, c4, c5, by omega⟩)⟩⟩⟩
        have := o.wrap
        omega
      · rw [show (((List.range (T0.length - 1)).map fun i => decide (T0.getD i 0 > T0.getD (i + 1) 0)).any id) = true from by
          cases z : ((List.range (T0.length - 1)).map fun i => decide (T0.getD i 0 > T0.getD (i + 1) 0)).any id with
          | true => rfl
          | false => exact absurd (any_mono.mp z) c5]
        exact iteT (ke H2 s12 F fun o => c5 o.mono)
    · rw [show (((T0.map fun v => decide (v ≥ 0)).all id)) = false from by
        cases z : (T0.map fun v => decide (v ≥ 0)).all id with
        | false => rfl
        | true => exact absurd (all_nn.mp z) c4]
      exact iteT (kf H1 s1 fun F => c4 F.2.2.2)
  ·
    refine ⟨_, (pss_cons (ps_if (PW.pt (pw_or (pt_not (pt_val (pe_call G_is_whole (hr.mono (by decide)) (by rfl) m_is_whole k_is_whole b_is_whole .nil pass0 (pa_cons (pv 1) pa_nil)))) (pw_or (pt_not (pt_chain op_le op_le pe_int (pv 1) (pe_callB call_len_seq (by rfl) T.n_len (by decide +kernel) (pa_cons (pv 0) pa_nil)))) (pw_or1 (pt_not (pt_val (pe_call G_is_amount (hr.mono (by decide)) (by rfl) m_is_amount k_is_amount b_is_amount .nil pass0 (pa_cons (pv 2) pa_nil)))))))) (pss_one (ps_ret pe_str)) pss_nil)
    (pss_cons (ps_if (pt_not (pt_val (pe_callB (cr_all rfl) (by rfl) T.n_all (by decide +kernel) (pa_cons (pe_lc (own := [("worth", 4)]) (g := gName 4) (tt := tYes) rfl sc_told_error.nd (pi_tup (pv 0)) (blkOk_by (own := [("worth", 4)]) (N := N_told_error) (sc := defScope s_told_error) (by decide +kernel)) (fun _ _ _ _ _ => pg_name (i := 4) sc_told_error.nd rfl (Or.inl rfl)) (fun _ _ _ _ _ => pts_nil) (fun _ _ _ _ _ => (pe_call G_is_amount (hr.mono (by decide)) (by rfl) m_is_amount k_is_amount b_is_amount .nil pass0 (pa_cons (pv 4) pa_nil)))) pa_nil)))) (pss_one (ps_ret pe_str)) pss_nil)
    (pss_cons (ps_if (pt_val (pe_callB (cr_any rfl) (by rfl) T.n_any (by decide +kernel) (pa_cons (pe_lc (own := [("at", 3)]) (g := gName 3) (tt := tYes) rfl sc_told_error.nd (pi_range1 (by rfl) T.n_range (pa_cons (pe_op op_sub (pe_callB call_len_seq (by rfl) T.n_len (by decide +kernel) (pa_cons (pv 0) pa_nil)) pe_int) pa_nil)) (blkOk_by (own := [("at", 3)]) (N := N_told_error) (sc := defScope s_told_error) (by decide +kernel)) (fun _ _ _ _ _ => pg_name (i := 3) sc_told_error.nd rfl (Or.inl rfl)) (fun _ _ _ _ _ => pts_nil) (fun _ _ _ _ _ => (pe_cmpR op_gt (pe_ix (show IxR _ (rIx K) from ix_seq) (pv 0) (pv 3) (fun _ _ => rfl)) (pe_ix (show IxR _ (rIx K) from ix_seq) (pv 0) (pe_op op_add (pv 3) pe_int) (fun _ _ => rfl)) (nomark _)))) pa_nil))) (pss_one (ps_ret pe_str)) pss_nil)
    (pss_cons (ps_if (pt_cmpR op_gt (pe_ix ix_seq (pv 0) (pe_un un_neg pe_int) (fun _ _ => rfl)) (pe_op op_add (pe_ix ix_seq (pv 0) (pe_op op_sub (pe_callB call_len_seq (by rfl) T.n_len (by decide +kernel) (pa_cons (pv 0) pa_nil)) (pv 1)) (fun _ _ => rfl)) (pv 2)) (nomark _)) (pss_one (ps_ret pe_str)) pss_nil)
    (pss_one (ps_ret pe_non)))))), ?_⟩
    refine ⟨_, rfl, p, rfl, _, rfl, iteF ?_⟩
    refine ⟨_, rfl, _, _, rfl, rfl, _, rfl, ite3 (fun c1 => ?_) (fun c1 => ⟨_, rfl, iteT (kf H (Same.refl _) fun F => c1 F.1)⟩)⟩
    refine ⟨_, rfl, _, _, rfl, hA.sq, _, _, rfl, rfl, _, rfl, ite3n (fun c2 => ?_) (fun c2 => kf H (Same.refl _) fun F => c2 (by rw [ll]; exact F.2.1))⟩
    rw [ll] at c2
    refine ⟨_, rfl, r, rfl, _, rfl, ite3n (fun c3 => ?_) (fun c3 => kf H (Same.refl _) fun F => c3 F.2.2.1)⟩
    -- all
    refine ⟨_, rfl, a, rfl, ⟨_, SqT.of hS⟩, fun D nD => ?_⟩
    have sD := same_upd (o := .lst []) nD
    refine lc_tup (K := K) (a := a) (xs := T0.map V.int) (fun j H' => Same H H' ∧ H' D = some (.lst (((T0.take j).map fun v => decide (v ≥ 0)).map V.bl))) ⟨sD, upd_same⟩ (fun j H' _ h => SqT.of (h.1 _ _ hS)) ?_ ?_
    · rintro j x H' hx ⟨s', hD⟩
      have hj : j < T0.length := by
        have := (List.getElem?_eq_some_iff.mp hx).1
        rw [lm] at this
        exact this
      have tk : T0.take (j + 1) = T0.take j ++ [T0.getD j 0] := by
        rw [List.take_add_one, List.getD_eq_getElem?_getD, List.getElem?_eq_getElem hj]
        rfl
      rw [get_int hj] at hx
      have hx := (Option.some.inj hx).symm
      subst hx
      refine ⟨rfl, ?_⟩
      unfold tYes
      refine iteT ?_
      refine ⟨_, rfl, _, rfl, _, hD, ?_, fun b o e => ?_, ?_⟩
      · rw [List.length_map, List.length_map, List.length_take]
        exact Nat.lt_of_le_of_lt (show min j T0.length ≤ 6000 by omega) (by decide)
      · rw [upd_ne (ne_of_none e nD)]
        exact s' _ _ e
      · rw [upd_same, tk, List.map_append, List.map_append]
        rfl
    rintro H1 ⟨s1, hD⟩
    rw [lm, List.take_length] at hD
    refine ⟨D, _, rfl, SqL.of hD, _, rfl, ?_⟩
    have hA1 := hA.same s1
    by_cases c4 : ∀ i, i < T0.length → 0 ≤ T0.getD i 0
    · rw [all_nn.mpr c4]
      refine iteF ?_
      have F : FormOk T0 p r := ⟨c1, c2, c3, c4⟩
      obtain ⟨q, rfl⟩ : ∃ q : Nat, p = (q : Int) := ⟨p.toNat, by omega⟩
      rw [Int.toNat_natCast] at kr ke
      -- any
      refine ⟨_, rfl, _, _, rfl, hA1.sq, _, _, rfl, rfl, _, rfl, (by rw [ll]; omega), (by rw [ll]; omega), fun U nU => ?_⟩
      have cnt : ((((T0.map V.int).length : Nat) : Int) - 1).toNat = T0.length - 1 := by rw [ll]; omega
      rw [cnt]
      have sU := same_upd (o := .lst []) nU
      refine lc_range (lo := 0) (n := T0.length - 1) (fun j H' => Same H1 H' ∧ H' U = some (.lst (((List.range j).map fun i => decide (T0.getD i 0 > T0.getD (i + 1) 0)).map V.bl))) ⟨sU, upd_same⟩ ?_ ?_
      · rintro j H' hj ⟨s', hU⟩
        refine ⟨rfl, ?_⟩
        unfold tYes
        refine iteT ?_
        refine ⟨_, rfl, _, rfl, ix_any (hA1.same s') (at_of (j := j) (Int.zero_add _) (get_int (by omega))) ⟨_, rfl, _, rfl, _, _, rfl, rfl, ix_any (hA1.same s') (at_of (j := j + 1) (by omega) (get_int (by omega))) ⟨_, _, rfl, rfl, _, hU, ?_, fun b o e => ?_, ?_⟩⟩⟩
        · rw [List.length_map, List.length_map, List.length_range]
          exact Nat.lt_of_le_of_lt (show j ≤ 6000 by omega) (by decide)
        · rw [upd_ne (ne_of_none e nU)]
          exact s' _ _ e
        · rw [upd_same, List.range_succ, List.map_append, List.map_append]
          rfl
      rintro H2 ⟨s2, hU⟩
      refine ⟨U, _, rfl, SqL.of hU, _, rfl, ?_⟩
      have hA2 := hA1.same s2
      have s12 := s1.trans s2
      by_cases c5 : ∀ i, i + 1 < T0.length → T0.getD i 0 ≤ T0.getD (i + 1) 0
      · rw [any_mono.mpr c5]
        refine iteF ?_
        have e1 : (((T0.map V.int).length : Nat) : Int) - (q : Int) = ((T0.length - q : Nat) : Int) := by rw [ll]; omega
        refine ⟨_, rfl, _, rfl, ix_any hA2 (last_int (by omega)) ⟨_, rfl, _, rfl, _, _, rfl, hA2.sq, _, rfl, _, _, rfl, rfl, ix_any hA2 (at_of e1 (get_int (by omega))) ⟨_, rfl, _, _, rfl, rfl, _, _, rfl, rfl, _, rfl, ite3 (fun c6 => ke H2 s12 F fun o => ?_) (fun c6 => kr H2 s12 F ⟨by omega, by omega, c3, c4, c5, by omega⟩)⟩⟩⟩
        have := o.wrap
        omega
      · rw [show (((List.range (T0.length - 1)).map fun i => decide (T0.getD i 0 > T0.getD (i + 1) 0)).any id) = true from by
          cases z : ((List.range (T0.length - 1)).map fun i => decide (T0.getD i 0 > T0.getD (i + 1) 0)).any id with
          | true => rfl
          | false => exact absurd (any_mono.mp z) c5]
        exact iteT (ke H2 s12 F fun o => c5 o.mono)
    · rw [show (((T0.map fun v => decide (v ≥ 0)).all id)) = false from by
        cases z : (T0.map fun v => decide (v ≥ 0)).all id with
        | false => rfl
        | true => exact absurd (all_nn.mp z) c4]
      exact iteT (kf H1 s1 fun F => c4 F.2.2.2)
end
end Sm

set_option Elab.async false
set_option linter.all false
set_option maxRecDepth 100000
set_option maxHeartbeats 16000000
namespace Sm
open PySem PySem.Spec PyProof.Rows L2
open C8 (pss_cut tCut)
/-- rules within the bounds of what is compared -/
structure RF (T : List Int) (p : Nat) (r : Int) : Prop where
  len : T.length ≤ 300
  r1 : r ≤ 1000000000000000
  top : ∀ i, i < T.length → T.getD i 0 ≤ 1000000000000000
theorem RF.rb {T : List Int} {p : Nat} {r : Int} (b : RF T p r) : RB T p r :=
  ⟨by have := b.len; omega, by have := b.r1; omega, fun i hi => by have := b.top i hi; omega⟩
theorem RM.rf {M : Int} {T : List Int} {p : Nat} {r : Int} (b : RM M T p r) (h : M ≤ 1000000000000000) : RF T p r :=
  ⟨by have := b.len; omega, by have := b.r1; omega, fun i hi => by have := b.top i hi; omega⟩
def optV : Option Nat → V
  | none => .non
  | some x => .int (x : Int)
theorem vl_topW {T : List Int} {p : Nat} {r : Int} (o : RuleOk T p r) (b : RF T p r) : ∀ x : Nat, vl T p r x ≤ 1000000000000000 * ((x : Int) + 2) := by
  intro x
  induction x using Nat.strongRecOn with
  | _ x ih =>
    have p0 := o.p0
    have p1 := o.p1
    have r1 := b.r1
    by_cases q : x < T.length
    · rw [vl_lt q]
      have := b.top x q
      omega
    · rw [vl_step p0 o.p1 (by omega)]
      have := ih (x - p) (by have := o.p1; omega)
      omega
def vals (T : List Int) (p : Nat) (r : Int) (n : Nat) : List Int := (List.range n).map (vl T p r)
def sp_begin_of (_ : PySem.W.Frag) : Sp := fun vs H Q _ => ∃ (d : Addr) (T : List Int) (p : Nat) (r : Int), vs = [.ref d] ∧ RuleAt H d T p r ∧ p ≤ T.length ∧ Q (.int ((T.length - p : Nat) : Int)) H
def sp_rise_in (_ : PySem.W.Frag) : Sp := fun vs H Q _ => ∃ (d : Addr) (T : List Int) (p : Nat) (r : Int) (t : Nat), vs = [.ref d, .int (t : Int)] ∧ RuleAt H d T p r ∧ RuleW T p r ∧ RF T p r ∧ Q (.int (r * ((t / p : Nat) : Int))) H
def sp_common_turn (_ : PySem.W.Frag) : Sp := fun vs H Q _ => ∃ (d1 d2 : Addr) (T1 T2 : List Int) (p1 p2 : Nat) (r1 r2 : Int), vs = [.ref d1, .ref d2] ∧ RuleAt H d1 T1 p1 r1 ∧ RuleAt H d2 T2 p2 r2 ∧ p1 ≤ T1.length ∧ p2 ≤ T2.length ∧ p1 ≤ 40 ∧ p2 ≤ 40 ∧
  ∀ H' q, Same H H' → H' q = some (.tup [.int ((max (T1.length - p1) (T2.length - p2) : Nat) : Int), .int ((Nat.lcm p1 p2 : Nat) : Int)]) → Q (.ref q) H'
def sp_values_to (_ : PySem.W.Frag) : Sp := fun vs H Q _ => ∃ (d : Addr) (T : List Int) (p : Nat) (r : Int) (n : Nat), vs = [.ref d, .int (n : Int)] ∧ RuleAt H d T p r ∧ RuleW T p r ∧ RF T p r ∧ n ≤ 5000 ∧
  ∀ H' q, Same H H' → (∀ b o, H b = some o → b ≠ q) → H' q = some (.lst ((vals T p r n).map V.int)) → Q (.ref q) H'
def sp_first_above (_ : PySem.W.Frag) : Sp := fun vs H Q _ => ∃ (d1 d2 : Addr) (T1 T2 : List Int) (p1 p2 : Nat) (r1 r2 : Int), vs = [.ref d1, .ref d2] ∧ RuleAt H d1 T1 p1 r1 ∧ RuleAt H d2 T2 p2 r2 ∧ RuleOk T1 p1 r1 ∧ RuleOk T2 p2 r2 ∧ RF T1 p1 r1 ∧ RF T2 p2 r2 ∧ p1 ≤ 40 ∧ p2 ≤ 40 ∧
  ∀ H' o, Same H H' → IsFst T1 p1 r1 T2 p2 r2 o → (∀ x, o = some x → x ≤ 1000000000000000000000000000000) → Q (optV o) H'
section
variable {X : Cx}
theorem cr_lcm : CallR X (.builtin "math.lcm") (fun vs H Q => ∃ a b : Nat, vs = [.int (a : Int), .int (b : Int)] ∧ a < 1000000 ∧ b < 1000000 ∧ Q (.int ((Nat.lcm a b : Nat) : Int)) H) := by
  intro pins s σ H vs us Q I r h
  obtain ⟨a, b, rfl, ha, hb, q⟩ := h
  obtain ⟨t, u, rfl⟩ := Vals.int2 r
  refine PySem.W.mc_lcm (by omega) (by omega) fun _ => ?_
  rw [Int.natAbs_natCast, Int.natAbs_natCast]
  exact ⟨.int _, H, I.tok _, ⟨_, rfl⟩, q⟩
end
theorem vals_len (T : List Int) (p : Nat) (r : Int) (n : Nat) : (vals T p r n).length = n := by unfold vals; rw [List.length_map, List.length_range]
theorem vals_get {T : List Int} {p : Nat} {r : Int} {n i : Nat} (h : i < n) : ((vals T p r n).map V.int)[i]? = some (.int (vl T p r i)) := by
  unfold vals
  rw [List.getElem?_map, List.getElem?_map, List.getElem?_range h]
  rfl
theorem vals_take {T : List Int} {p : Nat} {r : Int} {n : Nat} (h : n ≤ T.length) : T.take n = vals T p r n := by
  refine List.ext_getElem? fun i => ?_
  unfold vals
  by_cases q : i < n
  · rw [List.getElem?_take_of_lt q, List.getElem?_map, List.getElem?_range q, List.getElem?_eq_getElem (by omega)]
    show some _ = some (vl T p r i)
    rw [vl_lt (by omega), List.getD_eq_getElem?_getD, List.getElem?_eq_getElem (by omega)]
    rfl
  · rw [List.getElem?_eq_none (by rw [List.length_take]; omega), List.getElem?_eq_none (by rw [List.length_map, List.length_range]; omega)]
theorem vals_succ {T : List Int} {p : Nat} {r : Int} {n : Nat} : vals T p r (n + 1) = vals T p r n ++ [vl T p r n] := by
  unfold vals
  rw [List.range_succ, List.map_append]
  rfl
section
variable {P : Program} {w : World} {K : PySem.W.Frag} {mg : Str → Option Value} {base : Heap}
abbrev s_begin_of : Stmt := topS 23
abbrev N_begin_of : List Str := ["rule"]
theorem sc_begin_of : FnScope N_begin_of ["rule"] (defScope s_begin_of) := ⟨rfl, rfl, rfl, by decide +kernel, rfl, by decide +kernel, by decide +kernel⟩
theorem ok_begin_of (T : Txt mg) (D : Df K mg "begin_of" s_begin_of ["rule"]) : Cal P w K mg base "begin_of" ["rule"] 1 (sp_begin_of K) := by
  refine D.cal sc_begin_of (fun vs H Q E h => ?_) (fun f cdv A outer s H vs Q E hr h => ?_)
  · obtain ⟨d, T0, p, r, rfl, _⟩ := h
    rfl
  obtain ⟨d, T0, p, r, rfl, ⟨t, hd, ht⟩, p1, k⟩ := h
  refine ⟨_, (pss_one (ps_ret (pe_op op_sub (pe_callB call_len_seq (by rfl) T.n_len (by decide +kernel) (pa_cons (pe_ix ix_tup (pv 0) pe_int (fun _ _ => rfl)) pa_nil)) (pe_ix ix_tup (pv 0) pe_int (fun _ _ => rfl))))), ?_⟩
  refine ⟨_, rfl, _, _, _, _, rfl, rfl, SqT.of hd, atI_nat (j := 0) rfl, _, _, rfl, .inr (SqT.of ht), _, rfl, _, _, _, _, rfl, rfl, SqT.of hd, atI_nat (j := 1) rfl, _, _, rfl, rfl, ?_⟩
  have e : (((T0.map V.int).length : Nat) : Int) - (p : Int) = ((T0.length - p : Nat) : Int) := by rw [len_int]; omega
  have k := k
  rw [← e] at k
  exact k
abbrev s_rise_in : Stmt := topS 24
abbrev N_rise_in : List Str := ["rule", "turn"]
theorem sc_rise_in : FnScope N_rise_in ["rule", "turn"] (defScope s_rise_in) := ⟨rfl, rfl, rfl, by decide +kernel, rfl, by decide +kernel, by decide +kernel⟩
theorem ok_rise_in (T : Txt mg) (D : Df K mg "rise_in" s_rise_in ["rule", "turn"]) : Cal P w K mg base "rise_in" ["rule", "turn"] 1 (sp_rise_in K) := by
  refine D.cal sc_rise_in (fun vs H Q E h => ?_) (fun f cdv A outer s H vs Q E hr h => ?_)
  · obtain ⟨d, T0, p, r, t, rfl, _⟩ := h
    rfl
  obtain ⟨d, T0, p, r, n, rfl, ⟨t, hd, ht⟩, o, b, k⟩ := h
  refine ⟨_, (pss_one (ps_ret (pe_op op_mul (pe_ix ix_tup (pv 0) pe_int (fun _ _ => rfl)) (pe_op op_fdivW (pv 1) (pe_ix ix_tup (pv 0) pe_int (fun _ _ => rfl)))))), ?_⟩
  exact ⟨_, rfl, _, _, _, _, rfl, rfl, SqT.of hd, atI_nat (j := 2) rfl, _, rfl, _, rfl, _, _, _, _, rfl, rfl, SqT.of hd, atI_nat (j := 1) rfl, _, _, rfl, rfl, b.rb.div o, _, _, rfl, rfl, b.rb.mulR' o, k⟩
abbrev s_common_turn : Stmt := topS 25
abbrev N_common_turn : List Str := ["one", "other"]
theorem sc_common_turn : FnScope N_common_turn ["one", "other"] (defScope s_common_turn) := ⟨rfl, rfl, rfl, by decide +kernel, rfl, by decide +kernel, by decide +kernel⟩
theorem ok_common_turn (T : Txt mg) (D : Df K mg "common_turn" s_common_turn ["one", "other"]) (C_begin_of : Cal P w K mg base "begin_of" ["rule"] 1 (sp_begin_of K)) : Cal P w K mg base "common_turn" ["one", "other"] 2 (sp_common_turn K) := by
  obtain ⟨f_begin_of, fd_begin_of, G_begin_of, m_begin_of, k_begin_of, b_begin_of⟩ := C_begin_of
  refine D.cal sc_common_turn (fun vs H Q E h => ?_) (fun f cdv A outer s H vs Q E hr h => ?_)
  · obtain ⟨d1, d2, T1, T2, p1, p2, r1, r2, rfl, _⟩ := h
    rfl
  obtain ⟨d1, d2, T1, T2, p1, p2, r1, r2, rfl, R1, R2, l1, l2, b1, b2, k⟩ := h
  obtain ⟨t1, hd1, ht1⟩ := id R1
  obtain ⟨t2, hd2, ht2⟩ := id R2
  refine ⟨_, (pss_one (ps_ret (pe_tup (pa_cons (pe_callB (call_max2 rfl) (by rfl) T.n_max (by decide +kernel) (pa_cons (pe_call G_begin_of (hr.mono (by decide)) (by rfl) m_begin_of k_begin_of b_begin_of .nil pass0 (pa_cons (pv 0) pa_nil)) (pa_cons (pe_call G_begin_of (hr.mono (by decide)) (by rfl) m_begin_of k_begin_of b_begin_of .nil pass0 (pa_cons (pv 1) pa_nil)) pa_nil))) (pa_cons (pe_callBfun cr_lcm (by rfl) T.g_lcm (pa_cons (pe_ix ix_tup (pv 0) pe_int (fun _ _ => rfl)) (pa_cons (pe_ix ix_tup (pv 1) pe_int (fun _ _ => rfl)) pa_nil))) pa_nil))))), ?_⟩
  refine ⟨_, rfl, d1, T1, p1, r1, rfl, R1, l1, _, rfl, d2, T2, p2, r2, rfl, R2, l2, _, _, rfl, ?_⟩
  refine ⟨_, rfl, _, _, _, _, rfl, rfl, SqT.of hd1, atI_nat (j := 1) rfl, _, rfl, _, _, _, _, rfl, rfl, SqT.of hd2, atI_nat (j := 1) rfl, p1, p2, rfl, by omega, by omega, (by show 2 ≤ sizeLine; decide), fun q nq => ?_⟩
  have e : (if ((T2.length - p2 : Nat) : Int) > ((T1.length - p1 : Nat) : Int) then ((T2.length - p2 : Nat) : Int) else ((T1.length - p1 : Nat) : Int)) = ((max (T1.length - p1) (T2.length - p2) : Nat) : Int) := by
    split <;> omega
  refine k _ q (same_upd nq) ?_
  rw [← e]
  exact upd_same
abbrev s_values_to : Stmt := topS 19
abbrev N_values_to : List Str := ["rule", "count", "table", "period", "rise", "values", "x"]
theorem sc_values_to : FnScope N_values_to ["rule", "count"] (defScope s_values_to) := ⟨rfl, rfl, rfl, by decide +kernel, rfl, by decide +kernel, by decide +kernel⟩
theorem ok_values_to (T : Txt mg) (D : Df K mg "values_to" s_values_to ["rule", "count"]) : Cal P w K mg base "values_to" ["rule", "count"] 1 (sp_values_to K) := by
  refine D.cal sc_values_to (fun vs H Q E h => ?_) (fun f cdv A outer s H vs Q E hr h => ?_)
  · obtain ⟨d, T0, p, r, n, rfl, _⟩ := h
    rfl
  obtain ⟨d, T0, p, r, n, rfl, ⟨t, hd, ht⟩, o, b, nb, k⟩ := h
  have p0 := o.p0
  have p1 := o.p1
  have bl := b.len
  have ll := len_int T0
  have lm : (T0.map V.int).length = T0.length := List.length_map ..
  refine ⟨_, (pss_cons (ps_asg (pv 0) (pg_tup (by rfl) (pgs_cons (pg_name (i := 2) sc_values_to.nd rfl (Or.inl rfl)) (pgs_cons (pg_name (i := 3) sc_values_to.nd rfl (Or.inl rfl)) (pgs_cons (pg_name (i := 4) sc_values_to.nd rfl (Or.inl rfl)) pgs_nil)))))
    (pss_cut (ps_set (i := 5) sc_values_to.nd rfl (Or.inl rfl) (pe_callTy call_list_of (by rfl) T.n_list (by decide +kernel) (pa_cons (pe_slice sl_tupA (pv 2) po_none (po_some (pv 1))) pa_nil)))
    (pss_cons (ps_for PassesOwn.never rfl (pi_range2 (by rfl) T.n_range (pa_cons (pe_callB call_len_seq (by rfl) T.n_len (by decide +kernel) (pa_cons (pv 2) pa_nil)) (pa_cons (pv 1) pa_nil))) (pg_name (i := 6) sc_values_to.nd rfl (Or.inl rfl))
      (pss_one (ps_expr (pe_bm PySem.F.plainAttrs_list PySem.F.slot_list_append PySem.F.type_list_append mt_append (pv 5) (pa_cons (pe_op op_add (pe_ix ix_list (pv 5) (pe_op op_sub (pv 6) (pv 3)) (fun _ _ => rfl)) (pv 4)) pa_nil)))))
    (pss_one (ps_ret (pv 5)))))), ?_⟩
  refine ⟨_, rfl, _, _, rfl, SqT.of hd, rfl, _, _, rfl, _, _, rfl, _, _, rfl, rfl, ?_⟩
  refine ⟨fun σ H1 => ∃ q, σ = [some (.ref d), some (.int (n : Int)), some (.ref t), some (.int (p : Int)), some (.int r), some (.ref q), none] ∧ Same H H1 ∧ (∀ b o, H b = some o → b ≠ q) ∧ H1 q = some (.lst ((vals T0 p r (min n T0.length)).map V.int)), ?_, ?_⟩
  · have tk : (T0.map V.int).take n = (vals T0 p r (min n T0.length)).map V.int := by
      rw [← vals_take (Nat.min_le_right ..), ← List.map_take]
      congr 1
      rcases Nat.le_total n T0.length with h | h
      · rw [Nat.min_eq_left h]
      · rw [Nat.min_eq_right h, List.take_length, List.take_of_length_le h]
    refine ⟨_, rfl, _, rfl, _, rfl, _, _, rfl, SqT.of ht, fun wh => ?_, fun _ q1 nq1 => ?_⟩
    · have w2 : (T0.map V.int).take n = T0.map V.int := by
        have := wh.2
        rw [HT.sIx_nat] at this
        exact List.take_of_length_le (by omega)
      refine ⟨_, _, rfl, .inr (SqT.of ht), fun q nq => ⟨q, rfl, same_upd nq, fun b o h => ne_of_none h nq, ?_⟩⟩
      rw [upd_same, ← w2, tk]
    · have s1 := same_upd (o := .tup (cutV (T0.map V.int) none (some (n : Int)))) nq1
      refine ⟨_, _, rfl, .inr (SqT.of upd_same), fun q nq => ⟨q, rfl, s1.trans (same_upd nq), fun b o h => ne_of_none (s1 _ _ h) nq, ?_⟩⟩
      rw [upd_same, cut_all, tk]
  · rintro σ H1 ⟨q, rfl, s1, ne, hq⟩
    have ht1 := s1 _ _ ht
    refine ⟨_, rfl, _, _, rfl, .inr (SqT.of ht1), _, rfl, _, _, rfl, ⟨by rw [ll]; omega, by rw [ll]; omega, by omega, by omega⟩, ?_⟩
    refine for_range (lo := _) (n := _) (fun i σ H2 => ∃ v, σ = [some (.ref d), some (.int (n : Int)), some (.ref t), some (.int (p : Int)), some (.int r), some (.ref q), v] ∧ Same H H2 ∧ H2 q = some (.lst ((vals T0 p r (min n T0.length + i)).map V.int)))
      ⟨none, rfl, s1, hq⟩ ?_ ?_
    · rintro i σ H2 hi ⟨v, rfl, s2, hq2⟩
      rw [ll] at hi
      have hi : T0.length + i < n := by omega
      have em : min n T0.length = T0.length := by omega
      rw [em] at hq2 ⊢
      have e1 : (((T0.map V.int).length : Nat) : Int) + (i : Int) - (p : Int) = ((T0.length + i - p : Nat) : Int) := by rw [ll]; omega
      refine ⟨_, rfl, .inl ⟨rfl, _, SqL.of hq2⟩, _, rfl, _, rfl, _, rfl, _, _, rfl, rfl, _, _, _, _, rfl, rfl, SqL.of hq2, at_of e1 (vals_get (by omega)), _, rfl, _, _, rfl, rfl, q, _, _, rfl, rfl, hq2, ?_, _, rfl, fun b o h => ?_, ?_⟩
      · rw [List.length_map, vals_len]
        exact Nat.lt_of_le_of_lt (show T0.length + i ≤ 5000 by omega) (by decide)
      · rw [upd_ne (ne b o h)]
        exact s2 _ _ h
      · rw [upd_same, ← Nat.add_assoc, vals_succ, List.map_append, vl_step (x := T0.length + i) p0 p1 (by omega)]
        rfl
    · rintro σ H2 ⟨v, rfl, s2, hq2⟩
      refine ⟨_, rfl, k H2 q s2 ne ?_⟩
      rw [hq2, ll]
      congr 4
      omega
abbrev s_first_above : Stmt := topS 22
abbrev N_first_above : List Str := ["one", "other", "begin", "turn", "left", "right", "x", "gain"]
theorem sc_first_above : FnScope N_first_above ["one", "other"] (defScope s_first_above) := ⟨rfl, rfl, rfl, by decide +kernel, rfl, by decide +kernel, by decide +kernel⟩
theorem ok_first_above (T : Txt mg) (D : Df K mg "first_above" s_first_above ["one", "other"]) (C_rise_in : Cal P w K mg base "rise_in" ["rule", "turn"] 1 (sp_rise_in K)) (C_values_to : Cal P w K mg base "values_to" ["rule", "count"] 1 (sp_values_to K)) (C_common_turn : Cal P w K mg base "common_turn" ["one", "other"] 2 (sp_common_turn K)) : Cal P w K mg base "first_above" ["one", "other"] 3 (sp_first_above K) := by
  obtain ⟨f_rise_in, fd_rise_in, G_rise_in, m_rise_in, k_rise_in, b_rise_in⟩ := C_rise_in
  obtain ⟨f_values_to, fd_values_to, G_values_to, m_values_to, k_values_to, b_values_to⟩ := C_values_to
  obtain ⟨f_common_turn, fd_common_turn, G_common_turn, m_common_turn, k_common_turn, b_common_turn⟩ := C_common_turn
  refine D.cal sc_first_above (fun vs H Q E h => ?_) (fun f cdv A outer s H vs Q E hr h => ?_)
  · obtain ⟨d1, d2, T1, T2, p1, p2, r1, r2, rfl, _⟩ := h
    rfl
  obtain ⟨d1, d2, T1, T2, p1, p2, r1, r2, rfl, R1, R2, o1, o2, b1, b2, c1, c2, k⟩ := h
  have w1 := o1.w
  have w2 := o2.w
  have l1 := w1.p1
  have l2 := w2.p1
  have z1 := w1.p0
  have z2 := w2.p0
  have bl1 := b1.len
  have bl2 := b2.len
  -- the common turn
  obtain ⟨ka, hka⟩ := Nat.dvd_lcm_left p1 p2
  obtain ⟨kb, hkb⟩ := Nat.dvd_lcm_right p1 p2
  have lcm0 : 0 < Nat.lcm p1 p2 := Nat.lcm_pos z1 z2
  have lcm1 : Nat.lcm p1 p2 ≤ 1600 := by
    have h1 : Nat.lcm p1 p2 ≤ p1 * p2 := PySem.W.mc_lcm_le p1 p2
    have h2 : p1 * p2 ≤ 40 * 40 := Nat.mul_le_mul c1 c2
    omega
  have da : Nat.lcm p1 p2 / p1 = ka := by rw [hka]; exact Nat.mul_div_cancel_left ka z1
  have db : Nat.lcm p1 p2 / p2 = kb := by rw [hkb]; exact Nat.mul_div_cancel_left kb z2
  have ea : ka * p1 = Nat.lcm p1 p2 := by rw [Nat.mul_comm]; exact hka.symm
  have eb : kb * p2 = Nat.lcm p1 p2 := by rw [Nat.mul_comm]; exact hkb.symm
  have ka1 : ka ≤ 1600 := Nat.le_trans (by rw [← da]; exact Nat.div_le_self _ _) lcm1
  have kb1 : kb ≤ 1600 := Nat.le_trans (by rw [← db]; exact Nat.div_le_self _ _) lcm1
  have turn0 : ∀ x, max (T1.length - p1) (T2.length - p2) ≤ x → gp T1 p1 r1 T2 p2 r2 (x + ka * p1) = gp T1 p1 r1 T2 p2 r2 x + ((ka : Int) * r1 - (kb : Int) * r2) := fun x hx => gp_turn w1 w2 (by omega) (by omega) (ea.trans eb.symm) hx
  rw [ea] at turn0
  refine ⟨_, (pss_cons (ps_asg (pe_call G_common_turn (hr.mono (by decide)) (by rfl) m_common_turn k_common_turn b_common_turn .nil pass0 (pa_cons (pv 0) (pa_cons (pv 1) pa_nil))) (pg_tup (by rfl) (pgs_cons (pg_name (i := 2) sc_first_above.nd rfl (Or.inl rfl)) (pgs_cons (pg_name (i := 3) sc_first_above.nd rfl (Or.inr rfl)) pgs_nil))))
    (pss_cons (ps_set (i := 4) sc_first_above.nd rfl (Or.inr rfl) (pe_call G_values_to (hr.mono (by decide)) (by rfl) m_values_to k_values_to b_values_to .nil pass0 (pa_cons (pv 0) (pa_cons (pe_op op_add (pv 2) (pv 3)) pa_nil))))
    (pss_cons (ps_set (i := 5) sc_first_above.nd rfl (Or.inr rfl) (pe_call G_values_to (hr.mono (by decide)) (by rfl) m_values_to k_values_to b_values_to .nil pass0 (pa_cons (pv 1) (pa_cons (pe_op op_add (pv 2) (pv 3)) pa_nil))))
    (pss_cons (ps_for PassesOwn.never rfl (pi_range1 (by rfl) T.n_range (pa_cons (pe_op op_add (pv 2) (pv 3)) pa_nil)) (pg_name (i := 6) sc_first_above.nd rfl (Or.inl rfl))
      (pss_one (ps_if (pt_cmpR op_gt (pe_ix ix_list (pv 4) (pv 6) (fun _ _ => rfl)) (pe_ix ix_list (pv 5) (pv 6) (fun _ _ => rfl)) (nomark _)) (pss_one (ps_ret (pv 6))) pss_nil)))
    (pss_cons (ps_set (i := 7) sc_first_above.nd rfl (Or.inr rfl) (pe_op op_sub (pe_call G_rise_in (hr.mono (by decide)) (by rfl) m_rise_in k_rise_in b_rise_in .nil pass0 (pa_cons (pv 0) (pa_cons (pv 3) pa_nil))) (pe_call G_rise_in (hr.mono (by decide)) (by rfl) m_rise_in k_rise_in b_rise_in .nil pass0 (pa_cons (pv 1) (pa_cons (pv 3) pa_nil)))))
    (pss_cons (ps_if (pt_cmpR op_le (pv 7) pe_int (nomark _)) (pss_one (ps_ret pe_non)) pss_nil)
    (pss_one (ps_ret (pe_callB (cr_min rfl) (by rfl) T.n_min (by decide +kernel) (pa_cons (pe_lc (own := [("x", 6)]) (g := gName 6) (tt := tYes) rfl sc_first_above.nd (pi_range2 (by rfl) T.n_range (pa_cons (pv 2) (pa_cons (pe_op op_add (pv 2) (pv 3)) pa_nil))) (blkOk_by (own := [("x", 6)]) (N := N_first_above) (sc := defScope s_first_above) (by decide +kernel)) (fun _ _ _ _ _ => pg_name (i := 6) sc_first_above.nd rfl (Or.inl rfl)) (fun _ _ _ _ _ => pts_nil) (fun _ _ _ _ _ => (pe_op op_add (pv 6) (pe_op op_mul (pv 3) (pe_op op_add (pe_op op_fdivW (pe_op op_sub (pe_ix (show IxR _ (rIxL K) from ix_list) (pv 5) (pv 6) (fun _ _ => rfl)) (pe_ix (show IxR _ (rIxL K) from ix_list) (pv 4) (pv 6) (fun _ _ => rfl))) (pv 7)) pe_int))))) pa_nil)))))))))), ?_⟩
  refine ⟨_, rfl, _, rfl, d1, d2, T1, T2, p1, p2, r1, r2, rfl, R1, R2, l1, l2, c1, c2, fun H1 q1 s1 hq1 => ?_⟩
  refine ⟨_, _, rfl, SqT.of hq1, rfl, _, _, rfl, _, _, rfl, rfl, ?_⟩
  generalize hB : max (T1.length - p1) (T2.length - p2) = B at turn0
  generalize hL : Nat.lcm p1 p2 = t at lcm0 lcm1 turn0 da db
  have Bb : B ≤ 300 := by omega
  -- left, right
  refine ⟨_, rfl, _, rfl, _, rfl, _, _, rfl, rfl, d1, T1, p1, r1, B + t, rfl, R1.same s1, w1, b1, by omega, fun H2 L s2 nL hL2 => ?_⟩
  refine ⟨_, rfl, _, rfl, _, rfl, _, _, rfl, rfl, d2, T2, p2, r2, B + t, rfl, (R2.same s1).same s2, w2, b2, by omega, fun H3 M s3 nM hM => ?_⟩
  have hL3 := s3 _ _ hL2
  have s := s1.trans (s2.trans s3)
  have gx : ∀ x : Nat, vl T1 p1 r1 x - vl T2 p2 r2 x = gp T1 p1 r1 T2 p2 r2 x := fun _ => rfl
  -- the first amounts
  refine ⟨_, rfl, _, rfl, _, _, rfl, rfl, _, rfl, (by omega), (by omega), ?_⟩
  refine for_range (lo := 0) (n := _) (fun i σ H' => H' = H3 ∧ ∃ v, σ = [some (.ref d1), some (.ref d2), some (.int (B : Int)), some (.int (t : Int)), some (.ref L), some (.ref M), v, none] ∧ ∀ x, x < i → gp T1 p1 r1 T2 p2 r2 x ≤ 0)
    ⟨rfl, none, rfl, fun x hx => absurd hx (Nat.not_lt_zero _)⟩ ?_ ?_
  · rintro i σ H' hi ⟨rfl, v, rfl, early⟩
    have hi : i < B + t := by omega
    refine ⟨_, rfl, _, rfl, _, _, _, _, rfl, rfl, SqL.of hL3, at_of (Int.zero_add _) (vals_get hi), _, rfl, _, rfl, _, _, _, _, rfl, rfl, SqL.of hM, at_of (Int.zero_add _) (vals_get hi), _, _, rfl, rfl, _, rfl, ite3 (fun e => ?_) (fun e => ?_)⟩
    · have q := k H' (some i) s ⟨by unfold gp; omega, early⟩ (fun x hx => by have := Option.some.inj hx; omega)
      have zi : (0 : Int) + (i : Int) = (i : Int) := Int.zero_add _
      refine ⟨_, rfl, ?_⟩
      rw [zi]
      exact q
    · refine ⟨rfl, _, rfl, fun x hx => ?_⟩
      by_cases q : x = i
      · rw [q]
        unfold gp
        omega
      · exact early x (by omega)
  rintro σ H' ⟨rfl, v, rfl, early⟩
  have early : ∀ x, x < B + t → gp T1 p1 r1 T2 p2 r2 x ≤ 0 := fun x hx => early x (by omega)
  have R1' := R1.same s
  have R2' := R2.same s
  -- gain
  refine ⟨_, rfl, _, rfl, d1, T1, p1, r1, t, rfl, R1', w1, b1, ?_⟩
  refine ⟨_, rfl, _, rfl, d2, T2, p2, r2, t, rfl, R2', w2, b2, _, _, rfl, rfl, ?_⟩
  rw [da, db]
  have gg : r1 * (ka : Int) - r2 * (kb : Int) = (ka : Int) * r1 - (kb : Int) * r2 := by rw [Int.mul_comm r1, Int.mul_comm r2]
  have gtop : (ka : Int) * r1 ≤ 1600 * 1000000000000000 := Int.mul_le_mul (by omega) b1.r1 w1.r0 (by decide)
  have gbot : 0 ≤ (kb : Int) * r2 := Int.mul_nonneg (by omega) w2.r0
  generalize hg : (ka : Int) * r1 - (kb : Int) * r2 = g at turn0 gg
  have gb : g < 10000000000000000000 := by omega
  refine ⟨_, rfl, _, _, rfl, rfl, _, rfl, ite3 (fun e => ?_) (fun e => ?_)⟩
  · have e : r1 * (ka : Int) - r2 * (kb : Int) ≤ 0 := e
    exact k H' none s (none_of lcm0 turn0 (by omega) early) (fun x hx => nomatch hx)
  · have e : ¬ r1 * (ka : Int) - r2 * (kb : Int) ≤ 0 := e
    have g0 : 0 < g := by omega
    refine ⟨_, rfl, _, rfl, _, rfl, _, _, rfl, rfl, _, _, rfl, ⟨by omega, by omega, by omega, by omega⟩, fun U nU => ?_⟩
    have sU := same_upd (o := .lst []) nU
    have cnt : ((B : Int) + (t : Int) - (B : Int)).toNat = t := by omega
    rw [cnt]
    refine lc_range (lo := (B : Int)) (n := t) (fun j H2 => Same H' H2 ∧ H2 U = some (.lst (((List.range j).map fun i => ((B + i : Nat) : Int) + (t : Int) * ((-gp T1 p1 r1 T2 p2 r2 (B + i)) / g + 1)).map V.int))) ⟨sU, upd_same⟩ ?_ ?_
    · rintro j H2 hj ⟨sm', hU⟩
      refine ⟨rfl, ?_⟩
      unfold tYes
      refine iteT ?_
      have nn : vl T2 p2 r2 (B + j) - vl T1 p1 r1 (B + j) = -gp T1 p1 r1 T2 p2 r2 (B + j) := by unfold gp; omega
      refine ⟨_, rfl, _, rfl, _, rfl, _, rfl, _, _, _, _, rfl, rfl, SqL.of (sm' _ _ hM), at_of (j := B + j) rfl (vals_get (by omega)), _, rfl, _, rfl, _, _, _, _, rfl, rfl, SqL.of (sm' _ _ hL3), at_of (j := B + j) rfl (vals_get (by omega)), _, _, rfl, rfl, _, rfl, _, _, rfl, rfl, wide_div (b := 64) (by rw [gg]; exact g0) (by rw [gg]; omega) (by decide) (by decide), _, _, rfl, rfl, _, _, rfl, rfl, .inl ⟨by omega, by omega⟩, _, _, rfl, rfl, _, hU, ?_, fun b o e => ?_, ?_⟩
      · rw [List.length_map, List.length_map, List.length_range]
        exact Nat.lt_of_le_of_lt (show j ≤ 1600 by omega) (by decide)
      · rw [upd_ne (ne_of_none e nU)]
        exact sm' _ _ e
      · rw [upd_same, List.range_succ, List.map_append, List.map_append]
        show some (HO.lst (_ ++ [V.int ((B : Int) + (j : Int) + (t : Int) * ((vl T2 p2 r2 (B + j) - vl T1 p1 r1 (B + j)) / (r1 * (ka : Int) - r2 * (kb : Int)) + 1))])) = _
        rw [gg, nn]
        rfl
    · rintro H2 ⟨s2', hU⟩
      refine ⟨_, _, rfl, SqL.of hU, by rw [List.length_map, List.length_range]; exact lcm0, fun m hm hle => ?_⟩
      obtain ⟨i, hi, rfl⟩ := List.mem_map.mp hm
      have hi := List.mem_range.mp hi
      have q0 : 0 ≤ (-gp T1 p1 r1 T2 p2 r2 (B + i)) / g := Int.ediv_nonneg (by have := early (B + i) (by omega); omega) (by omega)
      have m0 : 0 ≤ ((B + i : Nat) : Int) + (t : Int) * ((-gp T1 p1 r1 T2 p2 r2 (B + i)) / g + 1) := Int.add_nonneg (by omega) (Int.mul_nonneg (by omega) (by omega))
      obtain ⟨m, em⟩ : ∃ m : Nat, ((B + i : Nat) : Int) + (t : Int) * ((-gp T1 p1 r1 T2 p2 r2 (B + i)) / g + 1) = (m : Int) := ⟨_, (Int.toNat_of_nonneg m0).symm⟩
      rw [em] at hle ⊢
      refine k H2 (some m) (s.trans s2') (some_of lcm0 turn0 g0 early ⟨B + i, by omega, by omega, em.symm⟩ fun x h1 h2 => ?_) (fun x hx => ?_)
      rotate_left
      · have hx := Option.some.inj hx
        have g1 : -gp T1 p1 r1 T2 p2 r2 (B + i) ≤ 1000000000000000 * 2000 := by
          unfold gp
          have := vl_topW o2 b2 (B + i)
          have := o1.pos (B + i)
          omega
        have g2 : (-gp T1 p1 r1 T2 p2 r2 (B + i)) / g ≤ 1000000000000000 * 2000 := Int.le_trans (Int.ediv_le_self _ (by have := early (B + i) (by omega); omega)) g1
        have g3 : (t : Int) * ((-gp T1 p1 r1 T2 p2 r2 (B + i)) / g + 1) ≤ 1600 * (1000000000000000 * 2000 + 1) := Int.mul_le_mul (by omega) (by omega) (by omega) (by decide)
        omega
      have := hle _ (List.mem_map.mpr ⟨x - B, List.mem_range.mpr (by omega), rfl⟩)
      rw [show B + (x - B) = x by omega] at this
      exact this
end
end Sm

set_option Elab.async false
set_option linter.all false
set_option maxRecDepth 100000
set_option maxHeartbeats 16000000
namespace Sm
open PySem PySem.Spec PyProof.Rows L2
open C8 (pss_cut tCut)
theorem ps_no {X : Cx} {st : Stmt} : PS X st (fun _ _ _ => False) := by
  constructor
  intros
  contradiction
theorem of_tup (d : PyData) : isOf "tuple" d = (match d with | .tuple _ => true | _ => false) := by
  cases d <;> simp [isOf, isT, tyN]
theorem dq_row {K : PySem.W.Frag} {H : Hp} : ∀ ns : List Int, DqAll K H (ns.map V.int) (ns.map PyData.int)
  | [] => .nil
  | n :: ns => .cons (.int n) (dq_row ns)
def ruD (T : List Int) (p : Nat) (r : Int) : PyData := .tuple [.tuple (T.map PyData.int), .int (p : Int), .int r]
theorem dq_rule {K : PySem.W.Frag} {H : Hp} {d : Addr} {T : List Int} {p : Nat} {r : Int} (R : RuleAt H d T p r) : Dq K H (.ref d) (ruD T p r) := by
  obtain ⟨t, hd, ht⟩ := R
  exact .tup hd (.cons (.tup ht (dq_row T)) (.cons (.int _) (.cons (.int _) .nil)))
/-! ### rules as objects -/
def RuleO (cRule : Addr) (H : Hp) (a : Addr) (T : List Int) (p : Nat) (r : Int) : Prop := ∃ dx d t : Addr, H a = some (.ins cRule dx [(("value" : Str), .ref d), (("table" : Str), .ref t), (("period" : Str), .int (p : Int)), (("rise" : Str), .int r)]) ∧ H d = some (.tup [.ref t, .int (p : Int), .int r]) ∧ H t = some (.tup (T.map V.int))
theorem RuleO.same {cRule : Addr} {H H' : Hp} {a : Addr} {T : List Int} {p : Nat} {r : Int} (h : RuleO cRule H a T p r) (s : Same H H') : RuleO cRule H' a T p r := by
  obtain ⟨dx, d, t, h1, h2, h3⟩ := h
  exact ⟨dx, d, t, s _ _ h1, s _ _ h2, s _ _ h3⟩
structure TxR (K : PySem.W.Frag) (mg : Str → Option Value) (cRule fRi fEq fBe fAb : Addr) : Prop where
  g : mg "Rule" = some (.ref cRule)
  ins : InsC K cRule
  mak : Mk K cRule fRi
  naV : NoAttr K cRule "value"
  naT : NoAttr K cRule "table"
  naP : NoAttr K cRule "period"
  naR : NoAttr K cRule "rise"
  is : PySem.W.kitOne K (.ref cRule) (.ref cRule) = some true
  mEq : Spm K cRule "__eq__" fEq
  meB : Meth K cRule "is_below" fBe
  meA : Meth K cRule "is_above" fAb
def sp_rule_error (_ : PySem.W.Frag) : Sp := fun vs H Q _ => ∃ (d : Addr) (T : List Int) (p : Nat) (r : Int), vs = [.ref d] ∧ RuleAt H d T p r ∧ Short T p r ∧ RB T p r ∧ ∀ H', Same H H' → Q .non H'
def sp_one_more (_ : PySem.W.Frag) : Sp := fun vs H Q _ => ∃ (d : Addr) (T : List Int) (p : Nat) (r : Int), vs = [.ref d] ∧ RuleAt H d T p r ∧ T.length ≤ 5000 ∧ ∀ H' q, Same H H' → RuleAt H' q (T.map (· + 1)) p r → Q (.ref q) H'
def sp_Rinit (K : PySem.W.Frag) (cRule : Addr) : Sp := fun vs H Q _ => ∃ (a dx d : Addr) (T : List Int) (p : Nat) (r : Int), vs = [.ref a, .ref d] ∧ H a = some (.ins cRule dx []) ∧ RuleAt H d T p r ∧ Short T p r ∧ RB T p r ∧
  ∀ H', (∀ b o, b ≠ a → H b = some o → H' b = some o) → RuleO cRule H' a T p r → Q .non H'
def sp_Req (cRule : Addr) : Sp := fun vs H Q _ => ∃ (a b : Addr) (T : List Int) (p : Nat) (r : Int), vs = [.ref a, .ref b] ∧ RuleO cRule H a T p r ∧ RuleO cRule H b T p r ∧ Q (.bl true) H
/-- one is below the other at all amounts -/
def Below (T1 : List Int) (p1 : Nat) (r1 : Int) (T2 : List Int) (p2 : Nat) (r2 : Int) : Prop := ∀ x, vl T1 p1 r1 x < vl T2 p2 r2 x
open Classical in
noncomputable def belB (T1 : List Int) (p1 : Nat) (r1 : Int) (T2 : List Int) (p2 : Nat) (r2 : Int) : Bool := decide (Below T1 p1 r1 T2 p2 r2)
theorem bel_t {T1 T2 : List Int} {p1 p2 : Nat} {r1 r2 : Int} (h : Below T1 p1 r1 T2 p2 r2) : belB T1 p1 r1 T2 p2 r2 = true := by
  unfold belB
  exact @decide_eq_true _ (Classical.propDecidable _) h
theorem bel_f {T1 T2 : List Int} {p1 p2 : Nat} {r1 r2 : Int} (h : ¬ Below T1 p1 r1 T2 p2 r2) : belB T1 p1 r1 T2 p2 r2 = false := by
  unfold belB
  exact @decide_eq_false _ (Classical.propDecidable _) h
def sp_Rcmp (cRule : Addr) (sw : Bool) : Sp := fun vs H Q _ => ∃ (a b : Addr) (T1 T2 : List Int) (p1 p2 : Nat) (r1 r2 : Int), vs = [.ref a, .ref b] ∧ RuleO cRule H a T1 p1 r1 ∧ RuleO cRule H b T2 p2 r2 ∧ RuleOk T1 p1 r1 ∧ RuleOk T2 p2 r2 ∧ RM 10000000000000 T1 p1 r1 ∧ RM 10000000000000 T2 p2 r2 ∧ p1 ≤ 40 ∧ p2 ≤ 40 ∧
  ∀ H', Same H H' → Q (.bl (if sw = true then belB T2 p2 r2 T1 p1 r1 else belB T1 p1 r1 T2 p2 r2)) H'
theorem vl_more {T : List Int} {p : Nat} {r : Int} (p0 : 0 < p) (p1 : p ≤ T.length) (x : Nat) : vl (T.map (· + 1)) p r x = vl T p r x + 1 := by
  have g : ∀ i, i < T.length → (T.map (· + 1)).getD i 0 = T.getD i 0 + 1 := fun i hi => by
    rw [List.getD_eq_getElem?_getD, List.getD_eq_getElem?_getD, List.getElem?_map, List.getElem?_eq_getElem hi]
    rfl
  induction x using Nat.strongRecOn with
  | _ x ih =>
    by_cases q : x < T.length
    · rw [vl_lt q, vl_lt (by rw [List.length_map]; exact q), g x q]
    · rw [vl_step p0 p1 (by omega), vl_step p0 (by rw [List.length_map]; exact p1) (by rw [List.length_map]; omega), ih (x - p) (by omega)]
      omega
theorem more_ok {T : List Int} {p : Nat} {r : Int} (o : RuleOk T p r) : RuleOk (T.map (· + 1)) p r := by
  have g : ∀ i, i < T.length → (T.map (· + 1)).getD i 0 = T.getD i 0 + 1 := fun i hi => by
    rw [List.getD_eq_getElem?_getD, List.getD_eq_getElem?_getD, List.getElem?_map, List.getElem?_eq_getElem hi]
    rfl
  have p0 := o.p0
  have p1 := o.p1
  refine ⟨o.p0, by rw [List.length_map]; exact o.p1, o.r0, fun i hi => ?_, fun i hi => ?_, ?_⟩
  · rw [List.length_map] at hi
    rw [g i hi]
    have := o.nn i hi
    omega
  · rw [List.length_map] at hi
    rw [g i (by omega), g (i + 1) hi]
    have := o.mono i hi
    omega
  · rw [List.length_map, g _ (by omega), g _ (by omega)]
    have := o.wrap
    omega
/-- no first amount above is to be below -/
theorem below_fst {T1 T2 : List Int} {p1 p2 : Nat} {r1 r2 : Int} {o : Option Nat} (o1 : RuleOk T1 p1 r1) (h : IsFst (T1.map (· + 1)) p1 r1 T2 p2 r2 o) : decide (optV o = V.non) = belB T1 p1 r1 T2 p2 r2 := by
  cases o with
  | none =>
    have b : Below T1 p1 r1 T2 p2 r2 := fun x => by
      have := h x
      unfold gp at this
      rw [vl_more o1.p0 o1.p1] at this
      omega
    rw [bel_t b]
    rfl
  | some n =>
    have b : ¬ Below T1 p1 r1 T2 p2 r2 := fun b => by
      have h1 : 0 < gp (T1.map (· + 1)) p1 r1 T2 p2 r2 n := h.1
      have h2 := b n
      unfold gp at h1
      rw [vl_more o1.p0 o1.p1] at h1
      omega
    rw [bel_f b]
    exact decide_eq_false fun e => nomatch e
section
variable {P : Program} {w : World} {K : PySem.W.Frag} {mg : Str → Option Value} {base : Heap} {cRule fRi fEq fBe fAb : Addr}
abbrev s_rule_error : Stmt := topS 11
abbrev N_rule_error : List Str := ["value", "table", "period", "rise", "wrong"]
theorem sc_rule_error : FnScope N_rule_error ["value"] (defScope s_rule_error) := ⟨rfl, rfl, rfl, by decide +kernel, rfl, by decide +kernel, by decide +kernel⟩
theorem ok_rule_error (T : Txt mg) (D : Df K mg "rule_error" s_rule_error ["value"]) (C_shortest : Cal P w K mg base "shortest" ["table", "period", "rise"] 2 (sp_shortest K)) (C_told_error : Cal P w K mg base "told_error" ["table", "period", "rise"] 3 (sp_told_error K)) : Cal P w K mg base "rule_error" ["value"] 4 (sp_rule_error K) := by
  obtain ⟨f_shortest, fd_shortest, G_shortest, m_shortest, k_shortest, b_shortest⟩ := C_shortest
  obtain ⟨f_told_error, fd_told_error, G_told_error, m_told_error, k_told_error, b_told_error⟩ := C_told_error
  refine D.cal sc_rule_error (fun vs H Q E h => ?_) (fun f cdv A outer s H vs Q E hr h => ?_)
  · obtain ⟨d, T0, p, r, rfl, _⟩ := h
    rfl
  obtain ⟨d, T0, p, r, rfl, R, s, b, kk⟩ := h
  obtain ⟨t, hd, ht⟩ := id R
  have so := s.ok
  have bl := b.len
  refine ⟨_, (pss_cons (ps_if (PW.pt (pw_or (pt_not (pt_val (pe_callB call_isQ (by rfl) T.n_isinstance (by decide +kernel) (pa_cons (pv 0) (pa_cons (pe_bltn (v := .ty "tuple") (by rfl) T.n_tuple (by decide +kernel) rfl) pa_nil))))) (pw_or (pt_cmpR op_ne (pe_callB call_len_seq (by rfl) T.n_len (by decide +kernel) (pa_cons (pv 0) pa_nil)) pe_int (nomark _)) (pw_or1 (pt_not (pt_val (pe_callB call_isQ (by rfl) T.n_isinstance (by decide +kernel) (pa_cons (pe_ix ix_tup (pv 0) pe_int (fun _ _ => rfl)) (pa_cons (pe_bltn (v := .ty "tuple") (by rfl) T.n_tuple (by decide +kernel) rfl) pa_nil))))))))) (pss_one (ps_ret pe_str)) pss_nil)
    (pss_cons (ps_asg (pv 0) (pg_tup (by rfl) (pgs_cons (pg_name (i := 1) sc_rule_error.nd rfl (Or.inl rfl)) (pgs_cons (pg_name (i := 2) sc_rule_error.nd rfl (Or.inl rfl)) (pgs_cons (pg_name (i := 3) sc_rule_error.nd rfl (Or.inl rfl)) pgs_nil)))))
    (pss_cons (ps_set (i := 4) sc_rule_error.nd rfl (Or.inl rfl) (pe_call G_told_error (hr.mono (by decide)) (by rfl) m_told_error k_told_error b_told_error .nil pass0 (pa_cons (pv 1) (pa_cons (pv 2) (pa_cons (pv 3) pa_nil)))))
    (pss_cons (ps_if (pt_cmpR op_notN (pv 4) pe_non (nomark _)) (pss_one (ps_ret (pv 4))) pss_nil)
    (pss_cons (ps_if (pt_cmpR op_lt (pe_callB call_len_seq (by rfl) T.n_len (by decide +kernel) (pa_cons (pe_ix ix_tup (pe_call G_shortest (hr.mono (by decide)) (by rfl) m_shortest k_shortest b_shortest .nil pass0 (pa_cons (pv 1) (pa_cons (pv 2) (pa_cons (pv 3) pa_nil)))) pe_int (fun _ _ => rfl)) pa_nil)) (pe_callB call_len_seq (by rfl) T.n_len (by decide +kernel) (pa_cons (pv 1) pa_nil)) (nomark _)) (pss_one (ps_ret pe_str)) pss_nil)
    (pss_one (ps_ret pe_non))))))), ?_⟩
  refine ⟨_, rfl, _, _, "tuple", rfl, dq_rule R, .inr (.inr (.inr (.inl rfl))), ?_⟩
  rw [of_tup]
  refine ⟨_, rfl, iteF ⟨_, rfl, d, _, rfl, .inr (SqT.of hd), rfl, _, rfl, iteF ?_⟩⟩
  refine ⟨_, rfl, _, _, _, _, rfl, rfl, SqT.of hd, atI_nat (j := 0) rfl, _, _, "tuple", rfl, .tup ht (dq_row T0), .inr (.inr (.inr (.inl rfl))), ?_⟩
  rw [of_tup]
  refine ⟨_, rfl, iteF ?_⟩
  refine ⟨_, rfl, d, _, rfl, SqT.of hd, rfl, _, _, rfl, _, _, rfl, _, _, rfl, rfl, ?_⟩
  have form : FormOk T0 (p : Int) r := ⟨by have := so.p0; omega, by have := so.p1; omega, so.r0, so.nn⟩
  refine ⟨_, rfl, _, rfl, _, rfl, t, T0, (p : Int), r, rfl, .inr ht, bl, fun H' _ nf => absurd form nf, fun H' _ _ no => absurd (by rw [Int.toNat_natCast]; exact so) no, fun H1 s1 _ _ => ?_⟩
  refine ⟨_, rfl, rfl, _, rfl, iteNP rfl ?_⟩
  refine ⟨_, rfl, _, rfl, _, rfl, t, T0, p, r, rfl, .inr (s1 _ _ ht), so, b, fun H2 d' T' p' r' s2 R' c' sh hv => ?_⟩
  obtain ⟨t', hd', ht'⟩ := R'
  obtain ⟨rfl, rfl, rfl⟩ := short_one sh s hv
  have s12 := s1.trans s2
  refine ⟨_, _, _, _, rfl, rfl, SqT.of hd', atI_nat (j := 0) rfl, _, _, rfl, .inr (SqT.of ht'), _, rfl, t, _, rfl, .inr (SqT.of (s12 _ _ ht)), _, _, rfl, rfl, _, rfl, ?_⟩
  exact iteN (Int.lt_irrefl _) (kk H2 s12)
abbrev s_one_more : Stmt := topS 40
abbrev N_one_more : List Str := ["rule", "table", "period", "rise", "worth"]
theorem sc_one_more : FnScope N_one_more ["rule"] (defScope s_one_more) := ⟨rfl, rfl, rfl, by decide +kernel, rfl, by decide +kernel, by decide +kernel⟩
theorem ok_one_more (T : Txt mg) (D : Df K mg "one_more" s_one_more ["rule"]) : Cal P w K mg base "one_more" ["rule"] 1 (sp_one_more K) := by
  refine D.cal sc_one_more (fun vs H Q E h => ?_) (fun f cdv A outer s H vs Q E hr h => ?_)
  · obtain ⟨d, T0, p, r, rfl, _⟩ := h
    rfl
  obtain ⟨d, T0, p, r, rfl, ⟨t, hd, ht⟩, bl, kk⟩ := h
  have lm : (T0.map V.int).length = T0.length := List.length_map ..
  refine ⟨_, (pss_cons (ps_asg (pv 0) (pg_tup (by rfl) (pgs_cons (pg_name (i := 1) sc_one_more.nd rfl (Or.inl rfl)) (pgs_cons (pg_name (i := 2) sc_one_more.nd rfl (Or.inl rfl)) (pgs_cons (pg_name (i := 3) sc_one_more.nd rfl (Or.inl rfl)) pgs_nil)))))
    (pss_one (ps_ret (pe_tup (pa_cons (pe_callTy call_tuple_of (by rfl) T.n_tuple (by decide +kernel) (pa_cons (pe_lc (own := [("worth", 4)]) (g := gName 4) (tt := tYes) rfl sc_one_more.nd (pi_tup (pv 1)) (blkOk_by (own := [("worth", 4)]) (N := N_one_more) (sc := defScope s_one_more) (by decide +kernel)) (fun _ _ _ _ _ => pg_name (i := 4) sc_one_more.nd rfl (Or.inl rfl)) (fun _ _ _ _ _ => pts_nil) (fun _ _ _ _ _ => (pe_op op_add (pv 4) pe_int))) pa_nil)) (pa_cons (pv 2) (pa_cons (pv 3) pa_nil))))))), ?_⟩
  refine ⟨_, rfl, d, _, rfl, SqT.of hd, rfl, _, _, rfl, _, _, rfl, _, _, rfl, rfl, ?_⟩
  refine ⟨_, rfl, t, rfl, ⟨_, SqT.of ht⟩, fun U nU => ?_⟩
  refine lc_mT (fun i => .int (T0.getD i 0 + 1)) ht nU (by omega) ?_ gName_mono ?_
  · intro i x H' hx s' R' hR
    have hi : i < T0.length := by
      have := (List.getElem?_eq_some_iff.mp hx).1
      omega
    rw [get_int hi] at hx
    have hx := (Option.some.inj hx).symm
    subst hx
    exact ⟨rfl, _, rfl, _, _, rfl, rfl, hR H' (Same.refl _)⟩
  intro H1 s1 hU
  have e : (List.range (T0.map V.int).length).map (fun i => V.int (T0.getD i 0 + 1)) = (T0.map (· + 1)).map V.int := by
    rw [lm, List.map_map]
    refine List.ext_getElem (by rw [List.length_map, List.length_map, List.length_range]) fun i h1 h2 => ?_
    rw [List.getElem_map, List.getElem_map, List.getElem_range, List.getD_eq_getElem?_getD, List.getElem?_eq_getElem (by rw [List.length_map] at h2; exact h2)]
    rfl
  rw [e] at hU
  refine ⟨_, _, rfl, .inl ⟨SqL.of hU, fun t2 nt => ?_⟩⟩
  have st := same_upd (o := .tup ((T0.map (· + 1)).map V.int)) nt
  refine ⟨_, rfl, _, rfl, (by show 3 ≤ sizeLine; decide), fun q nq => ?_⟩
  have sq := same_upd (o := .tup [.ref t2, .int (p : Int), .int r]) nq
  exact kk _ q (s1.trans (st.trans sq)) ⟨t2, upd_same, sq _ _ upd_same⟩
abbrev s_Rule_init : Stmt := inClass (topS 39) 0
abbrev N_Rule_init : List Str := ["self", "value", "wrong"]
theorem sc_Rule_init : FnScope N_Rule_init ["self", "value"] (defScope s_Rule_init) := ⟨rfl, rfl, rfl, by decide +kernel, rfl, by decide +kernel, by decide +kernel⟩
theorem ok_Rinit {fd : FuncData} (T : Txt mg) (R : TxR K mg cRule fRi fEq fBe fAb) (C_rule_error : Cal P w K mg base "rule_error" ["value"] 4 (sp_rule_error K)) (F : Fun K "__init__" "Rule.__init__" s_Rule_init fRi fd) : FnOk P w K mg base CX0 5 fRi fd ["self", "value"] (sp_Rinit K cRule) := by
  obtain ⟨f_rule_error, fd_rule_error, G_rule_error, m_rule_error, k_rule_error, b_rule_error⟩ := C_rule_error
  refine F.ok sc_Rule_init (fun vs H Q E h => ?_) (fun cdv A outer s H vs Q E hr h => ?_)
  · obtain ⟨a, dx, d, T0, p, r, rfl, _⟩ := h
    rfl
  obtain ⟨a, dx, d, T0, p, r, rfl, ha, RA, sh, b, kk⟩ := h
  obtain ⟨t, hd, ht⟩ := id RA
  refine ⟨_, (pss_cons (ps_set (i := 2) sc_Rule_init.nd rfl (Or.inl rfl) (pe_call G_rule_error (hr.mono (by decide)) (by rfl) m_rule_error k_rule_error b_rule_error .nil pass0 (pa_cons (pv 1) pa_nil)))
    (pss_cons (ps_if (pt_cmpR op_notN (pv 2) pe_non (nomark _)) (pss_one ps_no) pss_nil)
    (pss_cons (ps_fld (pv 0) (pv 1) rfl)
    (pss_one (ps_asg (pv 1) (pg_tup (by rfl) (pgs_cons (pg_fld (pv 0)) (pgs_cons (pg_fld (pv 0)) (pgs_cons (pg_fld (pv 0)) pgs_nil))))))))), ?_⟩
  refine ⟨_, rfl, d, T0, p, r, rfl, RA, sh, b, fun H1 s1 => ?_⟩
  refine ⟨_, rfl, rfl, _, rfl, iteNP rfl ?_⟩
  refine ⟨_, rfl, _, rfl, a, cRule, dx, _, rfl, s1 _ _ ha, R.ins.cl, R.naV, by decide, ?_⟩
  have da : d ≠ a := fun e => by rw [e, ha] at hd; cases hd
  have ta : t ≠ a := fun e => by rw [e, ha] at ht; cases ht
  have hd1 := s1 _ _ hd
  have ht1 := s1 _ _ ht
  refine ⟨_, rfl, d, _, rfl, SqT.of (by rw [upd_ne da]; exact hd1), rfl, _, _, rfl, _, rfl, a, cRule, dx, _, rfl, upd_same, R.ins.cl, R.naT, by show 1 < 1000; decide, ?_⟩
  refine ⟨_, _, rfl, _, rfl, a, cRule, dx, _, rfl, upd_same, R.ins.cl, R.naP, by show 2 < 1000; decide, _, _, rfl, _, rfl, a, cRule, dx, _, rfl, upd_same, R.ins.cl, R.naR, by show 3 < 1000; decide, rfl, ?_⟩
  have nb : ∀ b o, b ≠ a → H b = some o → upd (upd (upd (upd H1 a (HO.ins cRule dx (putF "value" (V.ref d) []))) a (HO.ins cRule dx (putF "table" (V.ref t) (putF "value" (V.ref d) [])))) a (HO.ins cRule dx (putF "period" (V.int (p : Int)) (putF "table" (V.ref t) (putF "value" (V.ref d) []))))) a (HO.ins cRule dx (putF "rise" (V.int r) (putF "period" (V.int (p : Int)) (putF "table" (V.ref t) (putF "value" (V.ref d) []))))) b = some o := fun b o n hb => by
    rw [upd_ne n, upd_ne n, upd_ne n, upd_ne n]
    exact s1 _ _ hb
  exact kk _ nb ⟨dx, d, t, upd_same, nb d _ da hd, nb t _ ta ht⟩
abbrev s_Rule_eq : Stmt := inClass (topS 39) 2
abbrev N_Rule_eq : List Str := ["self", "other"]
theorem sc_Rule_eq : FnScope N_Rule_eq ["self", "other"] (defScope s_Rule_eq) := ⟨rfl, rfl, rfl, by decide +kernel, rfl, by decide +kernel, by decide +kernel⟩
theorem ok_Req {fd : FuncData} (T : Txt mg) (R : TxR K mg cRule fRi fEq fBe fAb) (F : Fun K "__eq__" "Rule.__eq__" s_Rule_eq fEq fd) : FnOk P w K mg base CX0 1 fEq fd ["self", "other"] (sp_Req cRule) := by
  have g_Rule := R.g
  refine F.ok sc_Rule_eq (fun vs H Q E h => ?_) (fun cdv A outer s H vs Q E hr h => ?_)
  · obtain ⟨a, b, T0, p, r, rfl, _⟩ := h
    rfl
  obtain ⟨a, b, T0, p, r, rfl, ⟨dx, d, t, ha, hd, ht⟩, ⟨dy, e, u, hb, he, hu⟩, kk⟩ := h
  refine ⟨_, (pss_one (ps_ret (pe_and (pe_callB call_isi (by rfl) T.n_isinstance (by decide +kernel) (pa_cons (pv 1) (pa_cons (pe_glob (v := .ref cRule) rfl g_Rule rfl) pa_nil))) (pe_one (pe_cmpR (op_eqD hr.units) (pe_fld (pv 0) rfl) (pe_fld (pv 1) rfl) (nomark _)))))), ?_⟩
  refine ⟨_, rfl, _, _, _, _, true, rfl, .own _, R.ins.ty hb, R.is, _, rfl, iteT ?_⟩
  refine ⟨_, rfl, a, cRule, dx, _, _, rfl, ha, R.ins.cl, R.naV, rfl, _, rfl, b, cRule, dy, _, _, rfl, hb, R.ins.cl, R.naV, rfl, ?_⟩
  have D1 : Dp K H (.ref d) (ruD T0 p r) := .tup (SqT.of hd) (.cons (.tup (SqT.of ht) (Sm.dp_ints T0)) (.cons (.int _) (.cons (.int _) .nil)))
  have D2 : Dp K H (.ref e) (ruD T0 p r) := .tup (SqT.of he) (.cons (.tup (SqT.of hu) (Sm.dp_ints T0)) (.cons (.int _) (.cons (.int _) .nil)))
  have sh : SeqAt.shaped (ruD T0 p r) = true := by
    have b := depth_int T0
    have c : (ruD T0 p r).depth ≤ 64 := by
      simp only [ruD, PyData.depth, PyData.depthAll]
      omega
    simp [SeqAt.shaped, ruD, PyData.canLay0, PyData.canLayAll0, ints_lay] at c ⊢
    exact decide_eq_true c
  exact ⟨_, _, D1, D2, sh, sh, by rw [SeqAt.eqv_refl _ (SeqAt.canLay_of_shaped sh)]; exact kk⟩
end
end Sm

set_option linter.all false
set_option maxHeartbeats 4000000
namespace Sm
/-! ### one rule below another one -/
theorem below_of {T1 T2 : List Int} {p1 p2 n : Nat} {r1 r2 : Int} (o1 : RuleOk T1 p1 r1) (o2 : RuleOk T2 p2 r2) (hn : max T1.length T2.length + p1 * p2 ≤ n) : (∀ x, vl T1 p1 r1 x < vl T2 p2 r2 x) ↔ (∀ x, x < n → vl T1 p1 r1 x < vl T2 p2 r2 x) ∧ r1 * (p2 : Int) ≤ r2 * (p1 : Int) := by
  have z1 := o1.p0
  have z2 := o2.p0
  have l1 := o1.p1
  have l2 := o2.p1
  obtain ⟨B, hB⟩ : ∃ B, B = max T1.length T2.length := ⟨_, rfl⟩
  have tt : 0 < p1 * p2 := Nat.mul_pos z1 z2
  have turn : ∀ x, B ≤ x → gp T1 p1 r1 T2 p2 r2 (x + p1 * p2) = gp T1 p1 r1 T2 p2 r2 x + ((p2 : Int) * r1 - (p1 : Int) * r2) := fun x hx => by
    have := gp_turn (a := p2) (b := p1) (B := B) o1.w o2.w (by omega) (by omega) (Nat.mul_comm p2 p1) hx
    rwa [Nat.mul_comm p2 p1] at this
  have c1 : r1 * (p2 : Int) = (p2 : Int) * r1 := Int.mul_comm ..
  have c2 : r2 * (p1 : Int) = (p1 : Int) * r2 := Int.mul_comm ..
  constructor
  · intro h
    refine ⟨fun x _ => h x, ?_⟩
    rcases Int.lt_or_le (r2 * (p1 : Int)) (r1 * (p2 : Int)) with q | q
    · exfalso
      have g1 : 1 ≤ (p2 : Int) * r1 - (p1 : Int) * r2 := by omega
      obtain ⟨k, hk⟩ : ∃ k : Nat, (k : Int) = -gp T1 p1 r1 T2 p2 r2 B := ⟨(-gp T1 p1 r1 T2 p2 r2 B).toNat, Int.toNat_of_nonneg (by have := h B; unfold gp; omega)⟩
      have e := gp_turns turn (Nat.le_refl B) k
      have e2 : (k : Int) * 1 ≤ (k : Int) * ((p2 : Int) * r1 - (p1 : Int) * r2) := Int.mul_le_mul_of_nonneg_left g1 (by omega)
      have := h (B + k * (p1 * p2))
      unfold gp at e hk
      omega
    · exact q
  · rintro ⟨near, sl⟩ x
    rcases Nat.lt_or_ge x n with q | q
    · exact near x q
    · obtain ⟨y, k, y1, y2, rfl⟩ := split_turn (B := B) tt (show B ≤ x by omega)
      have e := gp_turns turn y1 k
      have e2 : (k : Int) * ((p2 : Int) * r1 - (p1 : Int) * r2) ≤ 0 := Int.mul_nonpos_of_nonneg_of_nonpos (by omega) (by omega)
      have := near y (by omega)
      unfold gp at e
      omega
/-! ### some written rules -/
theorem rep_at {n i : Nat} {c : Int} (h : i < n) : (List.replicate n c).getD i 0 = c := by
  rw [List.getD_eq_getElem?_getD, List.getElem?_replicate, if_pos h]
  rfl
theorem one_short {c r : Int} (c0 : 0 ≤ c) (r0 : 0 ≤ r) : Short [c] 1 r := by
  refine ⟨⟨by decide, Nat.le_refl 1, r0, fun i hi => ?_, fun i hi => ?_, ?_⟩, fun s c h1 h2 => by omega, .inl rfl⟩
  · have hi : i < 1 := hi
    rw [show i = 0 by omega]
    exact c0
  · have hi : i + 1 < 1 := hi
    omega
  · show c ≤ c + r
    omega
theorem rep_short {n : Nat} {r : Int} (n0 : 0 < n) (r0 : 0 < r) : Short (List.replicate n 0) n r := by
  have ln : (List.replicate n (0 : Int)).length = n := List.length_replicate
  have ok : RuleOk (List.replicate n 0) n r := by
    refine ⟨n0, by rw [ln]; exact Nat.le_refl _, by omega, fun i hi => ?_, fun i hi => ?_, ?_⟩
    · rw [ln] at hi
      rw [rep_at hi]
      exact Int.le_refl _
    · rw [ln] at hi
      rw [rep_at hi, rep_at (by omega)]
      exact Int.le_refl _
    · rw [ln, rep_at (by omega), rep_at (by omega)]
      omega
  refine ⟨ok, fun s c s0 s1 _ h => ?_, .inl ln.symm⟩
  have a := h 0 (by rw [ln]; omega) (by rw [ln]; exact n0)
  rw [rep_at n0, Nat.zero_add, vl_lt (by rw [ln]; exact s1), rep_at s1] at a
  have b := h (n - 1) (by rw [ln]; omega) (by rw [ln]; omega)
  rw [rep_at (by omega), vl_step n0 (by rw [ln]; exact Nat.le_refl _) (by rw [ln]; omega), vl_lt (by rw [ln]; omega), rep_at (by omega)] at b
  omega
/-- a table of two levels -/
theorem two_at {a b i : Nat} {c d : Int} (h : i < a + b) : (List.replicate a c ++ List.replicate b d).getD i 0 = if i < a then c else d := by
  rw [List.getD_eq_getElem?_getD, List.getElem?_append, List.length_replicate]
  by_cases q : i < a
  · rw [if_pos q, if_pos q, List.getElem?_replicate, if_pos q]
    rfl
  · rw [if_neg q, if_neg q, List.getElem?_replicate, if_pos (by omega)]
    rfl
theorem two_short {c : Int} (c0 : 0 ≤ c) : Short (List.replicate 11 c ++ List.replicate 29 (c + 40)) 40 40 := by
  have ln : (List.replicate 11 c ++ List.replicate 29 (c + 40)).length = 40 := by rw [List.length_append, List.length_replicate, List.length_replicate]
  have at_ : ∀ i, i < 40 → (List.replicate 11 c ++ List.replicate 29 (c + 40)).getD i 0 = if i < 11 then c else c + 40 := fun i hi => two_at (a := 11) (b := 29) hi
  have ok : RuleOk (List.replicate 11 c ++ List.replicate 29 (c + 40)) 40 40 := by
    refine ⟨by decide, by rw [ln]; exact Nat.le_refl _, by decide, fun i hi => ?_, fun i hi => ?_, ?_⟩
    · rw [ln] at hi
      rw [at_ i hi]
      split <;> omega
    · rw [ln] at hi
      rw [at_ i (by omega), at_ (i + 1) hi]
      split <;> split <;> omega
    · rw [ln, at_ _ (by omega), at_ _ (by omega)]
      show (if (39 : Nat) < 11 then c else c + 40) ≤ (if (0 : Nat) < 11 then c else c + 40) + 40
      rw [if_neg (by decide), if_pos (by decide)]
      omega
  have near : ∀ i, i < 40 → vl (List.replicate 11 c ++ List.replicate 29 (c + 40)) 40 40 i = if i < 11 then c else c + 40 := fun i hi => by rw [vl_lt (by rw [ln]; exact hi), at_ i hi]
  refine ⟨ok, fun s e s0 s1 dv h => ?_, .inl ln.symm⟩
  have r0 := h 0 (by rw [ln]; omega) (by rw [ln]; omega)
  have r10 := h 10 (by rw [ln]; omega) (by rw [ln]; omega)
  have r19 := h 19 (by rw [ln]; omega) (by rw [ln]; omega)
  rw [Nat.zero_add, near s s1, at_ 0 (by omega), show (if (0 : Nat) < 11 then c else c + 40) = c from if_pos (by decide)] at r0
  rw [at_ 10 (by omega), if_pos (by decide)] at r10
  rw [at_ 19 (by omega), if_neg (by decide)] at r19
  have cases_ : s ≤ 10 ∨ s = 20 := by
    obtain ⟨k, hk⟩ := dv
    have : k = 0 ∨ k = 1 ∨ k = 2 ∨ k = 3 ∨ 4 ≤ k := by omega
    rcases this with rfl | rfl | rfl | rfl | q
    · omega
    · omega
    · omega
    · omega
    · have : s * 4 ≤ s * k := Nat.mul_le_mul_left _ q
      omega
  rcases cases_ with q | rfl
  · rw [near (10 + s) (by omega), if_neg (by omega)] at r10
    rw [if_pos (by omega)] at r0
    omega
  · rw [near (19 + 20) (by decide), if_neg (by decide)] at r19
    rw [if_neg (by decide)] at r0
    omega
theorem three_short : Short [1, 2, 3] 3 21 := by
  have ok : RuleOk [1, 2, 3] 3 21 := ⟨by decide, by decide, by decide, fun i hi => by have hi : i < 3 := hi; rcases (show i = 0 ∨ i = 1 ∨ i = 2 by omega) with rfl | rfl | rfl <;> decide, fun i hi => by have hi : i + 1 < 3 := hi; rcases (show i = 0 ∨ i = 1 by omega) with rfl | rfl <;> decide, by decide⟩
  refine ⟨ok, fun s c s0 s1 dv h => ?_, .inl rfl⟩
  have es : s = 1 := by
    rcases (show s = 1 ∨ s = 2 by omega) with e | e
    · exact e
    · subst e
      exact absurd dv (by decide)
  subst es
  have r0 := h 0 (by decide) (by decide)
  have r2 := h 2 (by decide) (by decide)
  have e1 : vl [1, 2, 3] 3 21 (0 + 1) = 2 := by decide
  have e2 : vl [1, 2, 3] 3 21 (2 + 1) = 22 := by decide
  rw [e1] at r0
  rw [e2] at r2
  have g0 : ([1, 2, 3] : List Int).getD 0 0 = 1 := rfl
  have g2 : ([1, 2, 3] : List Int).getD 2 0 = 3 := rfl
  rw [g0] at r0
  rw [g2] at r2
  omega
/-! ### a rule with a bit more -/
theorem near_ok {T : List Int} {p : Nat} {r R more : Int} {at' : Nat} (o : RuleOk T p r) (m0 : 0 ≤ more) (hR : r ≤ R) (hw : ∀ g : Nat → Int, (g = fun i => T.getD i 0 + more + (if at' ≤ i then 1 else 0)) → g (T.length - 1) - g (T.length - p) ≤ R) :
    RuleOk ((List.range T.length).map fun i => T.getD i 0 + more + (if at' ≤ i then 1 else 0)) p R := by
  have p0 := o.p0
  have p1 := o.p1
  have r0 := o.r0
  have ln : ((List.range T.length).map fun i => T.getD i 0 + more + (if at' ≤ i then 1 else 0)).length = T.length := by rw [List.length_map, List.length_range]
  have g : ∀ i, i < T.length → ((List.range T.length).map fun i => T.getD i 0 + more + (if at' ≤ i then 1 else 0)).getD i 0 = T.getD i 0 + more + (if at' ≤ i then 1 else 0) := fun i hi => by
    rw [List.getD_eq_getElem?_getD, List.getElem?_map, List.getElem?_range hi]
    rfl
  refine ⟨p0, by rw [ln]; exact p1, by omega, fun i hi => ?_, fun i hi => ?_, ?_⟩
  · rw [ln] at hi
    rw [g i hi]
    have := o.nn i hi
    split <;> omega
  · rw [ln] at hi
    rw [g i (by omega), g (i + 1) hi]
    have := o.mono i hi
    split <;> split <;> omega
  · have q : (T.getD (T.length - 1) 0 + more + (if at' ≤ T.length - 1 then 1 else 0)) - (T.getD (T.length - p) 0 + more + (if at' ≤ T.length - p then 1 else 0)) ≤ R := hw _ rfl
    rw [ln, g _ (by omega), g _ (by omega)]
    omega
end Sm

set_option Elab.async false
set_option linter.all false
set_option maxRecDepth 100000
set_option maxHeartbeats 16000000
namespace Sm
open PySem PySem.Spec PyProof.Rows L2
open C8 (pss_cut tCut)
theorem RuleO.at {cRule : Addr} {H : Hp} {a : Addr} {T : List Int} {p : Nat} {r : Int} (h : RuleO cRule H a T p r) : ∃ dx d t : Addr, H a = some (.ins cRule dx [(("value" : Str), .ref d), (("table" : Str), .ref t), (("period" : Str), .int (p : Int)), (("rise" : Str), .int r)]) ∧ RuleAt H d T p r := by
  obtain ⟨dx, d, t, h1, h2, h3⟩ := h
  exact ⟨dx, d, t, h1, t, h2, h3⟩
theorem more_rf {T : List Int} {p : Nat} {r : Int} (b : RM 10000000000000 T p r) : RF (T.map (· + 1)) p r := by
  have bl := b.len
  refine ⟨by rw [List.length_map]; omega, by have := b.r1; omega, fun i hi => ?_⟩
  rw [List.length_map] at hi
  rw [List.getD_eq_getElem?_getD, List.getElem?_map, List.getElem?_eq_getElem hi]
  have := b.top i hi
  rw [List.getD_eq_getElem?_getD, List.getElem?_eq_getElem hi] at this
  show T[i] + 1 ≤ _
  have : T[i] ≤ 10000000000000 := this
  omega
def sp_l_under (_ : PySem.W.Frag) : Sp := fun vs H Q _ => ∃ (d1 d2 : Addr) (T1 T2 : List Int) (p1 p2 : Nat) (r1 r2 : Int), vs = [.ref d1, .ref d2] ∧ RuleAt H d1 T1 p1 r1 ∧ RuleAt H d2 T2 p2 r2 ∧ RuleOk T1 p1 r1 ∧ RuleOk T2 p2 r2 ∧ RM 10000000000000 T1 p1 r1 ∧ RM 10000000000000 T2 p2 r2 ∧ p1 ≤ 40 ∧ p2 ≤ 40 ∧
  ∀ H', Same H H' → Q (.bl (belB T1 p1 r1 T2 p2 r2)) H'
def sp_l_right (_ : PySem.W.Frag) : Sp := fun vs H Q _ => ∃ (d1 d2 : Addr) (T1 T2 : List Int) (p1 p2 : Nat) (r1 r2 : Int), vs = [.ref d1, .ref d2] ∧ RuleAt H d1 T1 p1 r1 ∧ RuleAt H d2 T2 p2 r2 ∧ Short T1 p1 r1 ∧ Short T2 p2 r2 ∧ RM 10000000000000 T1 p1 r1 ∧ RM 10000000000000 T2 p2 r2 ∧ p1 ≤ 40 ∧ p2 ≤ 40 ∧
  ∀ H', Same H H' → Q (.bl true) H'
section
variable {P : Program} {w : World} {K : PySem.W.Frag} {mg : Str → Option Value} {base : Heap} {cRule fRi fEq fBe fAb : Addr}
abbrev s_Rule_is_below : Stmt := inClass (topS 39) 11
abbrev N_Rule_is_below : List Str := ["self", "other"]
theorem sc_Rule_is_below : FnScope N_Rule_is_below ["self", "other"] (defScope s_Rule_is_below) := ⟨rfl, rfl, rfl, by decide +kernel, rfl, by decide +kernel, by decide +kernel⟩
theorem ok_Rbe {fd : FuncData} (T : Txt mg) (R : TxR K mg cRule fRi fEq fBe fAb) (C_one_more : Cal P w K mg base "one_more" ["rule"] 1 (sp_one_more K)) (C_first_above : Cal P w K mg base "first_above" ["one", "other"] 3 (sp_first_above K)) (F : Fun K "is_below" "Rule.is_below" s_Rule_is_below fBe fd) : FnOk P w K mg base CX0 4 fBe fd ["self", "other"] (sp_Rcmp cRule false) := by
  obtain ⟨f_one_more, fd_one_more, G_one_more, m_one_more, k_one_more, b_one_more⟩ := C_one_more
  obtain ⟨f_first_above, fd_first_above, G_first_above, m_first_above, k_first_above, b_first_above⟩ := C_first_above
  refine F.ok sc_Rule_is_below (fun vs H Q E h => ?_) (fun cdv A outer s H vs Q E hr h => ?_)
  · obtain ⟨a, b, T1, T2, p1, p2, r1, r2, rfl, _⟩ := h
    rfl
  obtain ⟨a, b, T1, T2, p1, p2, r1, r2, rfl, A1, A2, o1, o2, b1, b2, q1, q2, kk⟩ := h
  obtain ⟨dx, d, t, ha, R1⟩ := A1.at
  obtain ⟨dy, e, u, hb, R2⟩ := A2.at
  refine ⟨_, (pss_one (ps_ret (pe_cmpR op_isN (pe_call G_first_above (hr.mono (by decide)) (by rfl) m_first_above k_first_above b_first_above .nil pass0 (pa_cons (pe_call G_one_more (hr.mono (by decide)) (by rfl) m_one_more k_one_more b_one_more .nil pass0 (pa_cons (pe_fld (pv 0) rfl) pa_nil)) (pa_cons (pe_fld (pv 1) rfl) pa_nil))) pe_non (nomark _)))), ?_⟩
  refine ⟨_, rfl, a, cRule, dx, _, _, rfl, ha, R.ins.cl, R.naV, rfl, d, T1, p1, r1, rfl, R1, by have := b1.len; omega, fun H1 q s1 Q1 => ?_⟩
  refine ⟨_, rfl, b, cRule, dy, _, _, rfl, s1 _ _ hb, R.ins.cl, R.naV, rfl, q, e, _, T2, p1, p2, r1, r2, rfl, Q1, R2.same s1, more_ok o1, o2, more_rf b1, b2.rf (by decide), q1, q2, fun H2 o s2 is _ => ⟨rfl, ?_⟩⟩
  rw [below_fst o1 is]
  exact kk H2 (s1.trans s2)
abbrev s_Rule_is_above : Stmt := inClass (topS 39) 12
abbrev N_Rule_is_above : List Str := ["self", "other"]
theorem sc_Rule_is_above : FnScope N_Rule_is_above ["self", "other"] (defScope s_Rule_is_above) := ⟨rfl, rfl, rfl, by decide +kernel, rfl, by decide +kernel, by decide +kernel⟩
theorem ok_Rab {fd : FuncData} (T : Txt mg) (R : TxR K mg cRule fRi fEq fBe fAb) (C_one_more : Cal P w K mg base "one_more" ["rule"] 1 (sp_one_more K)) (C_first_above : Cal P w K mg base "first_above" ["one", "other"] 3 (sp_first_above K)) (F : Fun K "is_above" "Rule.is_above" s_Rule_is_above fAb fd) : FnOk P w K mg base CX0 4 fAb fd ["self", "other"] (sp_Rcmp cRule true) := by
  obtain ⟨f_one_more, fd_one_more, G_one_more, m_one_more, k_one_more, b_one_more⟩ := C_one_more
  obtain ⟨f_first_above, fd_first_above, G_first_above, m_first_above, k_first_above, b_first_above⟩ := C_first_above
  refine F.ok sc_Rule_is_above (fun vs H Q E h => ?_) (fun cdv A outer s H vs Q E hr h => ?_)
  · obtain ⟨a, b, T1, T2, p1, p2, r1, r2, rfl, _⟩ := h
    rfl
  obtain ⟨a, b, T1, T2, p1, p2, r1, r2, rfl, A1, A2, o1, o2, b1, b2, q1, q2, kk⟩ := h
  obtain ⟨dx, d, t, ha, R1⟩ := A1.at
  obtain ⟨dy, e, u, hb, R2⟩ := A2.at
  refine ⟨_, (pss_one (ps_ret (pe_cmpR op_isN (pe_call G_first_above (hr.mono (by decide)) (by rfl) m_first_above k_first_above b_first_above .nil pass0 (pa_cons (pe_call G_one_more (hr.mono (by decide)) (by rfl) m_one_more k_one_more b_one_more .nil pass0 (pa_cons (pe_fld (pv 1) rfl) pa_nil)) (pa_cons (pe_fld (pv 0) rfl) pa_nil))) pe_non (nomark _)))), ?_⟩
  refine ⟨_, rfl, b, cRule, dy, _, _, rfl, hb, R.ins.cl, R.naV, rfl, e, T2, p2, r2, rfl, R2, by have := b2.len; omega, fun H1 q s1 Q1 => ?_⟩
  refine ⟨_, rfl, a, cRule, dx, _, _, rfl, s1 _ _ ha, R.ins.cl, R.naV, rfl, q, d, _, T1, p2, p1, r2, r1, rfl, Q1, R1.same s1, more_ok o2, o1, more_rf b2, b1.rf (by decide), q2, q1, fun H2 o s2 is _ => ⟨rfl, ?_⟩⟩
  rw [below_fst o2 is]
  exact kk H2 (s1.trans s2)
abbrev s_l_under : Stmt := topS 49
abbrev N_l_under : List Str := ["_law_one_here", "_law_other", "_law_many", "_law_x"]
theorem sc_l_under : FnScope N_l_under ["_law_one_here", "_law_other"] (defScope s_l_under) := ⟨rfl, rfl, rfl, by decide +kernel, rfl, by decide +kernel, by decide +kernel⟩
theorem ok_l_under (T : Txt mg) (D : Df K mg "_law_under" s_l_under ["_law_one_here", "_law_other"]) (C_l_value : Cal P w K mg base "_law_value" ["_law_rule", "_law_x"] 1 (sp_l_value K)) : Cal P w K mg base "_law_under" ["_law_one_here", "_law_other"] 2 (sp_l_under K) := by
  obtain ⟨f_l_value, fd_l_value, G_l_value, m_l_value, k_l_value, b_l_value⟩ := C_l_value
  refine D.cal sc_l_under (fun vs H Q E h => ?_) (fun f cdv A outer s H vs Q E hr h => ?_)
  · obtain ⟨a, b, T1, T2, p1, p2, r1, r2, rfl, _⟩ := h
    rfl
  obtain ⟨a, b, T1, T2, p1, p2, r1, r2, rfl, R1, R2, o1, o2, b1, b2, q1, q2, kk⟩ := h
  obtain ⟨t, ha, ht⟩ := id R1
  obtain ⟨u, hb, hu⟩ := id R2
  have l1 := len_int T1
  have l2 := len_int T2
  have bl1 := b1.len
  have bl2 := b2.len
  have pp : p1 * p2 ≤ 40 * 40 := Nat.mul_le_mul q1 q2
  have pe : (p1 : Int) * (p2 : Int) = ((p1 * p2 : Nat) : Int) := (Int.natCast_mul ..).symm
  refine ⟨_, (pss_cons (ps_set (i := 2) sc_l_under.nd rfl (Or.inl rfl) (pe_op op_add (pe_callB (call_max2 rfl) (by rfl) T.n_max (by decide +kernel) (pa_cons (pe_callB call_len_seq (by rfl) T.n_len (by decide +kernel) (pa_cons (pe_ix ix_tup (pv 0) pe_int (fun _ _ => rfl)) pa_nil)) (pa_cons (pe_callB call_len_seq (by rfl) T.n_len (by decide +kernel) (pa_cons (pe_ix ix_tup (pv 1) pe_int (fun _ _ => rfl)) pa_nil)) pa_nil))) (pe_op op_mul (pe_ix ix_tup (pv 0) pe_int (fun _ _ => rfl)) (pe_ix ix_tup (pv 1) pe_int (fun _ _ => rfl)))))
    (pss_cons (ps_if (pt_not (pt_val (pe_callB (cr_all rfl) (by rfl) T.n_all (by decide +kernel) (pa_cons (pe_lc (own := [("_law_x", 3)]) (g := gName 3) (tt := tYes) rfl sc_l_under.nd (pi_range1 (by rfl) T.n_range (pa_cons (pv 2) pa_nil)) (blkOk_by (own := [("_law_x", 3)]) (N := N_l_under) (sc := defScope s_l_under) (by decide +kernel)) (fun _ _ _ _ _ => pg_name (i := 3) sc_l_under.nd rfl (Or.inl rfl)) (fun _ _ _ _ _ => pts_nil) (fun _ _ _ _ _ => (pe_cmpR op_lt (pe_call G_l_value (hr.mono (by decide)) (by rfl) m_l_value k_l_value b_l_value .nil pass0 (pa_cons (pv 0) (pa_cons (pv 3) pa_nil))) (pe_call G_l_value (hr.mono (by decide)) (by rfl) m_l_value k_l_value b_l_value .nil pass0 (pa_cons (pv 1) (pa_cons (pv 3) pa_nil))) (nomark _)))) pa_nil)))) (pss_one (ps_ret pe_bl)) pss_nil)
    (pss_one (ps_ret (pe_cmpR op_le (pe_op op_mul (pe_ix ix_tup (pv 0) pe_int (fun _ _ => rfl)) (pe_ix ix_tup (pv 1) pe_int (fun _ _ => rfl))) (pe_op op_mul (pe_ix ix_tup (pv 1) pe_int (fun _ _ => rfl)) (pe_ix ix_tup (pv 0) pe_int (fun _ _ => rfl))) (nomark _)))))), ?_⟩
  have en : (if (((T2.map V.int).length : Nat) : Int) > (((T1.map V.int).length : Nat) : Int) then (((T2.map V.int).length : Nat) : Int) else (((T1.map V.int).length : Nat) : Int)) + (p1 : Int) * (p2 : Int) = ((max T1.length T2.length + p1 * p2 : Nat) : Int) := by
    rw [l1, l2, pe]
    split <;> omega
  refine ⟨_, rfl, _, _, _, _, rfl, rfl, SqT.of ha, atI_nat (j := 0) rfl, _, _, rfl, .inr (SqT.of ht), _, rfl, _, _, _, _, rfl, rfl, SqT.of hb, atI_nat (j := 0) rfl, _, _, rfl, .inr (SqT.of hu), _, _, rfl, ?_⟩
  refine ⟨_, rfl, _, _, _, _, rfl, rfl, SqT.of ha, atI_nat (j := 1) rfl, _, rfl, _, _, _, _, rfl, rfl, SqT.of hb, atI_nat (j := 1) rfl, _, _, rfl, rfl, .inl ⟨by omega, by omega⟩, _, _, rfl, rfl, ?_⟩
  generalize hn : max T1.length T2.length + p1 * p2 = n at en
  have nb : n ≤ 2000 := by omega
  refine ⟨_, rfl, (n : Int), congrArg (fun z => [V.int z]) en, by omega, by omega, fun U nU => ?_⟩
  rw [show Int.toNat (n : Int) = n by omega]
  refine lc_mR (n := n) (fun i => .bl (decide (vl T1 p1 r1 i < vl T2 p2 r2 i))) nU (by omega) ?_ gName_mono ?_
  · intro i H' hi s' R' hR
    rw [Int.zero_add]
    exact ⟨rfl, _, rfl, _, rfl, a, T1, p1, r1, i, rfl, R1.same s', o1.w, b1.rb (by decide), _, rfl, _, rfl, b, T2, p2, r2, i, rfl, R2.same s', o2.w, b2.rb (by decide), _, _, rfl, rfl, hR H' (Same.refl _)⟩
  intro H1 s1 hU
  have hU : H1 U = some (.lst (((List.range n).map fun i => decide (vl T1 p1 r1 i < vl T2 p2 r2 i)).map V.bl)) := by rw [hU, List.map_map]; rfl
  refine ⟨U, _, rfl, SqL.of hU, ?_⟩
  have bo := below_of (n := n) o1 o2 (by omega)
  have al : ((List.range n).map fun i => decide (vl T1 p1 r1 i < vl T2 p2 r2 i)).all id = true ↔ ∀ x, x < n → vl T1 p1 r1 x < vl T2 p2 r2 x := by
    rw [List.all_map, List.all_eq_true]
    constructor
    · intro h x hx
      exact of_decide_eq_true (h x (List.mem_range.mpr hx))
    · intro h x hx
      exact decide_eq_true (h x (List.mem_range.mp hx))
  by_cases c : ∀ x, x < n → vl T1 p1 r1 x < vl T2 p2 r2 x
  · rw [al.mpr c]
    refine ⟨_, rfl, iteF ?_⟩
    refine ⟨_, rfl, _, _, _, _, rfl, rfl, SqT.of (s1 _ _ ha), atI_nat (j := 2) rfl, _, rfl, _, _, _, _, rfl, rfl, SqT.of (s1 _ _ hb), atI_nat (j := 1) rfl, _, _, rfl, rfl, .inr ⟨by omega, by omega⟩, _, rfl, _, _, _, _, rfl, rfl, SqT.of (s1 _ _ hb), atI_nat (j := 2) rfl, _, rfl, _, _, _, _, rfl, rfl, SqT.of (s1 _ _ ha), atI_nat (j := 1) rfl, _, _, rfl, rfl, .inr ⟨by omega, by omega⟩, _, _, rfl, rfl, ?_⟩
    have k := kk H1 s1
    by_cases e : r1 * (p2 : Int) ≤ r2 * (p1 : Int)
    · rw [bel_t (bo.mpr ⟨c, e⟩)] at k
      have q : (fun i j => V.bl (decide (i ≤ j))) (r1 * (p2 : Int)) (r2 * (p1 : Int)) = V.bl true := congrArg V.bl (decide_eq_true e)
      exact q ▸ k
    · rw [bel_f fun h => e (bo.mp h).2] at k
      have q : (fun i j => V.bl (decide (i ≤ j))) (r1 * (p2 : Int)) (r2 * (p1 : Int)) = V.bl false := congrArg V.bl (decide_eq_false e)
      exact q ▸ k
  · have z : ((List.range n).map fun i => decide (vl T1 p1 r1 i < vl T2 p2 r2 i)).all id = false := by
      cases e : ((List.range n).map fun i => decide (vl T1 p1 r1 i < vl T2 p2 r2 i)).all id with
      | false => rfl
      | true => exact absurd (al.mp e) c
    rw [z]
    refine ⟨_, rfl, iteT ?_⟩
    have k := kk H1 s1
    rwa [bel_f fun h => c (bo.mp h).1] at k
end
end Sm

set_option Elab.async false
set_option linter.all false
set_option maxRecDepth 100000
set_option maxHeartbeats 16000000
namespace Sm
open PySem PySem.Spec PyProof.Rows L2
open C8 (pss_cut tCut)
def nearT (T : List Int) (more : Int) (at' : Nat) : List Int := (List.range T.length).map fun i => T.getD i 0 + more + (if at' ≤ i then 1 else 0)
theorem nearT_len (T : List Int) (more : Int) (at' : Nat) : (nearT T more at').length = T.length := by unfold nearT; rw [List.length_map, List.length_range]
theorem nearT_get {T : List Int} {more : Int} {at' i : Nat} (h : i < T.length) : (nearT T more at').getD i 0 = T.getD i 0 + more + (if at' ≤ i then 1 else 0) := by
  unfold nearT
  rw [List.getD_eq_getElem?_getD, List.getElem?_map, List.getElem?_range h]
  rfl
theorem nearT_cat {T : List Int} {more : Int} {at' : Nat} (h : at' ≤ T.length) : ((nearT T more T.length).map V.int).take at' ++ (List.range (T.length - at')).map (fun i => V.int (T.getD (at' + i) 0 + more + 1)) = (nearT T more at').map V.int := by
  unfold nearT
  refine List.ext_getElem ?_ fun i h1 h2 => ?_
  · simp only [List.length_append, List.length_take, List.length_map, List.length_range]
    omega
  · rw [List.length_map, List.length_map, List.length_range] at h2
    rw [List.getElem_append, List.getElem_map, List.getElem_map, List.getElem_range]
    by_cases c : i < at'
    · rw [dif_pos (by rw [List.length_take, List.length_map, List.length_map, List.length_range]; omega), List.getElem_take, List.getElem_map, List.getElem_map, List.getElem_range, if_neg (by omega), if_neg (by omega)]
    · rw [dif_neg (by rw [List.length_take, List.length_map, List.length_map, List.length_range]; omega), List.getElem_map, List.getElem_range, if_pos (by omega)]
      congr 4
      rw [List.length_take, List.length_map, List.length_map, List.length_range]
      omega
def sp_l_near (_ : PySem.W.Frag) : Sp := fun vs H Q _ => ∃ (p l d : Addr) (n : Int) (T : List Int) (q : Nat) (r : Int), vs = [.ref p, .ref d] ∧ Deck H p l n ∧ 0 ≤ n ∧ n ≤ 900000 ∧ RuleAt H d T q r ∧ RuleOk T q r ∧ RM 10000 T q r ∧ T.length ≤ 7 ∧
  ∀ H' e T' q' r' n', Fr p l H H' → Deck H' p l n' → n ≤ n' → n' ≤ n + 4 → RuleAt H' e T' q' r' → Short T' q' r' → RM 10000000 T' q' r' → T'.length ≤ 7 → Q (.ref e) H'
section
variable {P : Program} {w : World} {K : PySem.W.Frag} {mg : Str → Option Value} {base : Heap} {cRule fRi fEq fBe fAb : Addr}
abbrev s_l_near : Stmt := topS 50
abbrev N_l_near : List Str := ["_law_deck_here", "_law_rule", "_law_more", "_law_table", "_law_at", "_law_rise", "_law_item"]
theorem sc_l_near : FnScope N_l_near ["_law_deck_here", "_law_rule"] (defScope s_l_near) := ⟨rfl, rfl, rfl, by decide +kernel, rfl, by decide +kernel, by decide +kernel⟩
theorem ok_l_near (T : Txt mg) (D : Df K mg "_law_near" s_l_near ["_law_deck_here", "_law_rule"]) (C_l_short : Cal P w K mg base "_law_short" ["_law_rule"] 3 (sp_l_short K)) (C_l_draw : Cal P w K mg base "_law_draw" ["_law_deck_here", "_law_many"] 1 (sp_l_draw K)) : Cal P w K mg base "_law_near" ["_law_deck_here", "_law_rule"] 4 (sp_l_near K) := by
  obtain ⟨f_l_short, fd_l_short, G_l_short, m_l_short, k_l_short, b_l_short⟩ := C_l_short
  obtain ⟨f_l_draw, fd_l_draw, G_l_draw, m_l_draw, k_l_draw, b_l_draw⟩ := C_l_draw
  refine D.cal sc_l_near (fun vs H Q E h => ?_) (fun f cdv A outer s H vs Q E hr h => ?_)
  · obtain ⟨p, l, d, n, T0, q, r, rfl, _⟩ := h
    rfl
  obtain ⟨p, l, d, n, T0, q, r, rfl, D0, n0, n1, R, o, b, tl, k⟩ := h
  obtain ⟨t, hd, ht⟩ := id R
  have lm : (T0.map V.int).length = T0.length := List.length_map ..
  refine ⟨_, (pss_cons (ps_set (i := 2) sc_l_near.nd rfl (Or.inr rfl) (pe_call G_l_draw (hr.mono (by decide)) (by rfl) m_l_draw k_l_draw b_l_draw .nil pass0 (pa_cons (pv 0) (pa_cons pe_int pa_nil))))
    (pss_cons (ps_setLc (i := 3) (own := [("_law_item", 6)]) (g := gName 6) (tt := tYes) rfl sc_l_near.nd rfl rfl (sw_true rfl rfl rfl (by decide +kernel)) (pi_tup (pe_ix ix_tup (pv 1) pe_int (fun _ _ => rfl))) (blkOk_by (own := [("_law_item", 6)]) (N := N_l_near) (sc := defScope s_l_near) (by decide +kernel)) (fun _ _ _ _ _ => pg_name (i := 6) sc_l_near.nd rfl (Or.inl rfl)) (fun _ _ _ _ _ => pts_nil) (fun _ _ _ _ _ => (pe_op op_add (pv 6) (pv 2))))
    (pss_cut (ps_if (pt_cmpR op_eq (pe_call G_l_draw (hr.mono (by decide)) (by rfl) m_l_draw k_l_draw b_l_draw .nil pass0 (pa_cons (pv 0) (pa_cons pe_int pa_nil))) pe_int (nomark _)) (pss_cons (ps_set (i := 4) sc_l_near.nd rfl (Or.inl rfl) (pe_call G_l_draw (hr.mono (by decide)) (by rfl) m_l_draw k_l_draw b_l_draw .nil pass0 (pa_cons (pv 0) (pa_cons (pe_callB call_len_seq (by rfl) T.n_len (by decide +kernel) (pa_cons (pv 3) pa_nil)) pa_nil))))
    (pss_one (ps_set (i := 3) sc_l_near.nd rfl (Or.inl rfl) (pe_op op_cat (pe_slice sl_list (pv 3) po_none (po_some (pv 4))) (pe_lc (own := [("_law_item", 6)]) (g := gName 6) (tt := tYes) rfl sc_l_near.nd (pi_list (pe_slice sl_list (pv 3) (po_some (pv 4)) po_none)) (blkOk_by (own := [("_law_item", 6)]) (N := N_l_near) (sc := defScope s_l_near) (by decide +kernel)) (fun _ _ _ _ _ => pg_name (i := 6) sc_l_near.nd rfl (Or.inl rfl)) (fun _ _ _ _ _ => pts_nil) (fun _ _ _ _ _ => (pe_op op_add (pv 6) pe_int))))))) pss_nil)
    (pss_cons (ps_set (i := 5) sc_l_near.nd rfl (Or.inl rfl) (pe_callB (call_max2 rfl) (by rfl) T.n_max (by decide +kernel) (pa_cons (pe_op op_add (pe_ix ix_tup (pv 1) pe_int (fun _ _ => rfl)) (pe_call G_l_draw (hr.mono (by decide)) (by rfl) m_l_draw k_l_draw b_l_draw .nil pass0 (pa_cons (pv 0) (pa_cons pe_int pa_nil)))) (pa_cons (pe_op op_sub (pe_ix ix_list (pv 3) (pe_un un_neg pe_int) (fun _ _ => rfl)) (pe_ix ix_list (pv 3) (pe_op op_sub (pe_callB call_len_seq (by rfl) T.n_len (by decide +kernel) (pa_cons (pv 3) pa_nil)) (pe_ix ix_tup (pv 1) pe_int (fun _ _ => rfl))) (fun _ _ => rfl))) pa_nil))))
    (pss_one (ps_ret (pe_call G_l_short (hr.mono (by decide)) (by rfl) m_l_short k_l_short b_l_short .nil pass0 (pa_cons (pe_tup (pa_cons (pe_callTy call_tuple_of (by rfl) T.n_tuple (by decide +kernel) (pa_cons (pv 3) pa_nil)) (pa_cons (pe_ix ix_tup (pv 1) pe_int (fun _ _ => rfl)) (pa_cons (pv 5) pa_nil)))) pa_nil)))))))), ?_⟩
  refine ⟨_, rfl, p, l, n, 3, rfl, D0, n0, by omega, by omega, by omega, fun m H1 m0 m1 f1 D1 => ?_⟩
  have hd1 := f1.tup D0 hd
  have ht1 := f1.tup D0 ht
  refine ⟨_, rfl, _, _, _, _, rfl, rfl, SqT.of hd1, atI_nat (j := 0) rfl, t, rfl, ⟨_, SqT.of ht1⟩, fun U nU => ?_⟩
  obtain ⟨Up, Ul⟩ := D1.lne nU
  refine lc_mT (fun i => .int (T0.getD i 0 + m + (if T0.length ≤ i then 1 else 0))) ht1 nU (by omega) ?_ gName_mono ?_
  · intro i x H' hx s' R' hR
    have hi : i < T0.length := by
      have := (List.getElem?_eq_some_iff.mp hx).1
      omega
    rw [get_int hi] at hx
    have hx := (Option.some.inj hx).symm
    subst hx
    have := hR H' (Same.refl _)
    rw [if_neg (by omega), Int.add_zero] at this
    exact ⟨rfl, _, rfl, _, rfl, _, _, rfl, rfl, this⟩
  intro H2 s2 hU
  have hU : H2 U = some (.lst ((nearT T0 m T0.length).map V.int)) := by rw [hU, lm]; unfold nearT; rw [List.map_map]; rfl
  have f2 : Fr p l H H2 := f1.trans (Same.fr s2)
  have D2 := D1.same s2
  have ln : ((nearT T0 m T0.length).map V.int).length = T0.length := by rw [List.length_map, nearT_len]
  refine ⟨fun σ H' => ∃ (W : Addr) (at' : Nat) (n' : Int) (v4 v6 : Option V), σ = [some (.ref p), some (.ref d), some (.int m), some (.ref W), v4, none, v6] ∧ Fr p l H H' ∧ Deck H' p l n' ∧ n ≤ n' ∧ n' ≤ n + 3 ∧ at' ≤ T0.length ∧ H' W = some (.lst ((nearT T0 m at').map V.int)) ∧ W ≠ p ∧ W ≠ l, ?_, ?_⟩
  · refine ⟨_, rfl, p, l, n + 1, 2, rfl, D2, by omega, by omega, by omega, by omega, fun z H3 z0 z1 f3 D3 => ?_⟩
    have hU3 := f3 U _ Up Ul hU
    refine ⟨rfl, _, rfl, ite3 (fun e => ?_) (fun e => ?_)⟩
    · refine ⟨_, rfl, _, rfl, _, _, rfl, .inl (SqL.of hU3), p, l, n + 1 + 1, _, rfl, D3, by omega, by omega, by rw [ln]; have := o.p0; have := o.p1; omega, by rw [ln]; omega, fun a H4 a0 a1 f4 D4 => ?_⟩
      rw [ln] at a1
      have hU4 := f4 U _ Up Ul hU3
      obtain ⟨at', rfl⟩ : ∃ at' : Nat, a = (at' : Int) := ⟨a.toNat, by omega⟩
      refine ⟨_, rfl, _, rfl, _, rfl, U, _, rfl, SqL.of hU4, fun c nc => ?_⟩
      rw [cut_all]
      have sc := same_upd (o := .lst (((nearT T0 m T0.length).map V.int).take at')) nc
      refine ⟨_, rfl, _, rfl, _, rfl, U, _, rfl, SqL.of (sc _ _ hU4), fun g ng => ?_⟩
      rw [cut_from]
      have sg := same_upd (o := .lst (((nearT T0 m T0.length).map V.int).drop at')) ng
      have hc5 := sg _ _ (show upd H4 c (.lst (((nearT T0 m T0.length).map V.int).take at')) c = _ from upd_same)
      have hg5 : upd (upd H4 c (.lst (((nearT T0 m T0.length).map V.int).take at'))) g (.lst (((nearT T0 m T0.length).map V.int).drop at')) g = some (.lst (((nearT T0 m T0.length).map V.int).drop at')) := upd_same
      have s5 := sc.trans sg
      generalize upd (upd H4 c (.lst (((nearT T0 m T0.length).map V.int).take at'))) g (.lst (((nearT T0 m T0.length).map V.int).drop at')) = H5 at hc5 hg5 s5 ⊢
      refine ⟨g, rfl, ⟨_, SqL.of hg5⟩, fun V' nV => ?_⟩
      have ld : (((nearT T0 m T0.length).map V.int).drop at').length = T0.length - at' := by rw [List.length_drop, ln]
      refine lc_mL (fun i => .int (T0.getD (at' + i) 0 + m + 1)) hg5 nV (by omega) ?_ gName_mono ?_
      · intro i x H' hx s' R' hR
        have hi : i < T0.length - at' := by
          have := (List.getElem?_eq_some_iff.mp hx).1
          omega
        rw [List.getElem?_drop, get_int (by rw [nearT_len]; omega), nearT_get (by omega), if_neg (by omega), Int.add_zero] at hx
        have hx := (Option.some.inj hx).symm
        subst hx
        exact ⟨rfl, _, rfl, _, _, rfl, rfl, hR H' (Same.refl _)⟩
      intro H6 s6 hV
      rw [ld] at hV
      refine ⟨c, V', _, _, rfl, rfl, s6 _ _ hc5, hV, ?_, fun W nW => ?_⟩
      · rw [List.length_take, ln, List.length_map, List.length_range]
        exact Nat.le_trans (show min at' T0.length + (T0.length - at') ≤ 20 by omega) (by decide)
      rw [nearT_cat (by omega)]
      have sW := same_upd (o := .lst ((nearT T0 m at').map V.int)) nW
      obtain ⟨Wp, Wl⟩ := ((D4.same s5).same s6).lne nW
      exact ⟨W, at', n + 1 + 1 + 1, _, _, rfl, f2.trans (f3.trans (f4.trans (Same.fr (s5.trans (s6.trans sW))))), ((D4.same s5).same s6).same sW, by omega, by omega, by omega, upd_same, Wp, Wl⟩
    · exact ⟨U, T0.length, n + 1 + 1, _, _, rfl, f2.trans f3, D3, by omega, by omega, Nat.le_refl _, hU3, Up, Ul⟩
  · rintro σ H3 ⟨W, at', n', v4, v6, rfl, f3, D3, a0, a1, al, hW, Wp, Wl⟩
    have hd3 := f3.tup D0 hd
    have lw : (((nearT T0 m at').map V.int).length : Int) = (T0.length : Int) := by rw [List.length_map, nearT_len]
    have p0 := o.p0
    have p1 := o.p1
    refine ⟨_, rfl, _, _, _, _, rfl, rfl, SqT.of hd3, atI_nat (j := 2) rfl, _, rfl, p, l, n', 2, rfl, D3, by omega, by omega, by omega, by omega, fun z H4 z0 z1 f4 D4 => ?_⟩
    have hW4 := f4 W _ Wp Wl hW
    have hd4 := f4.tup D3 hd3
    have lst := last_int (T := nearT T0 m at') (by rw [nearT_len]; omega)
    have gq : ((nearT T0 m at').map V.int)[T0.length - q]? = some (.int ((nearT T0 m at').getD (T0.length - q) 0)) := get_int (by rw [nearT_len]; omega)
    refine ⟨_, _, rfl, rfl, _, rfl, _, rfl, _, _, _, _, rfl, rfl, SqL.of hW4, lst, _, rfl, _, rfl, _, _, rfl, .inl (SqL.of hW4), _, rfl, _, _, _, _, rfl, rfl, SqT.of hd4, atI_nat (j := 1) rfl, _, _, rfl, rfl, _, _, _, _, rfl, rfl, SqL.of hW4, at_of (by rw [lw]; omega) gq, _, _, rfl, rfl, _, _, rfl, ?_⟩
    rw [nearT_len, nearT_get (show T0.length - 1 < T0.length by omega), nearT_get (show T0.length - q < T0.length by omega)]
    obtain ⟨x1, hx1⟩ : ∃ x1, x1 = T0.getD (T0.length - 1) 0 + m + (if at' ≤ T0.length - 1 then 1 else 0) := ⟨_, rfl⟩
    obtain ⟨x2, hx2⟩ : ∃ x2, x2 = T0.getD (T0.length - q) 0 + m + (if at' ≤ T0.length - q then 1 else 0) := ⟨_, rfl⟩
    rw [← hx1, ← hx2]
    obtain ⟨R', hR'⟩ : ∃ R', R' = if x1 - x2 > r + z then x1 - x2 else r + z := ⟨_, rfl⟩
    have e1 : r + z ≤ R' := by rw [hR']; split <;> omega
    have e2 : x1 - x2 ≤ R' := by rw [hR']; split <;> omega
    have tops := b.top (T0.length - 1) (by omega)
    have nns := o.nn (T0.length - q) (by omega)
    have br := b.r1
    have bx1 : x1 ≤ 10003 := by rw [hx1]; split <;> omega
    have bx2 : 0 ≤ x2 := by rw [hx2]; split <;> omega
    have e3 : R' ≤ 10003 := by rw [hR']; split <;> omega
    have ok : RuleOk (nearT T0 m at') q R' := near_ok o m0 (by omega) fun g hg => by rw [hg]; show (T0.getD (T0.length - 1) 0 + m + (if at' ≤ T0.length - 1 then 1 else 0)) - (T0.getD (T0.length - q) 0 + m + (if at' ≤ T0.length - q then 1 else 0)) ≤ R'; rw [← hx1, ← hx2]; exact e2
    have rm : RM 100000 (nearT T0 m at') q R' := by
      refine ⟨by rw [nearT_len]; omega, by omega, fun i hi => ?_⟩
      rw [nearT_len] at hi
      rw [nearT_get hi]
      have := b.top i hi
      split <;> omega
    have zz : ∀ B : Int → Prop, B R' → B (if x1 - x2 > r + z then x1 - x2 else r + z) := fun B h => by rw [← hR']; exact h
    refine zz (fun y => gName 5 (.int y) _ _ _) ?_
    refine ⟨_, rfl, _, _, rfl, .inl ⟨SqL.of hW4, fun t2 nt => ?_⟩⟩
    have st := same_upd (o := .tup ((nearT T0 m at').map V.int)) nt
    refine ⟨_, rfl, _, _, _, _, rfl, rfl, SqT.of (st _ _ hd4), atI_nat (j := 1) rfl, _, rfl, (by show 3 ≤ sizeLine; decide), fun e ne => ?_⟩
    have se := same_upd (o := .tup [.ref t2, .int (q : Int), .int R']) ne
    refine ⟨e, nearT T0 m at', q, R', 100000, rfl, ⟨t2, upd_same, se _ _ upd_same⟩, ok, rm, by decide, by decide, fun H7 e' T' q' r' s7 Re sh hv l' rm' => ?_⟩
    have s8 := st.trans (se.trans s7)
    exact k H7 e' T' q' r' (n' + 1) (f3.trans (f4.trans (Same.fr s8))) (D4.same s8) (by omega) (by omega) Re sh rm' (by rw [nearT_len] at l'; omega)
end
end Sm

set_option Elab.async false
set_option linter.all false
set_option maxRecDepth 100000
set_option maxHeartbeats 16000000
namespace Sm
open PySem PySem.Spec PyProof.Rows L2
open C8 (pss_cut tCut)
/-- Rule(..) of a rule that stands at d -/
theorem new_rule {K : PySem.W.Frag} {cRule d : Addr} {H : Hp} {T : List Int} {p : Nat} {r : Int} {Q : Addr → Hp → Prop} (R : RuleAt H d T p r) (sh : Short T p r) (b : RB T p r) (kk : ∀ a H', Same H H' → RuleO cRule H' a T p r → Q a H') :
    ∀ x dx : Addr, H x = none → H dx = none → dx ≠ x → sp_Rinit K cRule [.ref x, .ref d] (upd (upd H dx (.own x)) x (.ins cRule dx [])) (fun v H' => v = .non ∧ Q x H') E0 := by
  intro x dx nx ndx ne
  have sx : Same H (upd (upd H dx (.own x)) x (.ins cRule dx [])) := fun b o hb => by
    rw [upd_ne (ne_of_none hb nx), upd_ne (ne_of_none hb ndx)]
    exact hb
  refine ⟨x, dx, d, T, p, r, rfl, upd_same, R.same sx, sh, b, fun H' keep O => ⟨rfl, kk x H' (fun b o hb => keep b o (ne_of_none hb nx) (sx b o hb)) O⟩⟩
theorem bb_shw (b1 b2 : Bool) : PyData.showable (.list [.bool b1, .bool b2]) = true ∧ (PyData.list [.bool b1, .bool b2]).depth ≤ 60 ∧ (PyData.list [.bool b1, .bool b2]).shown.length ≤ sizeLine := by
  cases b1 <;> cases b2 <;> exact ⟨by decide, by decide +kernel, by decide +kernel⟩
theorem bel_self {T : List Int} {p : Nat} {r : Int} : belB T p r T p r = false := bel_f fun h => Int.lt_irrefl _ (h 0)
def sp_law (K : PySem.W.Frag) : Sp := fun vs H Q _ => ∃ (a : Addr) (ns : List Int), vs = [.ref a] ∧ SqL K H a (ns.map V.int) ∧ ns.length ≤ 63 ∧ ∀ H', Q (.bl true) H'
section
variable {P : Program} {w : World} {K : PySem.W.Frag} {mg : Str → Option Value} {base : Heap} {cRule fRi fEq fBe fAb : Addr}
abbrev s_l_right : Stmt := topS 51
abbrev N_l_right : List Str := ["_law_mine", "_law_others", "_law_one_here", "_law_other", "_law_under_here", "_law_over"]
theorem sc_l_right : FnScope N_l_right ["_law_mine", "_law_others"] (defScope s_l_right) := ⟨rfl, rfl, rfl, by decide +kernel, rfl, by decide +kernel, by decide +kernel⟩
theorem ok_l_right {f : Addr} {fd fd1 fdE fdB fdA : FuncData} (T : Txt mg) (R : TxR K mg cRule fRi fEq fBe fAb) (G_Rule_init : FnOk P w K mg base CX0 5 fRi fd1 ["self", "value"] (sp_Rinit K cRule)) (b_Rule_init : Binds K fd1 ["self", "value"] [])
    (G_eq : FnOk P w K mg base CX0 1 fEq fdE ["self", "other"] (sp_Req cRule)) (b_eq : Binds K fdE ["self", "other"] []) (G_Rule_is_below : FnOk P w K mg base CX0 4 fBe fdB ["self", "other"] (sp_Rcmp cRule false)) (b_Rule_is_below : Binds K fdB ["self", "other"] [])
    (G_Rule_is_above : FnOk P w K mg base CX0 4 fAb fdA ["self", "other"] (sp_Rcmp cRule true)) (b_Rule_is_above : Binds K fdA ["self", "other"] []) (C_l_under : Cal P w K mg base "_law_under" ["_law_one_here", "_law_other"] 2 (sp_l_under K))
    (F : Fun K "_law_right" "_law_right" s_l_right f fd) : FnG P w K mg base 7 f fd ["_law_mine", "_law_others"] (sp_l_right K) := by
  obtain ⟨f_l_under, fd_l_under, G_l_under, m_l_under, k_l_under, b_l_under⟩ := C_l_under
  have g_Rule := R.g
  have Mk_Rule := R.mak
  have Cl_Rule := R.ins.cl
  have Me_Rule_is_below := R.meB
  have Me_Rule_is_above := R.meA
  have M_eq := R.mEq
  refine FnG.body F sc_l_right (fun vs H Q E h => ?_) (fun cdv A outer s H vs Q E gu hr h => ?_)
  · obtain ⟨d1, d2, T1, T2, p1, p2, r1, r2, rfl, _⟩ := h
    rfl
  obtain ⟨d1, d2, T1, T2, p1, p2, r1, r2, rfl, R1, R2, h1, h2, b1, b2, q1, q2, kk⟩ := h
  have o1 := h1.ok
  have o2 := h2.ok
  have bb1 := b1.rb (by decide)
  have bb2 := b2.rb (by decide)
  refine ⟨_, (pss_cons (ps_par (i := 2) (j := 3) (by rfl) sc_l_right.nd rfl rfl (by decide) rfl rfl (pa_cons (pe_make Mk_Rule G_Rule_init (hr.mono (by decide)) (by rfl) g_Rule b_Rule_init .nil pass0 (pa_cons (pv 0) pa_nil)) (pa_cons (pe_make Mk_Rule G_Rule_init (hr.mono (by decide)) (by rfl) g_Rule b_Rule_init .nil pass0 (pa_cons (pv 1) pa_nil)) pa_nil)) (by rfl))
    (pss_cons (ps_par (i := 4) (j := 5) (by rfl) sc_l_right.nd rfl rfl (by decide) rfl rfl (pa_cons (pe_call G_l_under (hr.mono (by decide)) (by rfl) m_l_under k_l_under b_l_under .nil pass0 (pa_cons (pv 0) (pa_cons (pv 1) pa_nil))) (pa_cons (pe_call G_l_under (hr.mono (by decide)) (by rfl) m_l_under k_l_under b_l_under .nil pass0 (pa_cons (pv 1) (pa_cons (pv 0) pa_nil))) pa_nil)) (by rfl))
    (pss_cons (ps_if (pt_cmpR op_ne (pe_callB (call_reprQ gu ⟨_, hr⟩) (by rfl) T.n_repr (by decide +kernel) (pa_cons (pe_lstN (pa_cons (pe_meth (pv 2) Cl_Rule Me_Rule_is_below G_Rule_is_below (hr.mono (by decide)) b_Rule_is_below .nil pass0 (pa_cons (pv 3) pa_nil)) (pa_cons (pe_meth (pv 2) Cl_Rule Me_Rule_is_above G_Rule_is_above (hr.mono (by decide)) b_Rule_is_above .nil pass0 (pa_cons (pv 3) pa_nil)) pa_nil))) pa_nil)) (pe_callB (call_reprQ gu ⟨_, hr⟩) (by rfl) T.n_repr (by decide +kernel) (pa_cons (pe_lstN (pa_cons (pv 4) (pa_cons (pv 5) pa_nil))) pa_nil)) (nomark _)) (pss_one (ps_ret pe_bl)) pss_nil)
    (pss_cons (ps_if (pt_cmpR op_ne (pe_callB (call_reprQ gu ⟨_, hr⟩) (by rfl) T.n_repr (by decide +kernel) (pa_cons (pe_lstN (pa_cons (pe_meth (pv 3) Cl_Rule Me_Rule_is_below G_Rule_is_below (hr.mono (by decide)) b_Rule_is_below .nil pass0 (pa_cons (pv 2) pa_nil)) (pa_cons (pe_meth (pv 3) Cl_Rule Me_Rule_is_above G_Rule_is_above (hr.mono (by decide)) b_Rule_is_above .nil pass0 (pa_cons (pv 2) pa_nil)) pa_nil))) pa_nil)) (pe_callB (call_reprQ gu ⟨_, hr⟩) (by rfl) T.n_repr (by decide +kernel) (pa_cons (pe_lstN (pa_cons (pv 5) (pa_cons (pv 4) pa_nil))) pa_nil)) (nomark _)) (pss_one (ps_ret pe_bl)) pss_nil)
    (pss_one (ps_ret (pe_and (pe_cmpR op_isBl (pe_meth (pv 2) Cl_Rule Me_Rule_is_below G_Rule_is_below (hr.mono (by decide)) b_Rule_is_below .nil pass0 (pa_cons (pv 2) pa_nil)) pe_bl (nomark _)) (pe_and (pe_cmpR op_isBl (pe_meth (pv 2) Cl_Rule Me_Rule_is_above G_Rule_is_above (hr.mono (by decide)) b_Rule_is_above .nil pass0 (pa_cons (pv 2) pa_nil)) pe_bl (nomark _)) (pe_one (pe_cmpR (op_eqO M_eq G_eq b_eq (hr.mono (by decide)) pass0) (pv 2) (pe_make Mk_Rule G_Rule_init (hr.mono (by decide)) (by rfl) g_Rule b_Rule_init .nil pass0 (pa_cons (pv 0) pa_nil)) (nomark _))))))))))), ?_⟩
  refine ⟨_, rfl, new_rule R1 h1 bb1 fun a H1 s1 A1 => ?_⟩
  refine ⟨_, rfl, new_rule (R2.same s1) h2 bb2 fun b H2 s2 B2 => ?_⟩
  refine ⟨_, _, rfl, ?_⟩
  have t2 := s1.trans s2
  have A2 := A1.same s2
  refine ⟨_, rfl, _, rfl, d1, d2, T1, T2, p1, p2, r1, r2, rfl, R1.same t2, R2.same t2, o1, o2, b1, b2, q1, q2, fun H3 s3 => ?_⟩
  have t3 := t2.trans s3
  refine ⟨_, rfl, _, rfl, d2, d1, T2, T1, p2, p1, r2, r1, rfl, R2.same t3, R1.same t3, o2, o1, b2, b1, q2, q1, fun H4 s4 => ?_⟩
  refine ⟨_, _, rfl, ?_⟩
  have t4 := t3.trans s4
  have A4 := A2.same (s3.trans s4)
  have B4 := B2.same (s3.trans s4)
  clear A1 A2 B2 s1 s2 s3 s4 t2 t3
  obtain ⟨dxa, da, ta, ha, RA⟩ := A4.at
  obtain ⟨dxb, db, tb, hb, RB'⟩ := B4.at
  -- one against the other
  refine ⟨_, rfl, a, dxa, _, rfl, ha, rfl, _, rfl, a, b, T1, T2, p1, p2, r1, r2, rfl, A4, B4, o1, o2, b1, b2, q1, q2, fun H5 s5 => ?_⟩
  refine ⟨_, rfl, a, dxa, _, rfl, s5 _ _ ha, rfl, _, rfl, a, b, T1, T2, p1, p2, r1, r2, rfl, A4.same s5, B4.same s5, o1, o2, b1, b2, q1, q2, fun H6 s6 => ?_⟩
  obtain ⟨z1, z2, z3⟩ := bb_shw (belB T1 p1 r1 T2 p2 r2) (belB T2 p2 r2 T1 p1 r1)
  refine ⟨(by show 2 ≤ sizeLine; decide), fun u nu eu => ?_⟩
  have s7 := same_upd (o := .lst [.bl (belB T1 p1 r1 T2 p2 r2), .bl (belB T2 p2 r2 T1 p1 r1)]) nu
  refine ⟨_, _, rfl, .lst upd_same eu (.cons (.bl _) (.cons (.bl _) .nil)), z1, z2, z3, ?_⟩
  refine ⟨_, rfl, _, rfl, (by show 2 ≤ sizeLine; decide), fun v nv ev => ?_⟩
  have s8 := same_upd (o := .lst [.bl (belB T1 p1 r1 T2 p2 r2), .bl (belB T2 p2 r2 T1 p1 r1)]) nv
  refine ⟨_, _, rfl, .lst upd_same ev (.cons (.bl _) (.cons (.bl _) .nil)), z1, z2, z3, ?_⟩
  refine ⟨rfl, _, rfl, iteNP rfl ?_⟩
  have s58 := s5.trans (s6.trans (s7.trans s8))
  have t8 := t4.trans s58
  have A8 := A4.same s58
  have B8 := B4.same s58
  have ha := s58 _ _ ha
  have hb := s58 _ _ hb
  clear s5 s6 s7 s8 s58 t4 A4 B4 nu nv eu ev z1 z2 z3
  -- the other against the one
  refine ⟨_, rfl, b, dxb, _, rfl, hb, rfl, _, rfl, b, a, T2, T1, p2, p1, r2, r1, rfl, B8, A8, o2, o1, b2, b1, q2, q1, fun H9 s9 => ?_⟩
  refine ⟨_, rfl, b, dxb, _, rfl, s9 _ _ hb, rfl, _, rfl, b, a, T2, T1, p2, p1, r2, r1, rfl, B8.same s9, A8.same s9, o2, o1, b2, b1, q2, q1, fun H10 s10 => ?_⟩
  obtain ⟨z1, z2, z3⟩ := bb_shw (belB T2 p2 r2 T1 p1 r1) (belB T1 p1 r1 T2 p2 r2)
  refine ⟨(by show 2 ≤ sizeLine; decide), fun u nu eu => ?_⟩
  have s7 := same_upd (o := .lst [.bl (belB T2 p2 r2 T1 p1 r1), .bl (belB T1 p1 r1 T2 p2 r2)]) nu
  refine ⟨_, _, rfl, .lst upd_same eu (.cons (.bl _) (.cons (.bl _) .nil)), z1, z2, z3, ?_⟩
  refine ⟨_, rfl, _, rfl, (by show 2 ≤ sizeLine; decide), fun v nv ev => ?_⟩
  have s8 := same_upd (o := .lst [.bl (belB T2 p2 r2 T1 p1 r1), .bl (belB T1 p1 r1 T2 p2 r2)]) nv
  refine ⟨_, _, rfl, .lst upd_same ev (.cons (.bl _) (.cons (.bl _) .nil)), z1, z2, z3, ?_⟩
  refine ⟨rfl, _, rfl, iteNP rfl ?_⟩
  have s58 := s9.trans (s10.trans (s7.trans s8))
  have t9 := t8.trans s58
  have A9 := A8.same s58
  have ha := s58 _ _ ha
  clear s7 s8 s9 s10 s58 t8 A8 B8 nu nv eu ev z1 z2 z3 hb
  -- the one against itself
  refine ⟨_, rfl, a, dxa, _, rfl, ha, rfl, _, rfl, a, a, T1, T1, p1, p1, r1, r1, rfl, A9, A9, o1, o1, b1, b1, q1, q1, fun H11 s11 => ?_⟩
  rw [if_neg Bool.false_ne_true, bel_self]
  refine ⟨_, _, rfl, rfl, _, rfl, iteT ?_⟩
  refine ⟨_, rfl, a, dxa, _, rfl, s11 _ _ ha, rfl, _, rfl, a, a, T1, T1, p1, p1, r1, r1, rfl, A9.same s11, A9.same s11, o1, o1, b1, b1, q1, q1, fun H12 s12 => ?_⟩
  rw [if_pos rfl, bel_self]
  refine ⟨_, _, rfl, rfl, _, rfl, iteT ?_⟩
  have t12 := t9.trans (s11.trans s12)
  refine ⟨_, rfl, _, rfl, new_rule (R1.same t12) h1 bb1 fun c H13 s13 C => ?_⟩
  have A13 := A9.same (s11.trans (s12.trans s13))
  obtain ⟨dxa', _, _, ha', _⟩ := A13.at
  obtain ⟨dxc, _, _, hc, _⟩ := C.at
  exact ⟨a, dxa', _, c, dxc, _, rfl, rfl, ha', hc, a, c, T1, p1, r1, rfl, A13, C, kk H13 (t12.trans s13)⟩
end
end Sm

set_option Elab.async false
set_option linter.all false
set_option maxRecDepth 100000
set_option maxHeartbeats 4000000
namespace Sm
open PySem PySem.Spec PyProof.Rows L2
/-! ### a tuple taken once, or no times -/
theorem tuple_once (l : Addr) (items : Array Value) (n : Nat) (dd : Option Addr) (sl : Array (Option Value)) (u : Tok) :
    Meets (Builtin.«tuple.__mul__» ⟨[.ref l, .int 1 u], []⟩) (fun _ R s => s.heap.get? l = some { cls := .type "tuple", dict := dd, data := .seq items n, slots := sl } ∧ R (.ok (.ret (Value.ref l))) s) :=
  .of_wp fun prog w A R s h => by
    obtain ⟨hp, g, d, tk, os⟩ := s
    obtain ⟨hl, h⟩ := h
    have f1 := AutoSeq1.idx_int
    have c0 : (decide ((1 : Int) < -(2 ^ 63)) || decide ((1 : Int) ≥ 2 ^ 63)) = false := by decide
    wp_walk using wpAny_loadPart' hl
    exact ⟨_, rfl, h⟩
theorem tuple_zero (l : Addr) (items : Array Value) (n : Nat) (dd : Option Addr) (sl : Array (Option Value)) (u : Tok) (hi : items.isEmpty = false) :
    Meets (Builtin.«tuple.__mul__» ⟨[.ref l, .int 0 u], []⟩) (fun _ R s => s.heap.get? l = some { cls := .type "tuple", dict := dd, data := .seq items n, slots := sl } ∧ R (.ok (.ret (Value.ref s.heap.objs.size))) { s with heap := s.heap.push { cls := Value.type "tuple", data := Data.seq #[] } }) :=
  .of_wp fun prog w A R s h => by
    obtain ⟨hp, g, d, tk, os⟩ := s
    obtain ⟨hl, h⟩ := h
    have f1 := AutoSeq1.idx_int
    wp_walk using wpAny_loadPart' hl
    exact ⟨_, rfl, h⟩
section
variable {X : Cx}
/-- tuple * int, the int from 0 on -/
theorem op_rep0 : OpR X (binaryOp .Mult) (fun x y H Q => ∃ (l : Addr) (k : Int) (xs : List V), x = .ref l ∧ y = .int k ∧ H l = some (.tup xs) ∧ xs ≠ [] ∧ 0 ≤ k ∧ k ≤ 1000 ∧ xs.length ≤ 1000 ∧
    ∀ H' q, Same H H' → H' q = some (.tup (List.replicate k.toNat xs).flatten) → Q (.ref q) H') := by
  intro pins s σ H x y v u Q I rx ry want
  obtain ⟨l, k, xs, rfl, rfl, hT, hne, h0, h1, hz, q⟩ := want
  by_cases big : 2 ≤ k
  · exact op_repT pins s σ H _ _ v u Q I rx ry ⟨l, k, xs, rfl, rfl, SqT.of hT, hne, big, h1, hz, fun p np => q _ p (fun b o e => by rw [upd_ne (ne_of_none e np)]; exact e) upd_same⟩
  cases rx
  obtain ⟨t, rfl⟩ := ry
  obtain ⟨its, r, ⟨⟨cls, dd, data, sl⟩, ho, hc, n, hd⟩, hs⟩ := I.tuple (SqT.of hT)
  simp only at hc hd
  subst hc hd
  have hi : its.toArray.isEmpty = false := by
    cases its with
    | nil =>
      have := r.length
      exact absurd (List.eq_nil_of_length_eq_zero this) hne
    | cons a b => rfl
  by_cases one : k = 1
  · subst one
    refine wpAny_binaryOp_repeat_ref (T := "tuple") (U := "int") (by decide) ⟨_, ho, rfl⟩ (fun s' => typeIs_int s' 1 t) noFill_tuple_mul F.fills_int_mul F.slot_int_rmul repeat_tuple F.slot_int_index.lookup
      (call_meets F.slot_int_rmul (typeIs_int s 1 t) F.entry_int_rmul (F.args_int_rmul_2 _ _) (int_rmul_tuple 1 t l its.toArray n dd sl) ⟨ho, rfl, ⟨_, ho, rfl⟩, ?_⟩)
    refine call_meets F.slot_tuple_mul ⟨_, ho, rfl⟩ F.entry_tuple_mul (F.args_tuple_mul_2 _ _) (tuple_once l its.toArray n dd sl t) ⟨ho, ?_⟩
    refine ⟨.ref l, H, I, rfl, q H l (Same.refl H) ?_⟩
    rw [hT]
    simp
  · have zero : k = 0 := by omega
    subst zero
    refine wpAny_binaryOp_repeat_ref (T := "tuple") (U := "int") (by decide) ⟨_, ho, rfl⟩ (fun s' => typeIs_int s' 0 t) noFill_tuple_mul F.fills_int_mul F.slot_int_rmul repeat_tuple F.slot_int_index.lookup
      (call_meets F.slot_int_rmul (typeIs_int s 0 t) F.entry_int_rmul (F.args_int_rmul_2 _ _) (int_rmul_tuple 0 t l its.toArray n dd sl) ⟨ho, rfl, ⟨_, ho, rfl⟩, ?_⟩)
    refine call_meets F.slot_tuple_mul ⟨_, ho, rfl⟩ F.entry_tuple_mul (F.args_tuple_mul_2 _ _) (tuple_zero l its.toArray n dd sl t hi) ⟨ho, ?_⟩
    have fresh := I.hok.fresh (Nat.le_refl s.heap.objs.size)
    refine ⟨.ref s.heap.objs.size, upd H s.heap.objs.size (.tup []), I.laid (t' := s.toks) (fun b ob e => Heap.get?_push_of_some _ e) (Nat.le_refl _) ?_, rfl, q _ _ (fun b o e => by rw [upd_ne (ne_of_none e fresh)]; exact e) upd_same⟩
    exact ⟨Nat.zero_le _, [], .nil, IsTup.new _ _⟩
end
end Sm

set_option Elab.async false
set_option linter.all false
set_option maxRecDepth 100000
set_option maxHeartbeats 16000000
namespace Sm
open PySem PySem.Spec PyProof.Rows L2
open C8 (pss_cut tCut)
theorem rep_one (n : Nat) (x : Int) : (List.replicate n [V.int x]).flatten = (List.replicate n x).map V.int := by
  rw [List.flatten_replicate_singleton, List.map_replicate]
theorem RM.mem {M r : Int} {T : List Int} {p : Nat} (M0 : 0 ≤ M) (l : T.length ≤ 60) (r1 : r ≤ M) (h : ∀ x, x ∈ T → x ≤ M) : RM M T p r := ⟨l, r1, fun i hi => by
  rw [List.getD_eq_getElem?_getD, List.getElem?_eq_getElem hi]
  exact h _ (List.getElem_mem _)⟩
section
variable {P : Program} {w : World} {K : PySem.W.Frag} {mg : Str → Option Value} {base : Heap} {cRule fRi fEq fBe fAb : Addr}
abbrev s_law : Stmt := topS 52
abbrev N_law : List Str := ["_law_script", "_law_deck_here", "_law_turn", "_law_mine", "_law_others", "_law_few", "_law_late"]
theorem sc_law : FnScope N_law ["_law_script"] (defScope s_law) := ⟨rfl, rfl, rfl, by decide +kernel, rfl, by decide +kernel, by decide +kernel⟩
theorem ok_lawG {f : Addr} {fd : FuncData} (T : Txt mg) (F : Fun K "law" "law" s_law f fd) {f_l_right : Addr} {fd_l_right : FuncData} (G_l_right : FnG P w K mg base 7 f_l_right fd_l_right ["_law_mine", "_law_others"] (sp_l_right K)) (m_l_right : mg "_law_right" = some (.ref f_l_right)) (k_l_right : PySem.W.keepIn K (.ref f_l_right) = true) (b_l_right : L2.Binds K fd_l_right ["_law_mine", "_law_others"] []) (C_l_draw : Cal P w K mg base "_law_draw" ["_law_deck_here", "_law_many"] 1 (sp_l_draw K)) (C_l_near : Cal P w K mg base "_law_near" ["_law_deck_here", "_law_rule"] 4 (sp_l_near K)) (C_l_short : Cal P w K mg base "_law_short" ["_law_rule"] 3 (sp_l_short K)) (C_l_drawn : Cal P w K mg base "_law_drawn" ["_law_deck_here", "_law_upto"] 2 (sp_l_drawn K)) (C_l_deck : Cal P w K mg base "_law_deck" ["_law_script"] 1 (sp_l_deck K)) : FnG P w K mg base 8 f fd ["_law_script"] (sp_law K) := by
  obtain ⟨f_l_draw, fd_l_draw, G_l_draw, m_l_draw, k_l_draw, b_l_draw⟩ := C_l_draw
  obtain ⟨f_l_near, fd_l_near, G_l_near, m_l_near, k_l_near, b_l_near⟩ := C_l_near
  obtain ⟨f_l_short, fd_l_short, G_l_short, m_l_short, k_l_short, b_l_short⟩ := C_l_short
  obtain ⟨f_l_drawn, fd_l_drawn, G_l_drawn, m_l_drawn, k_l_drawn, b_l_drawn⟩ := C_l_drawn
  obtain ⟨f_l_deck, fd_l_deck, G_l_deck, m_l_deck, k_l_deck, b_l_deck⟩ := C_l_deck
  refine FnG.body F sc_law (fun vs H Q E h => ?_) (fun cdv A outer s H vs Q E gu hr h => ?_)
  · obtain ⟨a, ns, rfl, _⟩ := h
    rfl
  obtain ⟨a, ns, rfl, hS, hlen, kk⟩ := h
  refine ⟨_, (pss_cons (ps_set (i := 1) sc_law.nd rfl (Or.inl rfl) (pe_call G_l_deck (hr.mono (by decide)) (by rfl) m_l_deck k_l_deck b_l_deck .nil pass0 (pa_cons (pv 0) pa_nil)))
    (pss_cons (ps_for PassesOwn.never rfl (pi_range1 (by rfl) T.n_range (pa_cons pe_int pa_nil)) (pg_name (i := 2) sc_law.nd rfl (Or.inl rfl))
      (pss_cons (ps_set (i := 3) sc_law.nd rfl (Or.inl rfl) (pe_call G_l_short (hr.mono (by decide)) (by rfl) m_l_short k_l_short b_l_short .nil pass0 (pa_cons (pe_call G_l_drawn (hr.mono (by decide)) (by rfl) m_l_drawn k_l_drawn b_l_drawn .nil pass0 (pa_cons (pv 1) (pa_cons pe_int pa_nil))) pa_nil)))
    (pss_cons (ps_set (i := 4) sc_law.nd rfl (Or.inl rfl) (pe_ifExp (pt_cmpR op_lt (pv 2) pe_int (nomark _)) (pe_call G_l_near (hr.mono (by decide)) (by rfl) m_l_near k_l_near b_l_near .nil pass0 (pa_cons (pv 1) (pa_cons (pv 3) pa_nil))) (pe_call G_l_short (hr.mono (by decide)) (by rfl) m_l_short k_l_short b_l_short .nil pass0 (pa_cons (pe_call G_l_drawn (hr.mono (by decide)) (by rfl) m_l_drawn k_l_drawn b_l_drawn .nil pass0 (pa_cons (pv 1) (pa_cons pe_int pa_nil))) pa_nil))))
    (pss_one (ps_if (pt_not (pt_val (pe_callG G_l_right gu (hr.mono (by decide)) (by rfl) m_l_right k_l_right b_l_right (pa_cons (pv 3) (pa_cons (pv 4) pa_nil))))) (pss_one (ps_ret pe_bl)) pss_nil)))))
    (pss_cons (ps_set (i := 5) sc_law.nd rfl (Or.inl rfl) (pe_op op_add pe_int (pe_call G_l_draw (hr.mono (by decide)) (by rfl) m_l_draw k_l_draw b_l_draw .nil pass0 (pa_cons (pv 1) (pa_cons pe_int pa_nil)))))
    (pss_cons (ps_if (pt_not (pt_val (pe_callG G_l_right gu (hr.mono (by decide)) (by rfl) m_l_right k_l_right b_l_right (pa_cons (pe_tup (pa_cons (pe_op op_rep0 (pe_tup (pa_cons pe_int pa_nil)) pe_int) (pa_cons pe_int (pa_cons pe_int pa_nil)))) (pa_cons (pe_tup (pa_cons (pe_op op_catA (pe_op op_rep0 (pe_tup (pa_cons (pv 5) pa_nil)) pe_int) (pe_op op_rep0 (pe_tup (pa_cons (pe_op op_add (pv 5) pe_int) pa_nil)) pe_int)) (pa_cons pe_int (pa_cons pe_int pa_nil)))) pa_nil))))) (pss_one (ps_ret pe_bl)) pss_nil)
    (pss_cons (ps_set (i := 6) sc_law.nd rfl (Or.inl rfl) (pe_op op_add (pe_op op_pow pe_int pe_int) (pe_call G_l_draw (hr.mono (by decide)) (by rfl) m_l_draw k_l_draw b_l_draw .nil pass0 (pa_cons (pv 1) (pa_cons (pe_op op_pow pe_int pe_int) pa_nil)))))
    (pss_one (ps_ret (pe_and (pe_callG G_l_right gu (hr.mono (by decide)) (by rfl) m_l_right k_l_right b_l_right (pa_cons (pe_tup (pa_cons (pe_tup (pa_cons (pv 6) pa_nil)) (pa_cons pe_int (pa_cons pe_int pa_nil)))) (pa_cons (pe_tup (pa_cons (pe_tup (pa_cons pe_int pa_nil)) (pa_cons pe_int (pa_cons pe_int pa_nil)))) pa_nil))) (pe_one (pe_callG G_l_right gu (hr.mono (by decide)) (by rfl) m_l_right k_l_right b_l_right (pa_cons (pe_tup (pa_cons (pe_tup (pa_cons pe_int pa_nil)) (pa_cons pe_int (pa_cons pe_int pa_nil)))) (pa_cons (pe_tup (pa_cons (pe_tup (pa_cons pe_int (pa_cons pe_int (pa_cons pe_int pa_nil)))) (pa_cons pe_int (pa_cons pe_int pa_nil)))) pa_nil)))))))))))), ?_⟩
  refine ⟨_, rfl, a, ns, rfl, hS, hlen, fun H1 p l s1 D1 => ?_⟩
  refine ⟨10, rfl, (by decide), (by decide), for_range (lo := 0) (n := 10) (fun i σ H' => ∃ (n : Int) (v2 v3 v4 v5 v6 : Option V), σ = [some (.ref a), some (.ref p), v2, v3, v4, v5, v6] ∧ Deck H' p l n ∧ 0 ≤ n ∧ n ≤ 1000 * (i : Int))
    ⟨0, none, none, none, none, none, rfl, D1, by omega, by omega⟩ ?_ ?_⟩
  · rintro i σ H2 hi ⟨n, v2, v3, v4, v5, v6, rfl, D2, n0, n1⟩
    refine ⟨_, rfl, p, l, n, 6, rfl, D2, n0, by omega, by decide, by decide, fun H3 d T3 q3 r3 n3 f3 D3 a0 a1 R3 o3 b3 l3 => ?_⟩
    refine ⟨d, T3, q3, r3, 100, rfl, R3, o3, b3, by decide, by decide, fun H4 e T4 q4 r4 s4 R4 o4 _ l4 b4 => ?_⟩
    have D4 := D3.same s4
    have f4 : Fr p l H2 H4 := f3.trans (Same.fr s4)
    refine ⟨_, rfl, ?_⟩
    refine ⟨_, _, rfl, rfl, _, rfl, ?_⟩
    rcases Int.lt_or_le (0 + (i : Int)) 7 with c | c
    · refine iteP c ?_
      refine ⟨_, rfl, _, rfl, p, l, e, n3, T4, q4, r4, rfl, D4, by omega, by omega, R4, o4.ok, b4, by omega, fun H5 e5 T5 q5 r5 n5 f5 D5 c0 c1 R5 o5 b5 l5 => ?_⟩
      refine ⟨_, rfl, _, rfl, e, e5, T4, T5, q4, q5, r4, r5, rfl, R4.fr f5 D4, R5, o4, o5, b4.up (by decide), b5.up (by decide), by have := o4.ok.p1; omega, by have := o5.ok.p1; omega, fun H6 s6 => ?_⟩
      exact ⟨_, rfl, iteF ⟨n5, _, _, _, _, _, rfl, D5.same s6, by omega, by omega⟩⟩
    · refine iteN (by omega) ?_
      refine ⟨_, rfl, p, l, n3, 6, rfl, D4, by omega, by omega, by decide, by decide, fun H5 e5 T5 q5 r5 n5 f5 D5 c0 c1 R5 o5 b5 l5 => ?_⟩
      refine ⟨e5, T5, q5, r5, 100, rfl, R5, o5, b5, by decide, by decide, fun H6 e6 T6 q6 r6 s6 R6 o6 _ l6 b6 => ?_⟩
      refine ⟨_, rfl, _, rfl, e, e6, T4, T6, q4, q6, r4, r6, rfl, (R4.fr f5 D4).same s6, R6, o4, o6, b4.up (by decide), b6.up (by decide), by have := o4.ok.p1; omega, by have := o6.ok.p1; omega, fun H7 s7 => ?_⟩
      exact ⟨_, rfl, iteF ⟨n5, _, _, _, _, _, rfl, (D5.same s6).same s7, by omega, by omega⟩⟩
  · rintro σ H2 ⟨n, v2, v3, v4, v5, v6, rfl, D2, n0, n1⟩
    refine ⟨_, rfl, p, l, n, 3, rfl, D2, n0, by omega, by decide, by decide, fun c H3 c0 c1 f3 D3 => ?_⟩
    refine ⟨_, _, rfl, rfl, ?_⟩
    -- no purchase in thirty nine, against forty
    have D3 := D3
    refine ⟨(by show 1 ≤ sizeLine; decide), fun u nu => ?_⟩
    have D4 := D3.same (same_upd (o := .tup [.int 0]) nu)
    have hu : upd H3 u (.tup [.int 0]) u = some (.tup [.int 0]) := upd_same
    generalize upd H3 u (.tup [.int 0]) = H4 at D4 hu ⊢
    refine ⟨u, 39, _, rfl, rfl, hu, List.cons_ne_nil _ _, by decide, by decide, by show 1 ≤ 1000; decide, fun H5 t1 s5 h1 => ?_⟩
    rw [show (39 : Int).toNat = 39 from rfl, rep_one] at h1
    have D5 := D4.same s5
    refine ⟨(by show 3 ≤ sizeLine; decide), fun d1 nd => ?_⟩
    have sd := same_upd (o := .tup [.ref t1, .int 39, .int 39]) nd
    have D6 := D5.same sd
    have R1 : RuleAt (upd H5 d1 (.tup [.ref t1, .int 39, .int 39])) d1 (List.replicate 39 0) 39 39 := ⟨t1, upd_same, sd _ _ h1⟩
    generalize upd H5 d1 (.tup [.ref t1, .int 39, .int 39]) = H6 at D6 R1 ⊢
    refine ⟨_, rfl, (by show 1 ≤ sizeLine; decide), fun u2 nu2 => ?_⟩
    have su2 := same_upd (o := .tup [.int (9 + c)]) nu2
    have D7 := D6.same su2
    have R1 := R1.same su2
    have hu2 : upd H6 u2 (.tup [.int (9 + c)]) u2 = some (.tup [.int (9 + c)]) := upd_same
    generalize upd H6 u2 (.tup [.int (9 + c)]) = H7 at D7 R1 hu2 ⊢
    refine ⟨u2, 11, _, rfl, rfl, hu2, List.cons_ne_nil _ _, by decide, by decide, by show 1 ≤ 1000; decide, fun H8 t2 s8 h2 => ?_⟩
    rw [show (11 : Int).toNat = 11 from rfl, rep_one] at h2
    refine ⟨_, rfl, _, _, rfl, rfl, (by show 1 ≤ sizeLine; decide), fun u3 nu3 => ?_⟩
    have su3 := same_upd (o := .tup [.int (9 + c + 40)]) nu3
    have D9 := (D7.same s8).same su3
    have R1 := (R1.same s8).same su3
    have h2 := su3 _ _ h2
    have hu3 : upd H8 u3 (.tup [.int (9 + c + 40)]) u3 = some (.tup [.int (9 + c + 40)]) := upd_same
    generalize upd H8 u3 (.tup [.int (9 + c + 40)]) = H9 at D9 R1 h2 hu3 ⊢
    refine ⟨u3, 29, _, rfl, rfl, hu3, List.cons_ne_nil _ _, by decide, by decide, by show 1 ≤ 1000; decide, fun H10 t3 s10 h3 => ?_⟩
    rw [show (29 : Int).toNat = 29 from rfl, rep_one] at h3
    have D10 := D9.same s10
    have R1 := R1.same s10
    have h2 := s10 _ _ h2
    refine cat_uni h2 h3 (by rw [List.length_map, List.length_map, List.length_replicate, List.length_replicate]; decide) fun t4 H11 s11 h4 => ?_
    rw [← List.map_append] at h4
    have D11 := D10.same s11
    have R1 := R1.same s11
    refine ⟨(by show 3 ≤ sizeLine; decide), fun d2 nd2 => ?_⟩
    have sd2 := same_upd (o := .tup [.ref t4, .int 40, .int 40]) nd2
    have D12 := D11.same sd2
    have R1 := R1.same sd2
    have R2 : RuleAt (upd H11 d2 (.tup [.ref t4, .int 40, .int 40])) d2 (List.replicate 11 (9 + c) ++ List.replicate 29 (9 + c + 40)) 40 40 := ⟨t4, upd_same, sd2 _ _ h4⟩
    generalize upd H11 d2 (.tup [.ref t4, .int 40, .int 40]) = H12 at D12 R1 R2 ⊢
    refine ⟨d1, d2, _, _, 39, 40, 39, 40, rfl, R1, R2, rep_short (by decide) (by decide), two_short (by omega), ?_, ?_, by decide, by decide, fun H13 s13 => ?_⟩
    · refine .mem (by decide) (by rw [List.length_replicate]; decide) (by decide) fun x hx => ?_
      rw [(List.mem_replicate.mp hx).2]
      decide
    · refine .mem (by decide) (by rw [List.length_append, List.length_replicate, List.length_replicate]; decide) (by decide) fun x hx => ?_
      rcases List.mem_append.mp hx with hx | hx
      · rw [(List.mem_replicate.mp hx).2]
        omega
      · rw [(List.mem_replicate.mp hx).2]
        omega
    refine ⟨_, rfl, iteF ?_⟩
    have D13 := D12.same s13
    clear R1 R2 D12 D11 D10 D9 D7 D6 D5 D4 h1 h2 h3 h4 hu hu2 hu3 su2 su3 sd sd2 s5 s8 s10 s11 nu nu2 nu3 nd nd2
    -- a late rise, and a steep one
    refine ⟨_, _, rfl, rfl, ⟨by decide, by decide, by decide⟩, ?_⟩
    refine ⟨_, rfl, _, _, rfl, rfl, ⟨by decide, by decide, by decide⟩, ?_⟩
    refine ⟨p, l, n + 1, _, rfl, D13, by omega, by omega, by decide, by decide, fun e H14 e0 e1 f14 D14 => ?_⟩
    refine ⟨_, _, rfl, rfl, ?_⟩
    have ep : ∃ late : Int, (fun i j : Int => V.int (i + j)) (10 ^ Int.toNat 9) e = V.int late ∧ 0 ≤ late ∧ late ≤ 10000000000 := ⟨1000000000 + e, rfl, by omega, by have e1 : e < 1000000 := e1; omega⟩
    obtain ⟨late, el, late0, late1⟩ := ep
    rw [el]
    clear el
    refine ⟨_, rfl, (by show 1 ≤ sizeLine; decide), fun t1 n1 => ?_⟩
    have h1 : upd H14 t1 (.tup [.int late]) t1 = some (.tup [.int late]) := upd_same
    generalize upd H14 t1 (.tup [.int late]) = H15 at h1 ⊢
    refine ⟨(by show 3 ≤ sizeLine; decide), fun d1 nd1 => ?_⟩
    have R1 : RuleAt (upd H15 d1 (.tup [.ref t1, .int 1, .int 1])) d1 [late] 1 1 := ⟨t1, upd_same, same_upd nd1 _ _ h1⟩
    clear h1 nd1
    generalize upd H15 d1 (.tup [.ref t1, .int 1, .int 1]) = H16 at R1 ⊢
    refine ⟨(by show 1 ≤ sizeLine; decide), fun t2 n2 => ?_⟩
    have R1 := R1.same (same_upd (o := .tup [.int 0]) n2)
    have h2 : upd H16 t2 (.tup [.int 0]) t2 = some (.tup [.int 0]) := upd_same
    generalize upd H16 t2 (.tup [.int 0]) = H17 at R1 h2 ⊢
    refine ⟨(by show 3 ≤ sizeLine; decide), fun d2 nd2 => ?_⟩
    have R1 := R1.same (same_upd (o := .tup [.ref t2, .int 1, .int 2]) nd2)
    have R2 : RuleAt (upd H17 d2 (.tup [.ref t2, .int 1, .int 2])) d2 [0] 1 2 := ⟨t2, upd_same, same_upd nd2 _ _ h2⟩
    clear h2 nd2
    generalize upd H17 d2 (.tup [.ref t2, .int 1, .int 2]) = H18 at R1 R2 ⊢
    refine ⟨d1, d2, _, _, 1, 1, 1, 2, rfl, R1, R2, one_short late0 (by decide), one_short (by decide) (by decide), ?_, ?_, by decide, by decide, fun H19 s19 => ?_⟩
    · refine .mem (by decide) (by show 1 ≤ 60; decide) (by decide) fun x hx => ?_
      rw [List.mem_singleton.mp hx]
      omega
    · refine .mem (by decide) (by decide) (by decide) fun x hx => ?_
      rw [List.mem_singleton.mp hx]
      decide
    clear R1 R2
    refine ⟨_, rfl, iteT ?_⟩
    refine ⟨(by show 1 ≤ sizeLine; decide), fun t1 n1 => ?_⟩
    have h1 : upd H19 t1 (.tup [.int 0]) t1 = some (.tup [.int 0]) := upd_same
    generalize upd H19 t1 (.tup [.int 0]) = H20 at h1 ⊢
    refine ⟨(by show 3 ≤ sizeLine; decide), fun d1 nd1 => ?_⟩
    have R1 : RuleAt (upd H20 d1 (.tup [.ref t1, .int 1, .int 7])) d1 [0] 1 7 := ⟨t1, upd_same, same_upd nd1 _ _ h1⟩
    clear h1 nd1
    generalize upd H20 d1 (.tup [.ref t1, .int 1, .int 7]) = H21 at R1 ⊢
    refine ⟨(by show 3 ≤ sizeLine; decide), fun t2 n2 => ?_⟩
    have R1 := R1.same (same_upd (o := .tup [.int 1, .int 2, .int 3]) n2)
    have h2 : upd H21 t2 (.tup [.int 1, .int 2, .int 3]) t2 = some (.tup [.int 1, .int 2, .int 3]) := upd_same
    generalize upd H21 t2 (.tup [.int 1, .int 2, .int 3]) = H22 at R1 h2 ⊢
    refine ⟨(by show 3 ≤ sizeLine; decide), fun d2 nd2 => ?_⟩
    have R1 := R1.same (same_upd (o := .tup [.ref t2, .int 3, .int 21]) nd2)
    have R2 : RuleAt (upd H22 d2 (.tup [.ref t2, .int 3, .int 21])) d2 [1, 2, 3] 3 21 := ⟨t2, upd_same, same_upd nd2 _ _ h2⟩
    clear h2 nd2
    generalize upd H22 d2 (.tup [.ref t2, .int 3, .int 21]) = H23 at R1 R2 ⊢
    refine ⟨d1, d2, _, _, 1, 3, 7, 21, rfl, R1, R2, one_short (by decide) (by decide), three_short, ?_, ?_, by decide, by decide, fun H24 s24 => kk H24⟩
    · refine .mem (by decide) (by decide) (by decide) fun x hx => ?_
      rw [List.mem_singleton.mp hx]
      decide
    · refine .mem (by decide) (by decide) (by decide) fun x hx => ?_
      simp only [List.mem_cons, List.not_mem_nil, or_false] at hx
      omega
end
end Sm

set_option Elab.async false
set_option linter.all false
set_option maxRecDepth 100000
set_option maxHeartbeats 16000000
namespace Sm
open PySem PySem.Spec PyProof.Rows L2
theorem all_mk {l : PySem.W.OpenLaw} {w : World} {K : PySem.W.Frag} {h : Heap} {mg : Str → Option Value} {fa : Addr} (X : K.In h) (G : h.Ns mainGlobals mg) (hfa : mg "law" = some (.ref fa))
    {F_is_whole : Addr} {od_is_whole an_is_whole : Option Addr} {sl_is_whole : Array (Option Value)} {oc_is_whole kV_is_whole dc_is_whole pm_is_whole cd_is_whole ct_is_whole : Value} (a_is_whole : PySem.W.nsIn K mainGlobals "is_whole" = some (some (.ref F_is_whole))) (l_is_whole : K.lookup F_is_whole = some ⟨oc_is_whole, od_is_whole, .func (PySem.W.fnOf "is_whole" "is_whole" (defArgs s_is_whole) (defBody s_is_whole) (defScope s_is_whole) .none kV_is_whole dc_is_whole pm_is_whole an_is_whole cd_is_whole ct_is_whole), sl_is_whole⟩) (c_is_whole : PySem.W.codeIn K cd_is_whole "is_whole" = true) (k_is_whole : PySem.W.keepIn K (.ref F_is_whole) = true)
    {F_is_amount : Addr} {od_is_amount an_is_amount : Option Addr} {sl_is_amount : Array (Option Value)} {oc_is_amount kV_is_amount dc_is_amount pm_is_amount cd_is_amount ct_is_amount : Value} (a_is_amount : PySem.W.nsIn K mainGlobals "is_amount" = some (some (.ref F_is_amount))) (l_is_amount : K.lookup F_is_amount = some ⟨oc_is_amount, od_is_amount, .func (PySem.W.fnOf "is_amount" "is_amount" (defArgs s_is_amount) (defBody s_is_amount) (defScope s_is_amount) .none kV_is_amount dc_is_amount pm_is_amount an_is_amount cd_is_amount ct_is_amount), sl_is_amount⟩) (c_is_amount : PySem.W.codeIn K cd_is_amount "is_amount" = true) (k_is_amount : PySem.W.keepIn K (.ref F_is_amount) = true)
    {F_rule_error : Addr} {od_rule_error an_rule_error : Option Addr} {sl_rule_error : Array (Option Value)} {oc_rule_error kV_rule_error dc_rule_error pm_rule_error cd_rule_error ct_rule_error : Value} (a_rule_error : PySem.W.nsIn K mainGlobals "rule_error" = some (some (.ref F_rule_error))) (l_rule_error : K.lookup F_rule_error = some ⟨oc_rule_error, od_rule_error, .func (PySem.W.fnOf "rule_error" "rule_error" (defArgs s_rule_error) (defBody s_rule_error) (defScope s_rule_error) .none kV_rule_error dc_rule_error pm_rule_error an_rule_error cd_rule_error ct_rule_error), sl_rule_error⟩) (c_rule_error : PySem.W.codeIn K cd_rule_error "rule_error" = true) (k_rule_error : PySem.W.keepIn K (.ref F_rule_error) = true)
    {F_told_error : Addr} {od_told_error an_told_error : Option Addr} {sl_told_error : Array (Option Value)} {oc_told_error kV_told_error dc_told_error pm_told_error cd_told_error ct_told_error : Value} (a_told_error : PySem.W.nsIn K mainGlobals "told_error" = some (some (.ref F_told_error))) (l_told_error : K.lookup F_told_error = some ⟨oc_told_error, od_told_error, .func (PySem.W.fnOf "told_error" "told_error" (defArgs s_told_error) (defBody s_told_error) (defScope s_told_error) .none kV_told_error dc_told_error pm_told_error an_told_error cd_told_error ct_told_error), sl_told_error⟩) (c_told_error : PySem.W.codeIn K cd_told_error "told_error" = true) (k_told_error : PySem.W.keepIn K (.ref F_told_error) = true)
    {F_shortest : Addr} {od_shortest an_shortest : Option Addr} {sl_shortest : Array (Option Value)} {oc_shortest kV_shortest dc_shortest pm_shortest cd_shortest ct_shortest : Value} (a_shortest : PySem.W.nsIn K mainGlobals "shortest" = some (some (.ref F_shortest))) (l_shortest : K.lookup F_shortest = some ⟨oc_shortest, od_shortest, .func (PySem.W.fnOf "shortest" "shortest" (defArgs s_shortest) (defBody s_shortest) (defScope s_shortest) .none kV_shortest dc_shortest pm_shortest an_shortest cd_shortest ct_shortest), sl_shortest⟩) (c_shortest : PySem.W.codeIn K cd_shortest "shortest" = true) (k_shortest : PySem.W.keepIn K (.ref F_shortest) = true)
    {F_cycle_of : Addr} {od_cycle_of an_cycle_of : Option Addr} {sl_cycle_of : Array (Option Value)} {oc_cycle_of kV_cycle_of dc_cycle_of pm_cycle_of cd_cycle_of ct_cycle_of : Value} (a_cycle_of : PySem.W.nsIn K mainGlobals "cycle_of" = some (some (.ref F_cycle_of))) (l_cycle_of : K.lookup F_cycle_of = some ⟨oc_cycle_of, od_cycle_of, .func (PySem.W.fnOf "cycle_of" "cycle_of" (defArgs s_cycle_of) (defBody s_cycle_of) (defScope s_cycle_of) .none kV_cycle_of dc_cycle_of pm_cycle_of an_cycle_of cd_cycle_of ct_cycle_of), sl_cycle_of⟩) (c_cycle_of : PySem.W.codeIn K cd_cycle_of "cycle_of" = true) (k_cycle_of : PySem.W.keepIn K (.ref F_cycle_of) = true)
    {F_values_to : Addr} {od_values_to an_values_to : Option Addr} {sl_values_to : Array (Option Value)} {oc_values_to kV_values_to dc_values_to pm_values_to cd_values_to ct_values_to : Value} (a_values_to : PySem.W.nsIn K mainGlobals "values_to" = some (some (.ref F_values_to))) (l_values_to : K.lookup F_values_to = some ⟨oc_values_to, od_values_to, .func (PySem.W.fnOf "values_to" "values_to" (defArgs s_values_to) (defBody s_values_to) (defScope s_values_to) .none kV_values_to dc_values_to pm_values_to an_values_to cd_values_to ct_values_to), sl_values_to⟩) (c_values_to : PySem.W.codeIn K cd_values_to "values_to" = true) (k_values_to : PySem.W.keepIn K (.ref F_values_to) = true)
    {F_first_above : Addr} {od_first_above an_first_above : Option Addr} {sl_first_above : Array (Option Value)} {oc_first_above kV_first_above dc_first_above pm_first_above cd_first_above ct_first_above : Value} (a_first_above : PySem.W.nsIn K mainGlobals "first_above" = some (some (.ref F_first_above))) (l_first_above : K.lookup F_first_above = some ⟨oc_first_above, od_first_above, .func (PySem.W.fnOf "first_above" "first_above" (defArgs s_first_above) (defBody s_first_above) (defScope s_first_above) .none kV_first_above dc_first_above pm_first_above an_first_above cd_first_above ct_first_above), sl_first_above⟩) (c_first_above : PySem.W.codeIn K cd_first_above "first_above" = true) (k_first_above : PySem.W.keepIn K (.ref F_first_above) = true)
    {F_begin_of : Addr} {od_begin_of an_begin_of : Option Addr} {sl_begin_of : Array (Option Value)} {oc_begin_of kV_begin_of dc_begin_of pm_begin_of cd_begin_of ct_begin_of : Value} (a_begin_of : PySem.W.nsIn K mainGlobals "begin_of" = some (some (.ref F_begin_of))) (l_begin_of : K.lookup F_begin_of = some ⟨oc_begin_of, od_begin_of, .func (PySem.W.fnOf "begin_of" "begin_of" (defArgs s_begin_of) (defBody s_begin_of) (defScope s_begin_of) .none kV_begin_of dc_begin_of pm_begin_of an_begin_of cd_begin_of ct_begin_of), sl_begin_of⟩) (c_begin_of : PySem.W.codeIn K cd_begin_of "begin_of" = true) (k_begin_of : PySem.W.keepIn K (.ref F_begin_of) = true)
    {F_rise_in : Addr} {od_rise_in an_rise_in : Option Addr} {sl_rise_in : Array (Option Value)} {oc_rise_in kV_rise_in dc_rise_in pm_rise_in cd_rise_in ct_rise_in : Value} (a_rise_in : PySem.W.nsIn K mainGlobals "rise_in" = some (some (.ref F_rise_in))) (l_rise_in : K.lookup F_rise_in = some ⟨oc_rise_in, od_rise_in, .func (PySem.W.fnOf "rise_in" "rise_in" (defArgs s_rise_in) (defBody s_rise_in) (defScope s_rise_in) .none kV_rise_in dc_rise_in pm_rise_in an_rise_in cd_rise_in ct_rise_in), sl_rise_in⟩) (c_rise_in : PySem.W.codeIn K cd_rise_in "rise_in" = true) (k_rise_in : PySem.W.keepIn K (.ref F_rise_in) = true)
    {F_common_turn : Addr} {od_common_turn an_common_turn : Option Addr} {sl_common_turn : Array (Option Value)} {oc_common_turn kV_common_turn dc_common_turn pm_common_turn cd_common_turn ct_common_turn : Value} (a_common_turn : PySem.W.nsIn K mainGlobals "common_turn" = some (some (.ref F_common_turn))) (l_common_turn : K.lookup F_common_turn = some ⟨oc_common_turn, od_common_turn, .func (PySem.W.fnOf "common_turn" "common_turn" (defArgs s_common_turn) (defBody s_common_turn) (defScope s_common_turn) .none kV_common_turn dc_common_turn pm_common_turn an_common_turn cd_common_turn ct_common_turn), sl_common_turn⟩) (c_common_turn : PySem.W.codeIn K cd_common_turn "common_turn" = true) (k_common_turn : PySem.W.keepIn K (.ref F_common_turn) = true)
    {F_one_more : Addr} {od_one_more an_one_more : Option Addr} {sl_one_more : Array (Option Value)} {oc_one_more kV_one_more dc_one_more pm_one_more cd_one_more ct_one_more : Value} (a_one_more : PySem.W.nsIn K mainGlobals "one_more" = some (some (.ref F_one_more))) (l_one_more : K.lookup F_one_more = some ⟨oc_one_more, od_one_more, .func (PySem.W.fnOf "one_more" "one_more" (defArgs s_one_more) (defBody s_one_more) (defScope s_one_more) .none kV_one_more dc_one_more pm_one_more an_one_more cd_one_more ct_one_more), sl_one_more⟩) (c_one_more : PySem.W.codeIn K cd_one_more "one_more" = true) (k_one_more : PySem.W.keepIn K (.ref F_one_more) = true)
    {F_l_deck : Addr} {od_l_deck an_l_deck : Option Addr} {sl_l_deck : Array (Option Value)} {oc_l_deck kV_l_deck dc_l_deck pm_l_deck cd_l_deck ct_l_deck : Value} (a_l_deck : PySem.W.nsIn K mainGlobals "_law_deck" = some (some (.ref F_l_deck))) (l_l_deck : K.lookup F_l_deck = some ⟨oc_l_deck, od_l_deck, .func (PySem.W.fnOf "_law_deck" "_law_deck" (defArgs s_l_deck) (defBody s_l_deck) (defScope s_l_deck) .none kV_l_deck dc_l_deck pm_l_deck an_l_deck cd_l_deck ct_l_deck), sl_l_deck⟩) (c_l_deck : PySem.W.codeIn K cd_l_deck "_law_deck" = true) (k_l_deck : PySem.W.keepIn K (.ref F_l_deck) = true)
    {F_l_draw : Addr} {od_l_draw an_l_draw : Option Addr} {sl_l_draw : Array (Option Value)} {oc_l_draw kV_l_draw dc_l_draw pm_l_draw cd_l_draw ct_l_draw : Value} (a_l_draw : PySem.W.nsIn K mainGlobals "_law_draw" = some (some (.ref F_l_draw))) (l_l_draw : K.lookup F_l_draw = some ⟨oc_l_draw, od_l_draw, .func (PySem.W.fnOf "_law_draw" "_law_draw" (defArgs s_l_draw) (defBody s_l_draw) (defScope s_l_draw) .none kV_l_draw dc_l_draw pm_l_draw an_l_draw cd_l_draw ct_l_draw), sl_l_draw⟩) (c_l_draw : PySem.W.codeIn K cd_l_draw "_law_draw" = true) (k_l_draw : PySem.W.keepIn K (.ref F_l_draw) = true)
    {F_l_drawn : Addr} {od_l_drawn an_l_drawn : Option Addr} {sl_l_drawn : Array (Option Value)} {oc_l_drawn kV_l_drawn dc_l_drawn pm_l_drawn cd_l_drawn ct_l_drawn : Value} (a_l_drawn : PySem.W.nsIn K mainGlobals "_law_drawn" = some (some (.ref F_l_drawn))) (l_l_drawn : K.lookup F_l_drawn = some ⟨oc_l_drawn, od_l_drawn, .func (PySem.W.fnOf "_law_drawn" "_law_drawn" (defArgs s_l_drawn) (defBody s_l_drawn) (defScope s_l_drawn) .none kV_l_drawn dc_l_drawn pm_l_drawn an_l_drawn cd_l_drawn ct_l_drawn), sl_l_drawn⟩) (c_l_drawn : PySem.W.codeIn K cd_l_drawn "_law_drawn" = true) (k_l_drawn : PySem.W.keepIn K (.ref F_l_drawn) = true)
    {F_l_value : Addr} {od_l_value an_l_value : Option Addr} {sl_l_value : Array (Option Value)} {oc_l_value kV_l_value dc_l_value pm_l_value cd_l_value ct_l_value : Value} (a_l_value : PySem.W.nsIn K mainGlobals "_law_value" = some (some (.ref F_l_value))) (l_l_value : K.lookup F_l_value = some ⟨oc_l_value, od_l_value, .func (PySem.W.fnOf "_law_value" "_law_value" (defArgs s_l_value) (defBody s_l_value) (defScope s_l_value) .none kV_l_value dc_l_value pm_l_value an_l_value cd_l_value ct_l_value), sl_l_value⟩) (c_l_value : PySem.W.codeIn K cd_l_value "_law_value" = true) (k_l_value : PySem.W.keepIn K (.ref F_l_value) = true)
    {F_l_fits : Addr} {od_l_fits an_l_fits : Option Addr} {sl_l_fits : Array (Option Value)} {oc_l_fits kV_l_fits dc_l_fits pm_l_fits cd_l_fits ct_l_fits : Value} (a_l_fits : PySem.W.nsIn K mainGlobals "_law_fits" = some (some (.ref F_l_fits))) (l_l_fits : K.lookup F_l_fits = some ⟨oc_l_fits, od_l_fits, .func (PySem.W.fnOf "_law_fits" "_law_fits" (defArgs s_l_fits) (defBody s_l_fits) (defScope s_l_fits) .none kV_l_fits dc_l_fits pm_l_fits an_l_fits cd_l_fits ct_l_fits), sl_l_fits⟩) (c_l_fits : PySem.W.codeIn K cd_l_fits "_law_fits" = true) (k_l_fits : PySem.W.keepIn K (.ref F_l_fits) = true)
    {F_l_short : Addr} {od_l_short an_l_short : Option Addr} {sl_l_short : Array (Option Value)} {oc_l_short kV_l_short dc_l_short pm_l_short cd_l_short ct_l_short : Value} (a_l_short : PySem.W.nsIn K mainGlobals "_law_short" = some (some (.ref F_l_short))) (l_l_short : K.lookup F_l_short = some ⟨oc_l_short, od_l_short, .func (PySem.W.fnOf "_law_short" "_law_short" (defArgs s_l_short) (defBody s_l_short) (defScope s_l_short) .none kV_l_short dc_l_short pm_l_short an_l_short cd_l_short ct_l_short), sl_l_short⟩) (c_l_short : PySem.W.codeIn K cd_l_short "_law_short" = true) (k_l_short : PySem.W.keepIn K (.ref F_l_short) = true)
    {F_l_under : Addr} {od_l_under an_l_under : Option Addr} {sl_l_under : Array (Option Value)} {oc_l_under kV_l_under dc_l_under pm_l_under cd_l_under ct_l_under : Value} (a_l_under : PySem.W.nsIn K mainGlobals "_law_under" = some (some (.ref F_l_under))) (l_l_under : K.lookup F_l_under = some ⟨oc_l_under, od_l_under, .func (PySem.W.fnOf "_law_under" "_law_under" (defArgs s_l_under) (defBody s_l_under) (defScope s_l_under) .none kV_l_under dc_l_under pm_l_under an_l_under cd_l_under ct_l_under), sl_l_under⟩) (c_l_under : PySem.W.codeIn K cd_l_under "_law_under" = true) (k_l_under : PySem.W.keepIn K (.ref F_l_under) = true)
    {F_l_near : Addr} {od_l_near an_l_near : Option Addr} {sl_l_near : Array (Option Value)} {oc_l_near kV_l_near dc_l_near pm_l_near cd_l_near ct_l_near : Value} (a_l_near : PySem.W.nsIn K mainGlobals "_law_near" = some (some (.ref F_l_near))) (l_l_near : K.lookup F_l_near = some ⟨oc_l_near, od_l_near, .func (PySem.W.fnOf "_law_near" "_law_near" (defArgs s_l_near) (defBody s_l_near) (defScope s_l_near) .none kV_l_near dc_l_near pm_l_near an_l_near cd_l_near ct_l_near), sl_l_near⟩) (c_l_near : PySem.W.codeIn K cd_l_near "_law_near" = true) (k_l_near : PySem.W.keepIn K (.ref F_l_near) = true)
    {F_l_right : Addr} {od_l_right an_l_right : Option Addr} {sl_l_right : Array (Option Value)} {oc_l_right kV_l_right dc_l_right pm_l_right cd_l_right ct_l_right : Value} (a_l_right : PySem.W.nsIn K mainGlobals "_law_right" = some (some (.ref F_l_right))) (l_l_right : K.lookup F_l_right = some ⟨oc_l_right, od_l_right, .func (PySem.W.fnOf "_law_right" "_law_right" (defArgs s_l_right) (defBody s_l_right) (defScope s_l_right) .none kV_l_right dc_l_right pm_l_right an_l_right cd_l_right ct_l_right), sl_l_right⟩) (c_l_right : PySem.W.codeIn K cd_l_right "_law_right" = true) (k_l_right : PySem.W.keepIn K (.ref F_l_right) = true)
    {F_law : Addr} {od_law an_law : Option Addr} {sl_law : Array (Option Value)} {oc_law kV_law dc_law pm_law cd_law ct_law : Value} (a_law : PySem.W.nsIn K mainGlobals "law" = some (some (.ref F_law))) (l_law : K.lookup F_law = some ⟨oc_law, od_law, .func (PySem.W.fnOf "law" "law" (defArgs s_law) (defBody s_law) (defScope s_law) .none kV_law dc_law pm_law an_law cd_law ct_law), sl_law⟩) (c_law : PySem.W.codeIn K cd_law "law" = true) (k_law : PySem.W.keepIn K (.ref F_law) = true)
    {cRule : Addr}
    {fRule_init : Addr} {odRule_init anRule_init : Option Addr} {slRule_init : Array (Option Value)} {ocRule_init kVRule_init dcRule_init pmRule_init cdRule_init ctRule_init : Value}
    {fRule_eq : Addr} {odRule_eq anRule_eq : Option Addr} {slRule_eq : Array (Option Value)} {ocRule_eq kVRule_eq dcRule_eq pmRule_eq cdRule_eq ctRule_eq : Value}
    {fRule_is_below : Addr} {odRule_is_below anRule_is_below : Option Addr} {slRule_is_below : Array (Option Value)} {ocRule_is_below kVRule_is_below dcRule_is_below pmRule_is_below cdRule_is_below ctRule_is_below : Value}
    {fRule_is_above : Addr} {odRule_is_above anRule_is_above : Option Addr} {slRule_is_above : Array (Option Value)} {ocRule_is_above kVRule_is_above dcRule_is_above pmRule_is_above cdRule_is_above ctRule_is_above : Value}
    (g_cl : PySem.W.specialIn K (.builtin "object.__class__") "__get__" = some (some (.builtin "getset_descriptor.__get__")))
    (t_cl : PySem.W.takesIn K (.builtin "object.__class__") = some true)
    (a_Rule : PySem.W.nsIn K mainGlobals "Rule" = some (some (.ref cRule)))
    (pg_Rule : PySem.W.plainGet K cRule Str.empty = true)
    (hd_Rule : PySem.W.hasDictIn K cRule = true)
    (po_Rule : PySem.W.plainOver K cRule = true)
    (sa_Rule : PySem.W.findIn K (.ref cRule) "__setattr__" = some (some (.builtin "object.__setattr__")))
    (mk_Rule : PySem.W.makesIn K cRule = true)
    (kp_Rule : PySem.W.keepIn K (.ref cRule) = true)
    (ha_Rule : PySem.W.findIn K (.ref cRule) "__class__" = some (some (.builtin "object.__class__")))
    (hm_Rule : PySem.W.mroIn K cRule (.type "object") = some true)
    (na_Rule_value : PySem.W.findIn K (.ref cRule) "value" = some none)
    (na_Rule_table : PySem.W.findIn K (.ref cRule) "table" = some none)
    (na_Rule_period : PySem.W.findIn K (.ref cRule) "period" = some none)
    (na_Rule_rise : PySem.W.findIn K (.ref cRule) "rise" = some none)
    (at_Rule_init : PySem.W.findIn K (.ref cRule) "__init__" = some (some (.ref fRule_init)))
    (fn_Rule_init : PySem.W.isFn K (.ref fRule_init) = true)
    (kf_Rule_init : PySem.W.keepIn K (.ref fRule_init) = true)
    (lf_Rule_init : K.lookup fRule_init = some ⟨ocRule_init, odRule_init, .func (PySem.W.fnOf "__init__" "Rule.__init__" (defArgs s_Rule_init) (defBody s_Rule_init) (defScope s_Rule_init) .none kVRule_init dcRule_init pmRule_init anRule_init cdRule_init ctRule_init), slRule_init⟩)
    (cf_Rule_init : PySem.W.codeIn K cdRule_init "Rule.__init__" = true)
    (at_Rule_eq : PySem.W.findIn K (.ref cRule) "__eq__" = some (some (.ref fRule_eq)))
    (fn_Rule_eq : PySem.W.isFn K (.ref fRule_eq) = true)
    (kf_Rule_eq : PySem.W.keepIn K (.ref fRule_eq) = true)
    (lf_Rule_eq : K.lookup fRule_eq = some ⟨ocRule_eq, odRule_eq, .func (PySem.W.fnOf "__eq__" "Rule.__eq__" (defArgs s_Rule_eq) (defBody s_Rule_eq) (defScope s_Rule_eq) .none kVRule_eq dcRule_eq pmRule_eq anRule_eq cdRule_eq ctRule_eq), slRule_eq⟩)
    (cf_Rule_eq : PySem.W.codeIn K cdRule_eq "Rule.__eq__" = true)
    (at_Rule_is_below : PySem.W.findIn K (.ref cRule) "is_below" = some (some (.ref fRule_is_below)))
    (fn_Rule_is_below : PySem.W.isFn K (.ref fRule_is_below) = true)
    (kf_Rule_is_below : PySem.W.keepIn K (.ref fRule_is_below) = true)
    (lf_Rule_is_below : K.lookup fRule_is_below = some ⟨ocRule_is_below, odRule_is_below, .func (PySem.W.fnOf "is_below" "Rule.is_below" (defArgs s_Rule_is_below) (defBody s_Rule_is_below) (defScope s_Rule_is_below) .none kVRule_is_below dcRule_is_below pmRule_is_below anRule_is_below cdRule_is_below ctRule_is_below), slRule_is_below⟩)
    (cf_Rule_is_below : PySem.W.codeIn K cdRule_is_below "Rule.is_below" = true)
    (at_Rule_is_above : PySem.W.findIn K (.ref cRule) "is_above" = some (some (.ref fRule_is_above)))
    (fn_Rule_is_above : PySem.W.isFn K (.ref fRule_is_above) = true)
    (kf_Rule_is_above : PySem.W.keepIn K (.ref fRule_is_above) = true)
    (lf_Rule_is_above : K.lookup fRule_is_above = some ⟨ocRule_is_above, odRule_is_above, .func (PySem.W.fnOf "is_above" "Rule.is_above" (defArgs s_Rule_is_above) (defBody s_Rule_is_above) (defScope s_Rule_is_above) .none kVRule_is_above dcRule_is_above pmRule_is_above anRule_is_above cdRule_is_above ctRule_is_above), slRule_is_above⟩)
    (cf_Rule_is_above : PySem.W.codeIn K cdRule_is_above "Rule.is_above" = true)
    (z_abs : PySem.W.nsIn K mainGlobals "abs" = some none)
    (z_all : PySem.W.nsIn K mainGlobals "all" = some none)
    (z_any : PySem.W.nsIn K mainGlobals "any" = some none)
    (z_bool : PySem.W.nsIn K mainGlobals "bool" = some none)
    (z_cls : PySem.W.nsIn K mainGlobals "cls" = some none)
    (z_int : PySem.W.nsIn K mainGlobals "int" = some none)
    (z_isinstance : PySem.W.nsIn K mainGlobals "isinstance" = some none)
    (z_iter : PySem.W.nsIn K mainGlobals "iter" = some none)
    (z_len : PySem.W.nsIn K mainGlobals "len" = some none)
    (z_list : PySem.W.nsIn K mainGlobals "list" = some none)
    (z_max : PySem.W.nsIn K mainGlobals "max" = some none)
    (z_min : PySem.W.nsIn K mainGlobals "min" = some none)
    (z_range : PySem.W.nsIn K mainGlobals "range" = some none)
    (z_repr : PySem.W.nsIn K mainGlobals "repr" = some none)
    (z_tuple : PySem.W.nsIn K mainGlobals "tuple" = some none)
    (g_gcd : PySem.W.nsIn K mainGlobals "gcd" = some (some (.builtin "math.gcd")))
    (g_lcm : PySem.W.nsIn K mainGlobals "lcm" = some (some (.builtin "math.lcm")))
    {t_MAX_TOLD : Tok} (g_MAX_TOLD : PySem.W.nsIn K mainGlobals "MAX_TOLD" = some (some (.int 5000 t_MAX_TOLD))) :
    ∃ fd : FuncData, (∀ (s : Shared) (v : Value), BindsTo s fd ⟨[v], []⟩ [("_law_script", v)]) ∧ ∀ base : Heap, K.In base → base.Ns mainGlobals mg → FnG l.prog w K mg base 8 fa fd ["_law_script"] (sp_law K) := by
  have e := hfa.symm.trans (PySem.W.mg_of X G a_law)
  cases e
  have T : Txt mg := ⟨PySem.W.mg_none_of X G z_abs, PySem.W.mg_none_of X G z_all, PySem.W.mg_none_of X G z_any, PySem.W.mg_none_of X G z_bool, PySem.W.mg_none_of X G z_cls, PySem.W.mg_none_of X G z_int, PySem.W.mg_none_of X G z_isinstance, PySem.W.mg_none_of X G z_iter, PySem.W.mg_none_of X G z_len, PySem.W.mg_none_of X G z_list, PySem.W.mg_none_of X G z_max, PySem.W.mg_none_of X G z_min, PySem.W.mg_none_of X G z_range, PySem.W.mg_none_of X G z_repr, PySem.W.mg_none_of X G z_tuple, PySem.W.mg_of X G g_gcd, PySem.W.mg_of X G g_lcm, ⟨_, PySem.W.mg_of X G g_MAX_TOLD⟩⟩
  have IRule : InsC K cRule := ⟨⟨pg_Rule, hd_Rule, po_Rule, sa_Rule⟩, ha_Rule, g_cl, t_cl, hm_Rule⟩
  have fun_Rule_init := fun_mk (st := s_Rule_init) lf_Rule_init cf_Rule_init kf_Rule_init
  have bin_Rule_init := fun_Rule_init.binds (ps := ["self", "value"]) fun _ _ _ _ _ _ us hl => match us, hl with | [_, _], _ => rfl
  have mak_Rule : Mk K cRule fRule_init := ⟨mk_Rule, at_Rule_init, fn_Rule_init, kp_Rule⟩
  have fun_Rule_eq := fun_mk (st := s_Rule_eq) lf_Rule_eq cf_Rule_eq kf_Rule_eq
  have bin_Rule_eq := fun_Rule_eq.binds (ps := ["self", "other"]) fun _ _ _ _ _ _ us hl => match us, hl with | [_, _], _ => rfl
  have met_Rule_eq : Meth K cRule "__eq__" fRule_eq := ⟨at_Rule_eq, fn_Rule_eq, kf_Rule_eq⟩
  have fun_Rule_is_below := fun_mk (st := s_Rule_is_below) lf_Rule_is_below cf_Rule_is_below kf_Rule_is_below
  have bin_Rule_is_below := fun_Rule_is_below.binds (ps := ["self", "other"]) fun _ _ _ _ _ _ us hl => match us, hl with | [_, _], _ => rfl
  have met_Rule_is_below : Meth K cRule "is_below" fRule_is_below := ⟨at_Rule_is_below, fn_Rule_is_below, kf_Rule_is_below⟩
  have fun_Rule_is_above := fun_mk (st := s_Rule_is_above) lf_Rule_is_above cf_Rule_is_above kf_Rule_is_above
  have bin_Rule_is_above := fun_Rule_is_above.binds (ps := ["self", "other"]) fun _ _ _ _ _ _ us hl => match us, hl with | [_, _], _ => rfl
  have met_Rule_is_above : Meth K cRule "is_above" fRule_is_above := ⟨at_Rule_is_above, fn_Rule_is_above, kf_Rule_is_above⟩
  have R : TxR K mg cRule fRule_init fRule_eq fRule_is_below fRule_is_above := ⟨PySem.W.mg_of X G a_Rule, IRule, mak_Rule, na_Rule_value, na_Rule_table, na_Rule_period, na_Rule_rise, if_pos (beq_self_eq_true _), ⟨at_Rule_eq, fn_Rule_eq⟩, met_Rule_is_below, met_Rule_is_above⟩
  have D_is_whole : Df K mg "is_whole" s_is_whole ["value"] := ⟨_, _, fun_mk (st := s_is_whole) l_is_whole c_is_whole k_is_whole, PySem.W.mg_of X G a_is_whole, (fun_mk (st := s_is_whole) l_is_whole c_is_whole k_is_whole).binds (ps := ["value"]) fun _ _ _ _ _ _ us hl => match us, hl with | [_], _ => rfl⟩
  have D_is_amount : Df K mg "is_amount" s_is_amount ["value"] := ⟨_, _, fun_mk (st := s_is_amount) l_is_amount c_is_amount k_is_amount, PySem.W.mg_of X G a_is_amount, (fun_mk (st := s_is_amount) l_is_amount c_is_amount k_is_amount).binds (ps := ["value"]) fun _ _ _ _ _ _ us hl => match us, hl with | [_], _ => rfl⟩
  have D_rule_error : Df K mg "rule_error" s_rule_error ["value"] := ⟨_, _, fun_mk (st := s_rule_error) l_rule_error c_rule_error k_rule_error, PySem.W.mg_of X G a_rule_error, (fun_mk (st := s_rule_error) l_rule_error c_rule_error k_rule_error).binds (ps := ["value"]) fun _ _ _ _ _ _ us hl => match us, hl with | [_], _ => rfl⟩
  have D_told_error : Df K mg "told_error" s_told_error ["table", "period", "rise"] := ⟨_, _, fun_mk (st := s_told_error) l_told_error c_told_error k_told_error, PySem.W.mg_of X G a_told_error, (fun_mk (st := s_told_error) l_told_error c_told_error k_told_error).binds (ps := ["table", "period", "rise"]) fun _ _ _ _ _ _ us hl => match us, hl with | [_, _, _], _ => rfl⟩
  have D_shortest : Df K mg "shortest" s_shortest ["table", "period", "rise"] := ⟨_, _, fun_mk (st := s_shortest) l_shortest c_shortest k_shortest, PySem.W.mg_of X G a_shortest, (fun_mk (st := s_shortest) l_shortest c_shortest k_shortest).binds (ps := ["table", "period", "rise"]) fun _ _ _ _ _ _ us hl => match us, hl with | [_, _, _], _ => rfl⟩
  have D_cycle_of : Df K mg "cycle_of" s_cycle_of ["items"] := ⟨_, _, fun_mk (st := s_cycle_of) l_cycle_of c_cycle_of k_cycle_of, PySem.W.mg_of X G a_cycle_of, (fun_mk (st := s_cycle_of) l_cycle_of c_cycle_of k_cycle_of).binds (ps := ["items"]) fun _ _ _ _ _ _ us hl => match us, hl with | [_], _ => rfl⟩
  have D_values_to : Df K mg "values_to" s_values_to ["rule", "count"] := ⟨_, _, fun_mk (st := s_values_to) l_values_to c_values_to k_values_to, PySem.W.mg_of X G a_values_to, (fun_mk (st := s_values_to) l_values_to c_values_to k_values_to).binds (ps := ["rule", "count"]) fun _ _ _ _ _ _ us hl => match us, hl with | [_, _], _ => rfl⟩
  have D_first_above : Df K mg "first_above" s_first_above ["one", "other"] := ⟨_, _, fun_mk (st := s_first_above) l_first_above c_first_above k_first_above, PySem.W.mg_of X G a_first_above, (fun_mk (st := s_first_above) l_first_above c_first_above k_first_above).binds (ps := ["one", "other"]) fun _ _ _ _ _ _ us hl => match us, hl with | [_, _], _ => rfl⟩
  have D_begin_of : Df K mg "begin_of" s_begin_of ["rule"] := ⟨_, _, fun_mk (st := s_begin_of) l_begin_of c_begin_of k_begin_of, PySem.W.mg_of X G a_begin_of, (fun_mk (st := s_begin_of) l_begin_of c_begin_of k_begin_of).binds (ps := ["rule"]) fun _ _ _ _ _ _ us hl => match us, hl with | [_], _ => rfl⟩
  have D_rise_in : Df K mg "rise_in" s_rise_in ["rule", "turn"] := ⟨_, _, fun_mk (st := s_rise_in) l_rise_in c_rise_in k_rise_in, PySem.W.mg_of X G a_rise_in, (fun_mk (st := s_rise_in) l_rise_in c_rise_in k_rise_in).binds (ps := ["rule", "turn"]) fun _ _ _ _ _ _ us hl => match us, hl with | [_, _], _ => rfl⟩
  have D_common_turn : Df K mg "common_turn" s_common_turn ["one", "other"] := ⟨_, _, fun_mk (st := s_common_turn) l_common_turn c_common_turn k_common_turn, PySem.W.mg_of X G a_common_turn, (fun_mk (st := s_common_turn) l_common_turn c_common_turn k_common_turn).binds (ps := ["one", "other"]) fun _ _ _ _ _ _ us hl => match us, hl with | [_, _], _ => rfl⟩
  have D_one_more : Df K mg "one_more" s_one_more ["rule"] := ⟨_, _, fun_mk (st := s_one_more) l_one_more c_one_more k_one_more, PySem.W.mg_of X G a_one_more, (fun_mk (st := s_one_more) l_one_more c_one_more k_one_more).binds (ps := ["rule"]) fun _ _ _ _ _ _ us hl => match us, hl with | [_], _ => rfl⟩
  have D_l_deck : Df K mg "_law_deck" s_l_deck ["_law_script"] := ⟨_, _, fun_mk (st := s_l_deck) l_l_deck c_l_deck k_l_deck, PySem.W.mg_of X G a_l_deck, (fun_mk (st := s_l_deck) l_l_deck c_l_deck k_l_deck).binds (ps := ["_law_script"]) fun _ _ _ _ _ _ us hl => match us, hl with | [_], _ => rfl⟩
  have D_l_draw : Df K mg "_law_draw" s_l_draw ["_law_deck_here", "_law_many"] := ⟨_, _, fun_mk (st := s_l_draw) l_l_draw c_l_draw k_l_draw, PySem.W.mg_of X G a_l_draw, (fun_mk (st := s_l_draw) l_l_draw c_l_draw k_l_draw).binds (ps := ["_law_deck_here", "_law_many"]) fun _ _ _ _ _ _ us hl => match us, hl with | [_, _], _ => rfl⟩
  have D_l_drawn : Df K mg "_law_drawn" s_l_drawn ["_law_deck_here", "_law_upto"] := ⟨_, _, fun_mk (st := s_l_drawn) l_l_drawn c_l_drawn k_l_drawn, PySem.W.mg_of X G a_l_drawn, (fun_mk (st := s_l_drawn) l_l_drawn c_l_drawn k_l_drawn).binds (ps := ["_law_deck_here", "_law_upto"]) fun _ _ _ _ _ _ us hl => match us, hl with | [_, _], _ => rfl⟩
  have D_l_value : Df K mg "_law_value" s_l_value ["_law_rule", "_law_x"] := ⟨_, _, fun_mk (st := s_l_value) l_l_value c_l_value k_l_value, PySem.W.mg_of X G a_l_value, (fun_mk (st := s_l_value) l_l_value c_l_value k_l_value).binds (ps := ["_law_rule", "_law_x"]) fun _ _ _ _ _ _ us hl => match us, hl with | [_, _], _ => rfl⟩
  have D_l_fits : Df K mg "_law_fits" s_l_fits ["_law_rule", "_law_few", "_law_period"] := ⟨_, _, fun_mk (st := s_l_fits) l_l_fits c_l_fits k_l_fits, PySem.W.mg_of X G a_l_fits, (fun_mk (st := s_l_fits) l_l_fits c_l_fits k_l_fits).binds (ps := ["_law_rule", "_law_few", "_law_period"]) fun _ _ _ _ _ _ us hl => match us, hl with | [_, _, _], _ => rfl⟩
  have D_l_short : Df K mg "_law_short" s_l_short ["_law_rule"] := ⟨_, _, fun_mk (st := s_l_short) l_l_short c_l_short k_l_short, PySem.W.mg_of X G a_l_short, (fun_mk (st := s_l_short) l_l_short c_l_short k_l_short).binds (ps := ["_law_rule"]) fun _ _ _ _ _ _ us hl => match us, hl with | [_], _ => rfl⟩
  have D_l_under : Df K mg "_law_under" s_l_under ["_law_one_here", "_law_other"] := ⟨_, _, fun_mk (st := s_l_under) l_l_under c_l_under k_l_under, PySem.W.mg_of X G a_l_under, (fun_mk (st := s_l_under) l_l_under c_l_under k_l_under).binds (ps := ["_law_one_here", "_law_other"]) fun _ _ _ _ _ _ us hl => match us, hl with | [_, _], _ => rfl⟩
  have D_l_near : Df K mg "_law_near" s_l_near ["_law_deck_here", "_law_rule"] := ⟨_, _, fun_mk (st := s_l_near) l_l_near c_l_near k_l_near, PySem.W.mg_of X G a_l_near, (fun_mk (st := s_l_near) l_l_near c_l_near k_l_near).binds (ps := ["_law_deck_here", "_law_rule"]) fun _ _ _ _ _ _ us hl => match us, hl with | [_, _], _ => rfl⟩
  have D_l_right : Df K mg "_law_right" s_l_right ["_law_mine", "_law_others"] := ⟨_, _, fun_mk (st := s_l_right) l_l_right c_l_right k_l_right, PySem.W.mg_of X G a_l_right, (fun_mk (st := s_l_right) l_l_right c_l_right k_l_right).binds (ps := ["_law_mine", "_law_others"]) fun _ _ _ _ _ _ us hl => match us, hl with | [_, _], _ => rfl⟩
  have D_law : Df K mg "law" s_law ["_law_script"] := ⟨_, _, fun_mk (st := s_law) l_law c_law k_law, PySem.W.mg_of X G a_law, (fun_mk (st := s_law) l_law c_law k_law).binds (ps := ["_law_script"]) fun _ _ _ _ _ _ us hl => match us, hl with | [_], _ => rfl⟩
  refine ⟨PySem.W.fnOf "law" "law" (defArgs s_law) (defBody s_law) (defScope s_law) .none kV_law dc_law pm_law an_law cd_law ct_law, fun s v => .of_eq rfl, fun base _ _ => ?_⟩
  have C_is_whole : Cal l.prog w K mg base "is_whole" ["value"] 1 (sp_is_whole K) := ok_is_whole T D_is_whole
  have C_cycle_of : Cal l.prog w K mg base "cycle_of" ["items"] 1 (sp_cycle_of K) := ok_cycle_of T D_cycle_of
  have C_values_to : Cal l.prog w K mg base "values_to" ["rule", "count"] 1 (sp_values_to K) := ok_values_to T D_values_to
  have C_begin_of : Cal l.prog w K mg base "begin_of" ["rule"] 1 (sp_begin_of K) := ok_begin_of T D_begin_of
  have C_rise_in : Cal l.prog w K mg base "rise_in" ["rule", "turn"] 1 (sp_rise_in K) := ok_rise_in T D_rise_in
  have C_one_more : Cal l.prog w K mg base "one_more" ["rule"] 1 (sp_one_more K) := ok_one_more T D_one_more
  have C_l_deck : Cal l.prog w K mg base "_law_deck" ["_law_script"] 1 (sp_l_deck K) := ok_l_deck T D_l_deck
  have C_l_draw : Cal l.prog w K mg base "_law_draw" ["_law_deck_here", "_law_many"] 1 (sp_l_draw K) := ok_l_draw T D_l_draw
  have C_l_value : Cal l.prog w K mg base "_law_value" ["_law_rule", "_law_x"] 1 (sp_l_value K) := ok_l_value T D_l_value
  have C_is_amount : Cal l.prog w K mg base "is_amount" ["value"] 2 (sp_is_amount K) := ok_is_amount T D_is_amount C_is_whole
  have C_shortest : Cal l.prog w K mg base "shortest" ["table", "period", "rise"] 2 (sp_shortest K) := ok_shortest T D_shortest C_cycle_of
  have C_common_turn : Cal l.prog w K mg base "common_turn" ["one", "other"] 2 (sp_common_turn K) := ok_common_turn T D_common_turn C_begin_of
  have C_l_drawn : Cal l.prog w K mg base "_law_drawn" ["_law_deck_here", "_law_upto"] 2 (sp_l_drawn K) := ok_l_drawn T D_l_drawn C_l_draw
  have C_l_fits : Cal l.prog w K mg base "_law_fits" ["_law_rule", "_law_few", "_law_period"] 2 (sp_l_fits K) := ok_l_fits T D_l_fits C_l_value
  have C_l_under : Cal l.prog w K mg base "_law_under" ["_law_one_here", "_law_other"] 2 (sp_l_under K) := ok_l_under T D_l_under C_l_value
  have C_told_error : Cal l.prog w K mg base "told_error" ["table", "period", "rise"] 3 (sp_told_error K) := ok_told_error T D_told_error C_is_amount C_is_whole
  have C_first_above : Cal l.prog w K mg base "first_above" ["one", "other"] 3 (sp_first_above K) := ok_first_above T D_first_above C_rise_in C_values_to C_common_turn
  have C_l_short : Cal l.prog w K mg base "_law_short" ["_law_rule"] 3 (sp_l_short K) := ok_l_short T D_l_short C_l_fits
  have C_rule_error : Cal l.prog w K mg base "rule_error" ["value"] 4 (sp_rule_error K) := ok_rule_error T D_rule_error C_shortest C_told_error
  have C_l_near : Cal l.prog w K mg base "_law_near" ["_law_deck_here", "_law_rule"] 4 (sp_l_near K) := ok_l_near T D_l_near C_l_short C_l_draw
  have G_Rinit := ok_Rinit (P := l.prog) (w := w) (base := base) T R C_rule_error fun_Rule_init
  have G_Req := ok_Req (P := l.prog) (w := w) (base := base) T R fun_Rule_eq
  have G_Rbe := ok_Rbe (P := l.prog) (w := w) (base := base) T R C_one_more C_first_above fun_Rule_is_below
  have G_Rab := ok_Rab (P := l.prog) (w := w) (base := base) T R C_one_more C_first_above fun_Rule_is_above
  have G_l_right := ok_l_right (P := l.prog) (w := w) (base := base) T R G_Rinit bin_Rule_init G_Req bin_Rule_eq G_Rbe bin_Rule_is_below G_Rab bin_Rule_is_above C_l_under (fun_mk (st := s_l_right) l_l_right c_l_right k_l_right)
  have b_l_right := (fun_mk (st := s_l_right) l_l_right c_l_right k_l_right).binds (ps := ["_law_mine", "_law_others"]) fun _ _ _ _ _ _ us hl => match us, hl with | [_, _], _ => rfl
  exact ok_lawG T (fun_mk (st := s_law) l_law c_law k_law) G_l_right (PySem.W.mg_of X G a_l_right) k_l_right b_l_right C_l_draw C_l_near C_l_short C_l_drawn C_l_deck

end Sm
open PySem PySem.W PyProof.Rows in
set_option maxRecDepth 100000 in
set_option maxHeartbeats 0 in
theorem PySem.Challenge.cw_smallchange_k73_rules_above_and_below_holds : PySem.Challenge.rw_smallchange_k73_rules_above_and_below.Holds := by
  w_on; o_law; k_head; (case hw => w_witness2)
  k_fill
  refine Sm.walk_at_law (l := PySem.Challenge.rw_smallchange_k73_rules_above_and_below) (k := 8) (x := "_law_script") (sp := Sm.sp_law) rfl rfl ⟨rfl, by decide, by decide⟩ (fun w h Y => PySem.W.kIn_of Y) ?F (fun _ _ a ns hl hS => ⟨a, ns, rfl, hS, hl, fun _ => rfl⟩)
  case F =>
    intro w mg fa h KX G hmg
    refine' Sm.all_mk KX G hmg ?a_is_whole ?l_is_whole ?c_is_whole ?k_is_whole ?a_is_amount ?l_is_amount ?c_is_amount ?k_is_amount ?a_rule_error ?l_rule_error ?c_rule_error ?k_rule_error ?a_told_error ?l_told_error ?c_told_error ?k_told_error ?a_shortest ?l_shortest ?c_shortest ?k_shortest ?a_cycle_of ?l_cycle_of ?c_cycle_of ?k_cycle_of ?a_values_to ?l_values_to ?c_values_to ?k_values_to ?a_first_above ?l_first_above ?c_first_above ?k_first_above ?a_begin_of ?l_begin_of ?c_begin_of ?k_begin_of ?a_rise_in ?l_rise_in ?c_rise_in ?k_rise_in ?a_common_turn ?l_common_turn ?c_common_turn ?k_common_turn ?a_one_more ?l_one_more ?c_one_more ?k_one_more ?a_l_deck ?l_l_deck ?c_l_deck ?k_l_deck ?a_l_draw ?l_l_draw ?c_l_draw ?k_l_draw ?a_l_drawn ?l_l_drawn ?c_l_drawn ?k_l_drawn ?a_l_value ?l_l_value ?c_l_value ?k_l_value ?a_l_fits ?l_l_fits ?c_l_fits ?k_l_fits ?a_l_short ?l_l_short ?c_l_short ?k_l_short ?a_l_under ?l_l_under ?c_l_under ?k_l_under ?a_l_near ?l_l_near ?c_l_near ?k_l_near ?a_l_right ?l_l_right ?c_l_right ?k_l_right ?a_law ?l_law ?c_law ?k_law ?g_cl ?t_cl ?a_Rule ?pg_Rule ?hd_Rule ?po_Rule ?sa_Rule ?mk_Rule ?kp_Rule ?ha_Rule ?hm_Rule ?na_Rule_value ?na_Rule_table ?na_Rule_period ?na_Rule_rise ?at_Rule_init ?fn_Rule_init ?kf_Rule_init ?lf_Rule_init ?cf_Rule_init ?at_Rule_eq ?fn_Rule_eq ?kf_Rule_eq ?lf_Rule_eq ?cf_Rule_eq ?at_Rule_is_below ?fn_Rule_is_below ?kf_Rule_is_below ?lf_Rule_is_below ?cf_Rule_is_below ?at_Rule_is_above ?fn_Rule_is_above ?kf_Rule_is_above ?lf_Rule_is_above ?cf_Rule_is_above ?z_abs ?z_all ?z_any ?z_bool ?z_cls ?z_int ?z_isinstance ?z_iter ?z_len ?z_list ?z_max ?z_min ?z_range ?z_repr ?z_tuple ?g_gcd ?g_lcm ?g_MAX_TOLD
    (case a_is_whole => k_is)
    (case l_is_whole => k_is)
    (case c_is_whole => k_is)
    (case k_is_whole => k_is)
    (case a_is_amount => k_is)
    (case l_is_amount => k_is)
    (case c_is_amount => k_is)
    (case k_is_amount => k_is)
    (case a_rule_error => k_is)
    (case l_rule_error => k_is)
    (case c_rule_error => k_is)
    (case k_rule_error => k_is)
    (case a_told_error => k_is)
    (case l_told_error => k_is)
    (case c_told_error => k_is)
    (case k_told_error => k_is)
    (case a_shortest => k_is)
    (case l_shortest => k_is)
    (case c_shortest => k_is)
    (case k_shortest => k_is)
    (case a_cycle_of => k_is)
    (case l_cycle_of => k_is)
    (case c_cycle_of => k_is)
    (case k_cycle_of => k_is)
    (case a_values_to => k_is)
    (case l_values_to => k_is)
    (case c_values_to => k_is)
    (case k_values_to => k_is)
    (case a_first_above => k_is)
    (case l_first_above => k_is)
    (case c_first_above => k_is)
    (case k_first_above => k_is)
    (case a_begin_of => k_is)
    (case l_begin_of => k_is)
    (case c_begin_of => k_is)
    (case k_begin_of => k_is)
    (case a_rise_in => k_is)
    (case l_rise_in => k_is)
    (case c_rise_in => k_is)
    (case k_rise_in => k_is)
    (case a_common_turn => k_is)
    (case l_common_turn => k_is)
    (case c_common_turn => k_is)
    (case k_common_turn => k_is)
    (case a_one_more => k_is)
    (case l_one_more => k_is)
    (case c_one_more => k_is)
    (case k_one_more => k_is)
    (case a_l_deck => k_is)
    (case l_l_deck => k_is)
    (case c_l_deck => k_is)
    (case k_l_deck => k_is)
    (case a_l_draw => k_is)
    (case l_l_draw => k_is)
    (case c_l_draw => k_is)
    (case k_l_draw => k_is)
    (case a_l_drawn => k_is)
    (case l_l_drawn => k_is)
    (case c_l_drawn => k_is)
    (case k_l_drawn => k_is)
    (case a_l_value => k_is)
    (case l_l_value => k_is)
    (case c_l_value => k_is)
    (case k_l_value => k_is)
    (case a_l_fits => k_is)
    (case l_l_fits => k_is)
    (case c_l_fits => k_is)
    (case k_l_fits => k_is)
    (case a_l_short => k_is)
    (case l_l_short => k_is)
    (case c_l_short => k_is)
    (case k_l_short => k_is)
    (case a_l_under => k_is)
    (case l_l_under => k_is)
    (case c_l_under => k_is)
    (case k_l_under => k_is)
    (case a_l_near => k_is)
    (case l_l_near => k_is)
    (case c_l_near => k_is)
    (case k_l_near => k_is)
    (case a_l_right => k_is)
    (case l_l_right => k_is)
    (case c_l_right => k_is)
    (case k_l_right => k_is)
    (case a_law => k_is)
    (case l_law => k_is)
    (case c_law => k_is)
    (case k_law => k_is)
    (case g_cl => first | k_is | rfl | decide +kernel)
    (case t_cl => first | k_is | rfl | decide +kernel)
    (case a_Rule => first | k_is | rfl | decide +kernel)
    (case pg_Rule => first | k_is | rfl | decide +kernel)
    (case hd_Rule => first | k_is | rfl | decide +kernel)
    (case po_Rule => first | k_is | rfl | decide +kernel)
    (case sa_Rule => first | k_is | rfl | decide +kernel)
    (case mk_Rule => first | k_is | rfl | decide +kernel)
    (case kp_Rule => first | k_is | rfl | decide +kernel)
    (case ha_Rule => first | k_is | rfl | decide +kernel)
    (case hm_Rule => first | k_is | rfl | decide +kernel)
    (case na_Rule_value => first | k_is | rfl | decide +kernel)
    (case na_Rule_table => first | k_is | rfl | decide +kernel)
    (case na_Rule_period => first | k_is | rfl | decide +kernel)
    (case na_Rule_rise => first | k_is | rfl | decide +kernel)
    (case at_Rule_init => first | k_is | rfl | decide +kernel)
    (case fn_Rule_init => first | k_is | rfl | decide +kernel)
    (case kf_Rule_init => first | k_is | rfl | decide +kernel)
    (case lf_Rule_init => first | k_is | rfl | decide +kernel)
    (case cf_Rule_init => first | k_is | rfl | decide +kernel)
    (case at_Rule_eq => first | k_is | rfl | decide +kernel)
    (case fn_Rule_eq => first | k_is | rfl | decide +kernel)
    (case kf_Rule_eq => first | k_is | rfl | decide +kernel)
    (case lf_Rule_eq => first | k_is | rfl | decide +kernel)
    (case cf_Rule_eq => first | k_is | rfl | decide +kernel)
    (case at_Rule_is_below => first | k_is | rfl | decide +kernel)
    (case fn_Rule_is_below => first | k_is | rfl | decide +kernel)
    (case kf_Rule_is_below => first | k_is | rfl | decide +kernel)
    (case lf_Rule_is_below => first | k_is | rfl | decide +kernel)
    (case cf_Rule_is_below => first | k_is | rfl | decide +kernel)
    (case at_Rule_is_above => first | k_is | rfl | decide +kernel)
    (case fn_Rule_is_above => first | k_is | rfl | decide +kernel)
    (case kf_Rule_is_above => first | k_is | rfl | decide +kernel)
    (case lf_Rule_is_above => first | k_is | rfl | decide +kernel)
    (case cf_Rule_is_above => first | k_is | rfl | decide +kernel)
    (case z_abs => k_is)
    (case z_all => k_is)
    (case z_any => k_is)
    (case z_bool => k_is)
    (case z_cls => k_is)
    (case z_int => k_is)
    (case z_isinstance => k_is)
    (case z_iter => k_is)
    (case z_len => k_is)
    (case z_list => k_is)
    (case z_max => k_is)
    (case z_min => k_is)
    (case z_range => k_is)
    (case z_repr => k_is)
    (case z_tuple => k_is)
    (case g_gcd => k_is)
    (case g_lcm => k_is)
    (case g_MAX_TOLD => k_is)

