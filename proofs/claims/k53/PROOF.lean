import PyProof.Rows.All
import Wide.All
import OpenK.AllK
import Wide.FinOn
import HandS.ForMost
import HandS.Wide
import HandS.Codes
import PyProof.ReprRoads
import HandS.IsInst
import HandS.Dict
import HandS.TupMul
import HandS.Conv
import HandS.Style
import HandS.TupAny
import HandS.ForExc
import HandS.ExcIs
import HandS.ExcInit
import HandS.ExcField
import HandS.ExcOwn
import KE.KExcIs
import HandS.Lambda
import HandS.EndOwn
import KE.KExcInit
import PyProof.ExcBaseAll.LookupError
import HandS.TryOnly
import HandS.More
import HandS.TupSets
import PySem.Challenge.RW_smallchange_k53_kinds_that_lead
set_option Elab.async false
set_option linter.all false
set_option maxRecDepth 100000
set_option maxHeartbeats 4000000
namespace Sm
open PySem PySem.Spec PyProof.Rows L2
/-! ### promises of defs where no repr is under way: as FnOk, with A's guards empty -/
structure FnG (P : Program) (w : World) (K : PySem.W.Frag) (mg : Str → Option Value) (base : Heap) (k : Nat) (f : Addr) (fd : FuncData) (ps : List Str) (sp : Sp) : Prop where
  len : ∀ vs H Q E, sp vs H Q E → vs.length = ps.length
  run : ∀ (A : Around) (outer : List Env) (s : Shared) (H : Hp) (args : Args) (us : List Value) (vs : List V) (Q : VK) (E : XK), A.guards = some [] → Room k A →
    Env0 P w K mg base A outer s H → BindsTo s fd args (ps.zip us) → Vals vs us → sp vs H Q E → codeAny (model P w) A (.call (.ref f) args) (CR CX0 outer P w H s Q E) s
section
variable {P : Program} {w : World} {K : PySem.W.Frag} {mg : Str → Option Value} {base : Heap} {k : Nat} {f : Addr} {fd : FuncData} {ps : List Str} {sp : Sp}
theorem FnG.of (F : FnOk P w K mg base CX0 k f fd ps sp) : FnG P w K mg base k f fd ps sp :=
  ⟨F.len, fun A outer s H args us vs Q E _ hr e b v h => F.run A outer s H args us vs Q E hr e b v h⟩
theorem FnG.body {x : Str} {st : Stmt} {N : List Str} (F : Fun K x x st f fd) (S : FnScope N ps (defScope st)) (len : ∀ vs H Q E, sp vs H Q E → vs.length = ps.length)
    (hb : ∀ (cdv : Value) (A : Around) (outer : List Env) (s : Shared) (H : Hp) (vs : List V) (Q : VK) (E : XK), A.guards = some [] → Room k (A.deeper (envOfC x (defScope st) s.heap.objs.size f cdv)) → sp vs H Q E →
      ∃ t, PSs (cxOf CX0 P w K mg base N x (defScope st) f cdv A outer s H E).nox (defBody st) t ∧ t { nx := fun _ H' => Q .non H', rt := Q } (start N vs) H) : FnG P w K mg base (k + 1) f fd ps sp := by
  obtain ⟨oc, od, kV, doc, pm, an, cdv, ct, osl, efd, look, code⟩ := F.ex
  subst efd
  constructor
  · exact len
  intro A outer s H args us vs Q E guard room e0 bind rel want
  have inn : K.In s.heap := e0.mod.kin.keeps fun b o e => (e0.bs b o e).1
  have nolim : s.heap.NoLimit := e0.mod.nolimit.keeps fun b o e => (e0.bs b o e).1
  refine codeAny_call_function room.depth (inn _ _ look) rfl S.co S.gen rfl (PySem.W.codeRec_of inn code) (bind _ _ _ _ ?_)
  refine wpAny_newFunctionEnv_cells S.kind ?_ ?_
  · rintro ⟨n, v⟩ there
    have := S.par n (List.of_mem_zip there).1
    cases this with
    | inl q => exact .inl q
    | inr q => exact .inr ⟨q, PySem.W.cellsFrom_some _ _ _ (.inl q)⟩
  · intro env eenv s1 laid
    subst eenv
    refine ⟨nolim.keeps laid.toInCall.keep, codeAny_func ?_⟩
    obtain ⟨t, der, goal⟩ := hb cdv A outer s H vs Q E guard (room.deeper _) want
    have I := inv_start (CX := CX0) (E := E) S room.hd e0 (len _ _ _ _ want) rel laid
    refine wpAny_mono (der.nox.run [] s1 (start N vs) H _ I goal) (fun out s' got => ?_) fun e s' got => got
    match out, got with
    | .ret u, ⟨v, σ', H', J, rv, q⟩ => exact ⟨v, H', J.os, J.bare, J.base, J.hok, rv, q⟩
    | .next, ⟨σ', H', J, q⟩ => exact ⟨V.non, H', J.os, J.bare, J.base, J.hok, rfl, q⟩
    | .brk, ⟨_, _, _, q⟩ => exact q.elim
    | .cont, ⟨_, _, _, q⟩ => exact q.elim
end
section
variable {X : Cx} {k : Nat} {f : Addr} {fd : FuncData} {ps : List Str} {sp : Sp} {x : Str} {p pos : Pos} {e : Expr} {es : List Expr} {t : TA}
theorem pe_callG (F : FnG X.prog X.w X.K X.mg X.base k f fd ps sp) (gu : X.A.guards = some []) (hr : Room k X.A) (hg : Gl X x) (hm : X.mg x = some (.ref f)) (hk : PySem.W.keepIn X.K (.ref f) = true) (hb : Binds X.K fd ps [])
    (ha : PA X (e :: es) t) (hdb : (x == ("__debug__" : Str)) = false := by decide) (he : starEach (e :: es) X.env = (false, eval e X.env) :: starEach es X.env := by rfl) (hpl : (backTo pos (starEach es X.env)).any (·.1) = false := by rfl) :
    PE X (.Call (.Name x p) (e :: es) [] pos) (tCall sp [] E0 t) := by
  constructor
  intro pins s σ H Q I want
  refine wpAny_Call_Name_kw (ld_glob I hg hm ?_ hdb)
  refine PySem.W.callWith_K (h₀ := X.base) I.ok.mod.kin hk (thn (ha.run pos pins s σ H _ I want) ?_) he hpl
  rintro us s1 ⟨vs, H1, I1, rel, q⟩
  refine ⟨I1.kIn, ?_⟩
  have q : sp vs H1 Q E0 := by
    have q : sp (vs ++ []) H1 Q E0 := q
    rw [List.append_nil] at q
    exact q
  have b := hb s1 us I1.kIn (by rw [List.append_nil, ← rel.length]; exact F.len _ _ _ _ q)
  rw [List.append_nil] at b
  refine wpAny_call (codeAny_mono (F.run X.A X.stack s1 H1 ⟨us, []⟩ us vs Q E0 gu hr I1.env0 b rel q) ?_)
  rintro (e | out) s' got
  · exact got.elim
  · match out, got with
    | .ret u, got => exact I1.after got
    | .next, got => exact got.elim
    | .brk, got => exact got.elim
    | .cont, got => exact got.elim
/-- repr of data at any depth -/
theorem call_repr_data (gu : X.A.guards = some []) (room : ∃ k, Room k X.A) : CallR X (.builtin "repr") (fun xs H Q => ∃ a d, xs = [.ref a] ∧ Dp X.K H (.ref a) d ∧ PyData.showable d = true ∧ PyData.hasDict d = false ∧ d.depth ≤ 60 ∧ d.shown.length ≤ sizeLine ∧ Q (.str d.shown) H) := by
  intro pins s σ H xs us Q I rel want
  obtain ⟨a, d, rfl, data, sh, nd, dep, len, q⟩ := want
  obtain ⟨u, rfl, ru⟩ := vals1 rel
  obtain ⟨as, reads⟩ := Dp.reads I d _ u data ru
  cases ru
  obtain ⟨k, room⟩ := room
  have un := room.un
  exact repr_of_reads' reads sh (PyData.noDict_hsm nd) gu (by omega) (fun _ _ e => e) (fun h' v tk keep => ⟨.str d.shown, H, I.kept keep, ⟨_, rfl⟩, q⟩) len
end
/-! ### the law's own call, at the caller's place -/
theorem law_at {P : Program} {w : World} {K : PySem.W.Frag} {mg mb : Str → Option Value} {k : Nat} {fa a : Addr} {fd : FuncData} {x : Str} {sp : Sp} {s₁ : Shared} {vs : List Value} {ns : List Int}
    (KX : K.In s₁.heap) (hns : s₁.heap.Ns mainGlobals mg) (hb : s₁.heap.Ns builtinsNs mb) (hbb : ∀ x : Str, x ≠ "__name__" → mb x = bootBuiltins x) (hlim : s₁.heap.NoLimit) (hg : s₁.gens = #[])
    (ha : s₁.heap.get? a = some { cls := .type "list", data := .seq vs.toArray }) (hi : IntsAre vs ns) (hl : ns.length ≤ sizeLine) (hr : Room k callerA)
    (F : ∀ base : Heap, K.In base → base.Ns mainGlobals mg → FnG P w K mg base k fa fd [x] sp) (hbind : ∀ (s : Shared) (u : Value), BindsTo s fd ⟨[u], []⟩ [(x, u)])
    (hsp : ∀ H : Hp, SqL K H a (ns.map V.int) → sp [.ref a] H (fun v _ => v = .bl true) E0) :
    codeAny (model P w) callerA (.call (.ref fa) ⟨[.ref a], []⟩) (fun r s' => r = .ok (.ret (.bool true)) ∧ OldK s₁.heap s'.heap ∧ s'.os = s₁.os ∧ AllBare s'.gens) s₁ := by
  have ivs := vals_ints hi
  -- what is tracked: the script, if the module does not hold it itself
  obtain ⟨H, seq, ok, only, free⟩ : ∃ H : Hp, SqL K H a (ns.map V.int) ∧ HOk P w H s₁.heap ∧ (∀ b u, H b = some u → b = a ∧ u = .frz { cls := .type "list", data := .seq vs.toArray } (.lst (ns.map V.int))) ∧ ∀ b u, H b = some u → K.lookup b = none := by
    cases look : K.lookup a with
    | some o =>
      have same := KX a o look
      rw [ha] at same
      injection same with same
      subst same
      have empty : ∀ {u : HO}, (none : Option HO) = some u → False := fun z => nomatch z
      refine ⟨fun _ => none, .inr ⟨_, vs.toArray, _, look, rfl, rfl, rfl, ?_, ?_⟩, fun b u z => (empty z).elim, fun b u z => (empty z).elim, fun b u z => (empty z).elim⟩
      · rw [List.size_toArray, hi.length]
        exact hl
      · simpa using ivs
    | none =>
      have at_a : ∀ b u, (fun b => if b = a then some (HO.frz { cls := .type "list", data := .seq vs.toArray } (.lst (ns.map V.int))) else none : Hp) b = some u → b = a ∧ u = .frz { cls := .type "list", data := .seq vs.toArray } (.lst (ns.map V.int)) := by
        intro b u z
        by_cases e : b = a
        · have z := (if_pos e).symm.trans z
          exact ⟨e, (Option.some.inj z).symm⟩
        · exact nomatch (if_neg e).symm.trans z
      refine ⟨_, .inl (.inr ⟨_, if_pos rfl⟩), fun b u z => ?_, at_a, fun b u z => ?_⟩
      · obtain ⟨rfl, rfl⟩ := at_a b u z
        exact ⟨ha, by rw [List.length_map]; exact hl, vs, _, ivs, ha⟩
      · rw [(at_a b u z).1]
        exact look
  have stays : ∀ {b : Addr} {o : Obj}, s₁.heap.get? b = some o → (∀ u, H b ≠ some u) → (hidT s₁.heap H).get? b = some o := fun {b o} e no => hidT_get e (by
    cases z : H b with
    | none => rfl
    | some u => exact (no u z).elim)
  have spaces : ∀ {b : Addr} {m : Str → Option Value}, s₁.heap.Ns b m → (hidT s₁.heap H).Ns b m := by
    rintro b m ⟨o, es, ep, there, data, rest⟩
    refine ⟨o, es, ep, stays there fun u z => ?_, data, rest⟩
    rw [(only b u z).1, ha] at there
    injection there with there
    subst there
    exact nomatch data
  have inn : K.In (hidT s₁.heap H) := fun b o e => stays (KX b o e) fun u z => by
    rw [free b u z] at e
    exact nomatch e
  have mod : Mod K mg (hidT s₁.heap H) := by
    obtain ⟨mc, c1, c2⟩ := hlim
    exact ⟨inn, spaces hns, ⟨mb, spaces hb, hbb⟩, mc, spaces c1, c2⟩
  have e0 : Env0 P w K mg (hidT s₁.heap H) callerA [] s₁ H := by
    refine ⟨rfl, mod, fun b o e => of_hidT e, Nat.le_of_eq (hidT_size _ _), trivial, ?_, ok, .of_eq hg⟩
    intro b q
    exact absurd q (List.not_mem_nil (a := b))
  refine codeAny_mono ((F _ inn (spaces hns)).run callerA [] s₁ H ⟨[.ref a], []⟩ [.ref a] [.ref a] _ _ rfl hr e0 (hbind s₁ (.ref a)) (.cons rfl .nil) (hsp H seq)) ?_
  rintro (e | out) s' got
  · exact got.elim
  · match out, got with
    | .next, got => exact got.elim
    | .brk, got => exact got.elim
    | .cont, got => exact got.elim
    | .ret u, ⟨v, H', os, bare, un, ok', rel, q⟩ =>
      have q : v = V.bl true := q
      subst q
      have rel : u = Value.bool true := rel
      subst rel
      refine ⟨rfl, .of_keep fun b o e => ?_, os, bare⟩
      cases z : H b with
      | none => exact un.keep b o e z (List.not_mem_nil (a := b)) (List.not_mem_nil (a := b))
      | some u =>
        obtain ⟨rfl, rfl⟩ := only b u z
        have now := (ok' _ _ (un.frzs _ _ _ z)).1
        rw [ha] at e
        injection e with e
        rw [← e]
        exact now
theorem walk_at_law {l : PySem.W.OpenLaw} {k : Nat} {q : Program} {loose : List Str} {XP : (Str → Option Value) → Heap → Prop} {YP : World → Heap → Prop} {d : DefRec} {K : Params → PySem.W.Frag} {sp : PySem.W.Frag → Sp} {x : Str}
    (hn : l.most = some 63) (hdf : d.params.defaults = []) (hr : Room k callerA) (hY : ∀ (w : World) (h : Heap), YP w h → (K w.params).In h)
    (F : ∀ (w : World) (mg : Str → Option Value) (fa : Addr) (h : Heap), (K w.params).In h → h.Ns mainGlobals mg → mg d.name = some (.ref fa) →
      ∃ fd : FuncData, (∀ (s : Shared) (u : Value), BindsTo s fd ⟨[u], []⟩ [(x, u)]) ∧ ∀ base : Heap, (K w.params).In base → base.Ns mainGlobals mg → FnG l.prog w (K w.params) mg base k fa fd [x] (sp (K w.params)))
    (hsp : ∀ (K : PySem.W.Frag) (H : Hp) (a : Addr) (ns : List Int), ns.length ≤ 63 → SqL K H a (ns.map V.int) → sp K [.ref a] H (fun v _ => v = .bl true) E0) :
    PySem.W.WalkO q loose XP YP l.row.toRowW d [] (fun f vs => PySem.call f vs) := by
  refine Att.attach_call hn hdf ?_
  intro w s₀ s₁ mg mb fa o pm cd doc a vs ns G Y ho hd hcd hmg hobj hints hlen hg
  obtain ⟨fd, bind, each⟩ := F w mg fa _ (hY w _ Y) G.T.g hmg
  exact law_at (hY w _ Y) G.T.g G.T.b G.T.builtins G.T.nolimit hg hobj hints (Nat.le_trans hlen (by decide)) hr each bind fun H sq => hsp (K w.params) H a ns hlen sq
end Sm

set_option Elab.async false
set_option linter.all false
set_option maxRecDepth 100000
set_option maxHeartbeats 4000000
namespace Sm
open PySem PySem.Spec PyProof.Rows L2
section
variable {P : Program} {w : World} {K : PySem.W.Frag} {mg : Str → Option Value} {base : Heap}
def Df (K : PySem.W.Frag) (mg : Str → Option Value) (x : Str) (st : Stmt) (ps : List Str) : Prop :=
  ∃ (f : Addr) (fd : FuncData), Fun K x x st f fd ∧ mg x = some (.ref f) ∧ Binds K fd ps []
def Cal (P : Program) (w : World) (K : PySem.W.Frag) (mg : Str → Option Value) (base : Heap) (x : Str) (ps : List Str) (k : Nat) (sp : Sp) : Prop :=
  ∃ (f : Addr) (fd : FuncData), FnOk P w K mg base CX0 k f fd ps sp ∧ mg x = some (.ref f) ∧ PySem.W.keepIn K (.ref f) = true ∧ Binds K fd ps []
theorem Df.cal {x : Str} {st : Stmt} {N ps : List Str} {k : Nat} {sp : Sp} (D : Df K mg x st ps) (S : FnScope N ps (defScope st)) (len : ∀ vs H Q E, sp vs H Q E → vs.length = ps.length)
    (hbody : ∀ (f : Addr) (cdv : Value) (A : Around) (outer : List Env) (s : Shared) (H : Hp) (vs : List V) (Q : VK) (E : XK), Room k (A.deeper (envOfC x (defScope st) s.heap.objs.size f cdv)) → sp vs H Q E →
      ∃ t, PSs (cxOf CX0 P w K mg base N x (defScope st) f cdv A outer s H E).nox (defBody st) t ∧ t { nx := fun _ H' => Q .non H', rt := Q } (start N vs) H) : Cal P w K mg base x ps (k + 1) sp := by
  obtain ⟨f, fd, F, m, b⟩ := D
  exact ⟨f, fd, F.ok S len (fun cdv A outer s H vs Q E hr h => hbody f cdv A outer s H vs Q E hr h), m, F.kp, b⟩
theorem same_upd {H : Hp} {p : Addr} {o : HO} (h : H p = none) : Same H (upd H p o) := fun b x e => by
  rw [upd_ne (ne_of_none e h)]
  exact e
theorem iteP {p A B : Prop} [Decidable p] (h : p) (a : A) : if decide p = true then A else B := by
  rw [decide_eq_true h]
  exact iteT a
theorem iteN {p A B : Prop} [Decidable p] (h : ¬ p) (b : B) : if decide p = true then A else B := by
  rw [decide_eq_false h]
  exact iteF b
theorem iteNP {p A B : Prop} [Decidable p] (h : p) (b : B) : if (!decide p) = true then A else B := by
  rw [decide_eq_true h]
  exact iteF b
theorem iteNN {p A B : Prop} [Decidable p] (h : ¬ p) (a : A) : if (!decide p) = true then A else B := by
  rw [decide_eq_false h]
  exact iteT a
theorem ite3 {p A B : Prop} [Decidable p] (h1 : p → A) (h2 : ¬ p → B) : if decide p = true then A else B := by
  by_cases h : p
  · exact iteP h (h1 h)
  · exact iteN h (h2 h)
theorem fmod_pos {a b : Int} (h : 0 < b) : a.fmod b = a % b := Int.fmod_eq_emod_of_nonneg a (by omega)
end
/-! ### the deck -/
structure Deck (H : Hp) (p l : Addr) (n : Int) : Prop where
  hp : H p = some (.lst [.ref l, .int n])
  hl : ∃ cells : List Int, H l = some (.lst (cells.map V.int)) ∧ (∀ c ∈ cells, 0 ≤ c) ∧ cells.length ≤ 63
theorem deck_ne {l : Addr} {n : Int} {cells : List Int} : HO.lst [.ref l, .int n] ≠ HO.lst (cells.map V.int) := by
  intro q
  injection q with q
  cases cells with
  | nil => cases q
  | cons c r => cases (List.cons.inj q).1
/-- all but the deck is as it was -/
def Fr (p l : Addr) (H H' : Hp) : Prop := ∀ b o, b ≠ p → b ≠ l → H b = some o → H' b = some o
theorem Fr.trans {p l : Addr} {H H1 H2 : Hp} (a : Fr p l H H1) (b : Fr p l H1 H2) : Fr p l H H2 := fun c o h1 h2 h => b c o h1 h2 (a c o h1 h2 h)
theorem Same.fr {p l : Addr} {H H' : Hp} (s : Same H H') : Fr p l H H' := fun b o _ _ h => s b o h
theorem Deck.same {H H' : Hp} {p l : Addr} {n : Int} (D : Deck H p l n) (s : Same H H') : Deck H' p l n := by
  obtain ⟨cells, hl, hc⟩ := D.hl
  exact ⟨s _ _ D.hp, cells, s _ _ hl, hc⟩
theorem Fr.tup {H H' : Hp} {p l b : Addr} {n : Int} {xs : List V} (f : Fr p l H H') (D : Deck H p l n) (h : H b = some (.tup xs)) : H' b = some (.tup xs) := by
  obtain ⟨cells, hl, hc⟩ := D.hl
  exact f b _ (ne_of h D.hp (by intro q; cases q)) (ne_of h hl (by intro q; cases q)) h
def sp_l_deck (K : PySem.W.Frag) : Sp := fun vs H Q _ => ∃ (a : Addr) (ns : List Int), vs = [.ref a] ∧ SqL K H a (ns.map V.int) ∧ ns.length ≤ 63 ∧ ∀ H' p l, Same H H' → Deck H' p l 0 → Q (.ref p) H'
def sp_l_draw (K : PySem.W.Frag) : Sp := fun vs H Q _ => ∃ (p l : Addr) (n m : Int), vs = [.ref p, .int m] ∧ Deck H p l n ∧ 0 ≤ n ∧ n ≤ 1000000 ∧ 0 < m ∧ m ≤ 1000000000000000000000000000000000000000000000000000000000000 ∧
  ∀ r H', 0 ≤ r → r < m → Fr p l H H' → Deck H' p l (n + 1) → Q (.int r) H'
def sp_l_one (K : PySem.W.Frag) : Sp := fun vs H Q _ => ∃ (p l b : Addr) (n : Int) (xs : List V), vs = [.ref p, .ref b] ∧ Deck H p l n ∧ 0 ≤ n ∧ n ≤ 1000000 ∧ H b = some (.lst xs) ∧ b ≠ p ∧ b ≠ l ∧ 0 < xs.length ∧ xs.length ≤ 1000 ∧
  ∀ x H', x ∈ xs → Fr p l H H' → Deck H' p l (n + 1) → Q x H'
theorem cut63 {ns : List Int} (h : ns.length ≤ 63) : cutV (ns.map V.int) none (some 63) = ns.map V.int := by
  unfold cutV
  rw [HT.sIx_none, show HT.sIx (ns.map V.int).length (ns.map V.int).length (some 63) = min 63 (ns.map V.int).length from HT.sIx_nat _ _ 63]
  rw [List.length_map, Nat.min_eq_right h, List.drop_zero]
  exact List.take_of_length_le (by rw [List.length_map]; omega)
def absI (n : Int) : Int := if n < 0 then -n else n
theorem absI_pos (n : Int) : 0 ≤ absI n := by
  unfold absI
  split <;> omega
theorem div_draw {c m : Int} (h0 : 0 < m) (h : m ≤ 1000000000000000000000000000000000000000000000000000000000000) : CDivW c m :=
  wide_div (b := 300) h0 (by omega) (by decide) (by decide)
theorem cut_all {xs : List V} {n : Nat} : cutV xs none (some (n : Int)) = xs.take n := by
  unfold cutV
  rw [HT.sIx_none, HT.sIx_nat, List.drop_zero, Nat.sub_zero]
  rcases Nat.le_total n xs.length with h | h
  · rw [Nat.min_eq_left h]
  · rw [Nat.min_eq_right h, List.take_length, List.take_of_length_le h]
theorem ne_new {H : Hp} {p b : Addr} {o : HO} (h : H p = some o) (n : H b = none) : b ≠ p := (ne_of_none h n).symm
/-- what the deck's second list is not -/
theorem Deck.lne {H : Hp} {p l b : Addr} {n : Int} (D : Deck H p l n) (h : H b = none) : b ≠ p ∧ b ≠ l := by
  obtain ⟨cells, hl, hc⟩ := D.hl
  exact ⟨ne_new D.hp h, ne_new hl h⟩
section
variable {X : Cx}
/-- repr of an int or None -/
theorem call_repr_some : CallR X (.builtin "repr") (fun xs H Q => (∃ i, xs = [.int i] ∧ i.natAbs.log2 < 1920 ∧ Q (.str (toString i)) H) ∨ (xs = [.non] ∧ Q (.str "None") H)) := by
  intro pins s σ H xs us Q I r h
  rcases h with ⟨i, rfl, hz, q⟩ | ⟨rfl, q⟩
  · obtain ⟨u, rfl, t, rfl⟩ := vals1 r
    exact PySem.P.repr_of_int hz ⟨.str _, H, I.tok _, ⟨_, rfl⟩, q⟩
  · obtain ⟨u, rfl, rfl⟩ := vals1 r
    exact PySem.P.repr_of_none ⟨.str _, H, I.tok _, ⟨_, rfl⟩, q⟩
def dataI (ns : List Int) : PyData := .list (ns.map PyData.int)
theorem dp_ints {K : PySem.W.Frag} {H : Hp} : ∀ ns : List Int, DpAll K H (ns.map V.int) (ns.map PyData.int)
  | [] => .nil
  | n :: ns => .cons (.int n) (dp_ints ns)
theorem showable_ints : ∀ {ns : List Int}, (∀ n ∈ ns, n.natAbs.log2 < 1920) → PyData.showableAll (ns.map PyData.int) = true
  | [], _ => rfl
  | n :: ns, h => by
    have a := h n (List.mem_cons_self ..)
    have b := showable_ints (ns := ns) fun m hm => h m (List.mem_cons_of_mem _ hm)
    simp only [List.map_cons, PyData.showableAll, PyData.showable, decide_eq_true a, b, Bool.and_self]
theorem hasDict_ints : ∀ ns : List Int, PyData.hasDictAll (ns.map PyData.int) = false
  | [] => rfl
  | n :: ns => by
    simp only [List.map_cons, PyData.hasDictAll, PyData.hasDict, hasDict_ints ns, Bool.or_self]
theorem depth_ints : ∀ ns : List Int, PyData.depthAll (ns.map PyData.int) ≤ 1
  | [] => by simp [PyData.depthAll]
  | n :: ns => by
    have := depth_ints ns
    simp only [List.map_cons, PyData.depthAll, PyData.depth]
    omega
theorem shown_ints : ∀ {ns : List Int}, (∀ n ∈ ns, n.natAbs.log2 < 1920) → ((PyData.shownAll (ns.map PyData.int)).map (·.length)).sum ≤ 1921 * ns.length ∧ (PyData.shownAll (ns.map PyData.int)).length = ns.length
  | [], _ => by simp [PyData.shownAll]
  | n :: ns, h => by
    have a := PyProof.Rows.int_text_len_1921 (h n (List.mem_cons_self ..))
    obtain ⟨b, c⟩ := shown_ints (ns := ns) fun m hm => h m (List.mem_cons_of_mem _ hm)
    simp only [List.map_cons, PyData.shownAll, PyData.shown, List.sum_cons, List.length_cons]
    omega
/-- repr of a list of ints -/
theorem call_repr_ints (gu : X.A.guards = some []) (room : ∃ k, Room k X.A) : CallR X (.builtin "repr") (fun xs H Q => ∃ a ns, xs = [.ref a] ∧ SqL X.K H a (ns.map V.int) ∧ ns.length ≤ 5000 ∧ (∀ n ∈ ns, n.natAbs.log2 < 1920) ∧ Q (.str (dataI ns).shown) H) := by
  intro pins s σ H xs us Q I r h
  obtain ⟨a, ns, rfl, hS, len, small, q⟩ := h
  refine call_repr_data gu room pins s σ H _ us Q I r ⟨a, dataI ns, rfl, .lst hS (dp_ints ns), ?_, ?_, ?_, ?_, q⟩
  · unfold dataI
    simp only [PyData.showable, showable_ints small]
  · unfold dataI
    simp only [PyData.hasDict, hasDict_ints]
  · have := depth_ints ns
    unfold dataI
    simp only [PyData.depth]
    omega
  · obtain ⟨s1, s2⟩ := shown_ints small
    have := listText_len_le (PyData.shownAll (ns.map PyData.int))
    unfold dataI
    simp only [PyData.shown]
    rw [sizeLine_eq]
    omega
end
end Sm

set_option maxHeartbeats 4000000
namespace Sm
/-! offers, boards, and what leads where -/
structure Of where
  a : Nat
  x : Int
  b : Nat
  y : Int
def Of.ns (o : Of) : List Int := [(o.a : Int), o.x, (o.b : Int), o.y]
structure OfOk (k : Nat) (o : Of) : Prop where
  a : o.a < k
  b : o.b < k
  ne : o.a ≠ o.b
  x0 : 1 ≤ o.x
  x1 : o.x ≤ 30
  y0 : 0 ≤ o.y
  y1 : o.y ≤ 30
def Edge (L : List Of) (a b : Nat) : Prop := ∃ o ∈ L, o.a = a ∧ o.b = b ∧ 0 < o.y
def Rn (L : List Of) (s : Nat) : Nat → Nat → Prop
  | 0, c => c = s
  | n + 1, c => Rn L s n c ∨ ∃ b, Rn L s n b ∧ Edge L b c
def Lead (L : List Of) (s c : Nat) : Prop := ∃ n, Rn L s n c
section
variable {L : List Of} {s c d k : Nat}
theorem Rn.up {n m : Nat} (h : n ≤ m) (r : Rn L s n c) : Rn L s m c := by
  induction m with
  | zero => rw [show n = 0 by omega] at r; exact r
  | succ m ih =>
    by_cases q : n = m + 1
    · rw [← q]; exact r
    · exact .inl (ih (by omega))
theorem Lead.self : Lead L s s := ⟨0, rfl⟩
theorem Lead.step (h : Lead L s c) (e : Edge L c d) : Lead L s d := by
  obtain ⟨n, r⟩ := h
  exact ⟨n + 1, .inr ⟨c, r, e⟩⟩
theorem Lead.closed {S : Nat → Prop} (h0 : S s) (hs : ∀ a b, S a → Edge L a b → S b) (h : Lead L s c) : S c := by
  obtain ⟨n, r⟩ := h
  induction n generalizing c with
  | zero => rw [show c = s from r]; exact h0
  | succ n ih =>
    rcases r with r | ⟨b, r, e⟩
    · exact ih r
    · exact hs _ _ (ih r) e
theorem Lead.trans (h1 : Lead L s c) (h2 : Lead L c d) : Lead L s d := h2.closed (S := fun x => Lead L s x) h1 fun _ _ h e => h.step e
theorem filter_less {α : Type} {p q : α → Bool} : ∀ {l : List α}, (∀ x ∈ l, p x = true → q x = true) → (∃ x ∈ l, q x = true ∧ p x = false) → (l.filter p).length + 1 ≤ (l.filter q).length
  | [], _, h => by obtain ⟨_, h, _⟩ := h; cases h
  | a :: l, h, ⟨x, hx, h1, h2⟩ => by
    have le : (l.filter p).length ≤ (l.filter q).length := by
      clear hx h1 h2
      induction l with
      | nil => exact Nat.le_refl _
      | cons b l ih =>
        have i := ih fun x hx => by
          rcases List.mem_cons.mp hx with e | e
          · exact h x (by rw [e]; exact List.mem_cons_self)
          · exact h x (List.mem_cons_of_mem _ (List.mem_cons_of_mem _ e))
        have hb := h b (List.mem_cons_of_mem _ List.mem_cons_self)
        rw [List.filter_cons, List.filter_cons]
        cases e : p b with
        | true => rw [if_pos rfl, if_pos (hb e)]; simp; exact i
        | false =>
          rw [if_neg Bool.false_ne_true]
          split
          · simp; omega
          · exact i
    rw [List.filter_cons, List.filter_cons]
    rcases List.mem_cons.mp hx with e | e
    · subst e
      rw [h1, h2, if_neg Bool.false_ne_true, if_pos rfl]
      simp
      exact le
    · have i := filter_less (fun x hx => h x (List.mem_cons_of_mem _ hx)) ⟨x, e, h1, h2⟩
      have ha := h a List.mem_cons_self
      cases e : p a with
      | true => rw [if_pos rfl, if_pos (ha e)]; simp; omega
      | false =>
        rw [if_neg Bool.false_ne_true]
        split
        · simp; omega
        · exact i
noncomputable def cnt (L : List Of) (s k n : Nat) : Nat := ((List.range k).filter fun c => @decide (Rn L s n c) (Classical.propDecidable _)).length
theorem cdec {p : Prop} : (@decide p (Classical.propDecidable _)) = true ↔ p := @decide_eq_true_iff p (Classical.propDecidable _)
theorem cdecf {p : Prop} : (@decide p (Classical.propDecidable _)) = false ↔ ¬ p := @decide_eq_false_iff_not p (Classical.propDecidable _)
theorem Rn.lt {n : Nat} (hL : ∀ o ∈ L, OfOk k o) (hs : s < k) (r : Rn L s n c) : c < k := by
  induction n generalizing c with
  | zero => rw [show c = s from r]; exact hs
  | succ n ih =>
    rcases r with r | ⟨b, r, o, ho, _, e, _⟩
    · exact ih r
    · rw [← e]; exact (hL o ho).b
theorem Lead.lt (hL : ∀ o ∈ L, OfOk k o) (hs : s < k) (h : Lead L s c) : c < k := by
  obtain ⟨n, r⟩ := h
  exact r.lt hL hs
theorem Lead.to (hL : ∀ o ∈ L, OfOk k o) (hs : s < k) (h : Lead L s c) : Rn L s k c := by
  have key : ∀ n, (∃ m, m ≤ n ∧ ∀ c, Rn L s (m + 1) c → Rn L s m c) ∨ n + 1 ≤ cnt L s k n := by
    intro n
    induction n with
    | zero =>
      right
      have : 0 < cnt L s k 0 := List.length_pos_of_mem (a := s) (List.mem_filter.mpr ⟨List.mem_range.mpr hs, cdec.mpr rfl⟩)
      omega
    | succ n ih =>
      rcases ih with ⟨m, h1, h2⟩ | ih
      · exact .inl ⟨m, by omega, h2⟩
      · rcases Classical.em (∀ c, Rn L s (n + 1) c → Rn L s n c) with q | q
        · exact .inl ⟨n, by omega, q⟩
        · right
          obtain ⟨c, hc⟩ := Classical.not_forall.mp q
          obtain ⟨h1, h2⟩ := Classical.not_imp.mp hc
          have := filter_less (l := List.range k) (p := fun c => @decide (Rn L s n c) (Classical.propDecidable _)) (q := fun c => @decide (Rn L s (n + 1) c) (Classical.propDecidable _))
            (fun x _ hx => cdec.mpr (.inl (cdec.mp hx))) ⟨c, List.mem_range.mpr (h1.lt hL hs), cdec.mpr h1, cdecf.mpr h2⟩
          unfold cnt at ih ⊢
          omega
  rcases key k with ⟨m, h1, h2⟩ | q
  · refine Rn.up h1 ?_
    exact h.closed (S := fun x => Rn L s m x) (Rn.up (Nat.zero_le _) rfl) fun a b ha e => h2 b (.inr ⟨a, ha, e⟩)
  · have : cnt L s k k ≤ k := by
      unfold cnt
      exact Nat.le_trans (List.length_filter_le ..) (by rw [List.length_range]; exact Nat.le_refl _)
    omega
end
/-! sorted lists -/
theorem srt_eq {α : Type} {lt : α → α → Prop} (irr : ∀ x, ¬ lt x x) (tr : ∀ x y z, lt x y → lt y z → lt x z) : ∀ {l m : List α}, l.Pairwise lt → m.Pairwise lt → (∀ x, x ∈ l ↔ x ∈ m) → l = m
  | [], [], _, _, _ => rfl
  | [], b :: m, _, _, h => by have := (h b).mpr List.mem_cons_self; cases this
  | a :: l, [], _, _, h => by have := (h a).mp List.mem_cons_self; cases this
  | a :: l, b :: m, h1, h2, h => by
    obtain ⟨p1, q1⟩ := List.pairwise_cons.mp h1
    obtain ⟨p2, q2⟩ := List.pairwise_cons.mp h2
    have e : a = b := by
      rcases List.mem_cons.mp ((h a).mp List.mem_cons_self) with e | e
      · exact e
      · rcases List.mem_cons.mp ((h b).mpr List.mem_cons_self) with f | f
        · exact f.symm
        · exact (irr a (tr _ _ _ (p1 b f) (p2 a e))).elim
    subst e
    rw [srt_eq irr tr q1 q2 fun x => ⟨fun hx => ?_, fun hx => ?_⟩]
    · rcases List.mem_cons.mp ((h x).mp (List.mem_cons_of_mem _ hx)) with e | e
      · subst e; exact (irr _ (p1 _ hx)).elim
      · exact e
    · rcases List.mem_cons.mp ((h x).mpr (List.mem_cons_of_mem _ hx)) with e | e
      · subst e; exact (irr _ (p2 _ hx)).elim
      · exact e
theorem range_lt (k : Nat) : (List.range k).Pairwise (· < ·) := List.pairwise_lt_range
noncomputable def leadsL (L : List Of) (k s : Nat) : List Nat := (List.range k).filter fun c => @decide (Lead L s c) (Classical.propDecidable _)
noncomputable def backs (L : List Of) (k s : Nat) : List Nat := (List.range k).filter fun c => @decide (Lead L s c ∧ Lead L c s) (Classical.propDecidable _)
theorem mem_leads {L : List Of} {k s c : Nat} : c ∈ leadsL L k s ↔ c < k ∧ Lead L s c := by
  unfold leadsL
  rw [List.mem_filter, List.mem_range, cdec]
theorem mem_backs {L : List Of} {k s c : Nat} : c ∈ backs L k s ↔ c < k ∧ Lead L s c ∧ Lead L c s := by
  unfold backs
  rw [List.mem_filter, List.mem_range, cdec]
theorem backs_same {L : List Of} {k s c : Nat} (h : c ∈ backs L k s) : backs L k c = backs L k s := by
  obtain ⟨h0, h1, h2⟩ := mem_backs.mp h
  unfold backs
  refine List.filter_congr fun x _ => ?_
  have : (Lead L c x ∧ Lead L x c) ↔ (Lead L s x ∧ Lead L x s) := ⟨fun ⟨a, b⟩ => ⟨h1.trans a, b.trans h2⟩, fun ⟨a, b⟩ => ⟨h2.trans a, b.trans h1⟩⟩
  rw [Bool.eq_iff_iff, cdec, cdec]
  exact this
theorem backs_self {L : List Of} {k s : Nat} (h : s < k) : s ∈ backs L k s := mem_backs.mpr ⟨h, .self, .self⟩
theorem leads_lt (L : List Of) (k s : Nat) : (leadsL L k s).Pairwise (· < ·) := (range_lt k).filter _
theorem backs_lt (L : List Of) (k s : Nat) : (backs L k s).Pairwise (· < ·) := (range_lt k).filter _
theorem backs_len (L : List Of) (k s : Nat) : (backs L k s).length ≤ k := Nat.le_trans (List.length_filter_le ..) (by rw [List.length_range]; exact Nat.le_refl _)
theorem leads_len (L : List Of) (k s : Nat) : (leadsL L k s).length ≤ k := Nat.le_trans (List.length_filter_le ..) (by rw [List.length_range]; exact Nat.le_refl _)
theorem backs_filter (L : List Of) (k s : Nat) : (leadsL L k s).filter (fun c => @decide (Lead L c s) (Classical.propDecidable _)) = backs L k s := by
  unfold leadsL backs
  rw [List.filter_filter]
  refine List.filter_congr fun x _ => ?_
  rw [Bool.eq_iff_iff, Bool.and_eq_true, cdec, cdec, cdec]
  exact ⟨fun ⟨a, b⟩ => ⟨b, a⟩, fun ⟨a, b⟩ => ⟨b, a⟩⟩
theorem nd_len {α : Type} [DecidableEq α] : ∀ {l m : List α}, l.Nodup → (∀ x, x ∈ l → x ∈ m) → l.length ≤ m.length
  | [], _, _, _ => Nat.zero_le _
  | a :: l, m, hn, hs => by
    have hm : a ∈ m := hs a List.mem_cons_self
    obtain ⟨n1, n2⟩ := List.nodup_cons.mp hn
    have ih := nd_len (m := m.erase a) n2 fun x hx => (List.mem_erase_of_ne (by rintro rfl; exact n1 hx)).mpr (hs x (List.mem_cons_of_mem _ hx))
    rw [List.length_erase_of_mem hm] at ih
    have := List.length_pos_of_mem hm
    simp only [List.length_cons]
    omega
/-- numbers as integers -/
abbrev ni (l : List Nat) : List Int := l.map fun (c : Nat) => (c : Int)
theorem mem_ni {l : List Nat} {c : Nat} : (c : Int) ∈ ni l ↔ c ∈ l := by
  constructor
  · intro h
    obtain ⟨d, hd, e⟩ := List.mem_map.mp h
    rw [← Int.ofNat.inj e]
    exact hd
  · intro h
    exact List.mem_map.mpr ⟨c, h, rfl⟩
theorem ni_sorted {l : List Nat} (h : l.Pairwise (· < ·)) : (ni l).Pairwise (· < ·) := by
  rw [List.pairwise_map]
  exact h.imp fun q => Int.ofNat_lt.mpr q
theorem ni_nodup {l : List Nat} (h : l.Nodup) : (ni l).Nodup := by
  unfold List.Nodup at h ⊢
  rw [List.pairwise_map]
  exact h.imp fun q e => q (Int.ofNat.inj e)
/-- a sorted arrangement of given numbers -/
theorem ni_sort {F l : List Nat} {ys : List Int} (pm : ys.Perm (ni F)) (le : ys.Pairwise (· ≤ ·)) (nd : F.Nodup) (up : l.Pairwise (· < ·)) (h : ∀ c, c ∈ F ↔ c ∈ l) : ys = ni l := by
  have ny : ys.Nodup := (pm.nodup_iff).mpr (ni_nodup nd)
  have lt : ys.Pairwise (· < ·) := by
    have both := List.Pairwise.and le ny
    exact both.imp fun ⟨a, b⟩ => by omega
  refine srt_eq (lt := fun a b : Int => a < b) (fun x => Int.lt_irrefl x) (fun x y z => Int.lt_trans) lt (ni_sorted up) fun x => ?_
  rw [pm.mem_iff]
  constructor
  · intro hx
    obtain ⟨c, hc, rfl⟩ := List.mem_map.mp hx
    exact mem_ni.mpr ((h c).mp hc)
  · intro hx
    obtain ⟨c, hc, rfl⟩ := List.mem_map.mp hx
    exact mem_ni.mpr ((h c).mpr hc)
end Sm

set_option Elab.async false
set_option linter.all false
set_option maxRecDepth 100000
set_option maxHeartbeats 4000000
namespace Sm
open PySem PySem.Spec PyProof.Rows L2
/-! ### values of all kinds as data, dicts with text keys and ints too -/
def kD : Key → PyData
  | .inl i => .int i
  | .inr x => .str x
mutual
inductive Dq (K : PySem.W.Frag) (H : Hp) : V → PyData → Prop
  | non : Dq K H .non .none
  | bl (b : Bool) : Dq K H (.bl b) (.bool b)
  | int (i : Int) : Dq K H (.int i) (.int i)
  | str (x : Str) : Dq K H (.str x) (.str x)
  | lst {a : Addr} {xs : List V} {ds : List PyData} : H a = some (.lst xs) → (a == sysModules) = false → DqAll K H xs ds → Dq K H (.ref a) (.list ds)
  | tup {a : Addr} {xs : List V} {ds : List PyData} : H a = some (.tup xs) → DqAll K H xs ds → Dq K H (.ref a) (.tuple ds)
  | dic {a : Addr} (kvs : List (Key × Int)) : H a = some (.dK (kvs.map fun q => (q.1, V.int q.2))) → Dq K H (.ref a) (.dict (kvs.map fun q => (kD q.1, PyData.int q.2)))
inductive DqAll (K : PySem.W.Frag) (H : Hp) : List V → List PyData → Prop
  | nil : DqAll K H [] []
  | cons {v : V} {vs : List V} {d : PyData} {ds : List PyData} : Dq K H v d → DqAll K H vs ds → DqAll K H (v :: vs) (d :: ds)
end
mutual
theorem Dq.mono {K : PySem.W.Frag} {H H' : Hp} (e : ∀ b o, H b = some o → H' b = some o) : ∀ (d : PyData) (v : V), Dq K H v d → Dq K H' v d
  | .none, _, h => by cases h; exact .non
  | .bool b, _, h => by cases h; exact .bl b
  | .int i, _, h => by cases h; exact .int i
  | .str x, _, h => by cases h; exact .str x
  | .list ds, _, h => by
    cases h with
    | lst hs ne ha => exact .lst (e _ _ hs) ne (Dq.monoAll e ds _ ha)
  | .tuple ds, _, h => by
    cases h with
    | tup hs ha => exact .tup (e _ _ hs) (Dq.monoAll e ds _ ha)
  | .dict _, _, h => by
    cases h with
    | dic kvs hk => exact .dic kvs (e _ _ hk)
theorem Dq.monoAll {K : PySem.W.Frag} {H H' : Hp} (e : ∀ b o, H b = some o → H' b = some o) : ∀ (ds : List PyData) (vs : List V), DqAll K H vs ds → DqAll K H' vs ds
  | [], _, h => by cases h; exact .nil
  | d :: ds, _, h => by
    cases h with
    | cons h1 h2 => exact .cons (Dq.mono e d _ h1) (Dq.monoAll e ds _ h2)
end
theorem Dq.same {K : PySem.W.Frag} {H H' : Hp} {v : V} {d : PyData} (h : Dq K H v d) (s : Same H H') : Dq K H' v d := Dq.mono (fun b o => s b o) d v h
section
variable {X : Cx} {pins : List (Addr × Obj)} {σ : L2.St} {H : Hp} {s : Shared}
theorem dic_keys {h : Heap} {P : Program} {w : World} : ∀ {es : List DictEntry} {vs : List (Key × Value)} {kvs : List (Key × Int)}, Pairs (mixKind P w) es vs → KV (kvs.map fun q => (q.1, V.int q.2)) vs →
    ReadsAll h (es.map (·.key)) (kvs.map fun q => kD q.1) [] ∧ ReadsAll h (es.map (·.val)) (kvs.map fun q => PyData.int q.2) []
  | [], _, kvs, .nil, r => by
    cases kvs with
    | nil => exact ⟨.nil, .nil⟩
    | cons a b => exact nomatch r
  | e :: es, _, kvs, .cons h1 h2 h3, r => by
    cases kvs with
    | nil => exact nomatch r
    | cons a b =>
      cases r with
      | cons r1 r2 =>
        obtain ⟨q1, q2⟩ := dic_keys (h := h) h3 r2
        obtain ⟨g1, g2⟩ := r1
        have g1 : a.1 = _ := g1
        have g2 : RelV (V.int a.2) _ := g2
        obtain ⟨t, g2⟩ := g2
        refine ⟨?_, ?_⟩
        · have hk : Reads h e.key (kD a.1) [] := by
            rcases keyIs_shape h1 with ⟨i, t, e1, e2⟩ | ⟨x, t, e1, e2⟩
            · rw [g1, e2, e1]
              exact .int i t
            · rw [g1, e2, e1]
              exact .str x t
          exact .cons hk q1
        · have hv : Reads h e.val (.int a.2) [] := by
            rw [h2, g2]
            exact .int _ t
          exact .cons hv q2
mutual
theorem Dq.reads (I : Inv X pins σ H s) : ∀ (d : PyData) (v : V) (u : Value), Dq X.K H v d → RelV v u → ∃ as, Reads s.heap u d as ∧ sysModules ∉ as
  | .none, _, _, h, r => by
    cases h
    cases r
    exact ⟨_, Reads.none, List.not_mem_nil⟩
  | .bool b, _, _, h, r => by
    cases h
    cases r
    exact ⟨_, Reads.bool b, List.not_mem_nil⟩
  | .int i, _, _, h, r => by
    cases h
    obtain ⟨t, rfl⟩ := r
    exact ⟨_, Reads.int i t, List.not_mem_nil⟩
  | .str x, _, _, h, r => by
    cases h
    obtain ⟨t, rfl⟩ := r
    exact ⟨_, Reads.str x t, List.not_mem_nil⟩
  | .list ds, _, _, h, r => by
    cases h with
    | lst hs ne ha =>
      cases r
      obtain ⟨its, rv, ⟨o, n, ho, hc, _, hd⟩, _⟩ := I.list (SqL.of hs)
      obtain ⟨as, hr, hm⟩ := Dq.readsAll I ds _ its ha rv
      refine ⟨_, Reads.list ho hc hd hr, fun m => ?_⟩
      rcases List.mem_cons.mp m with e | e
      · rw [← e, beq_self_eq_true] at ne
        cases ne
      · exact hm e
  | .tuple ds, _, _, h, r => by
    cases h with
    | tup hs ha =>
      cases r
      obtain ⟨its, rv, ⟨o, ho, hc, n, hd⟩, _⟩ := I.tuple (SqT.of hs)
      obtain ⟨as, hr, hm⟩ := Dq.readsAll I ds _ its ha rv
      exact ⟨_, Reads.tuple ho hc hd hr, hm⟩
  | .dict _, _, _, h, r => by
    cases h with
    | dic kvs hk =>
      cases r
      obtain ⟨_, hd, vs, kv, o, es, ep, h1, h2, h3, _, h4, _⟩ := dk_of I.hok hk
      obtain ⟨q1, q2⟩ := dic_keys (h := s.heap) h4 kv
      have e1 : (kvs.map fun q => (kD q.1, PyData.int q.2)).map (·.1) = kvs.map fun q => kD q.1 := by rw [List.map_map]; rfl
      have e2 : (kvs.map fun q => (kD q.1, PyData.int q.2)).map (·.2) = kvs.map fun q => PyData.int q.2 := by rw [List.map_map]; rfl
      refine ⟨_, Reads.dict h1 h2.1 h3 (by rw [e1]; exact q1) (by rw [e2]; exact q2), fun m => ?_⟩
      rw [List.append_nil] at m
      rw [← List.mem_singleton.mp m, beq_self_eq_true] at hd
      cases hd
theorem Dq.readsAll (I : Inv X pins σ H s) : ∀ (ds : List PyData) (vs : List V) (us : List Value), DqAll X.K H vs ds → Vals vs us → ∃ as, ReadsAll s.heap us ds as ∧ sysModules ∉ as
  | [], _, _, h, r => by
    cases h
    cases r
    exact ⟨_, ReadsAll.nil, List.not_mem_nil⟩
  | d :: ds, _, _, h, r => by
    cases h with
    | cons h1 h2 =>
      cases r with
      | cons r1 r2 =>
        obtain ⟨as, q1, m1⟩ := Dq.reads I d _ _ h1 r1
        obtain ⟨bs, q2, m2⟩ := Dq.readsAll I ds _ _ h2 r2
        refine ⟨_, ReadsAll.cons q1 q2, fun m => ?_⟩
        rcases List.mem_append.mp m with e | e
        · exact m1 e
        · exact m2 e
end
/-- the built-in class of such a value -/
def tyN : PyData → String
  | .none => "NoneType"
  | .bool _ => "bool"
  | .int _ => "int"
  | .str _ => "str"
  | .list _ => "list"
  | .tuple _ => "tuple"
  | .dict _ => "dict"
theorem Dq.ty {K : PySem.W.Frag} {v : V} {d : PyData} (h : Dq K H v d) : TyX K H v (.type (tyN d)) := by
  cases h with
  | non => exact .base .non
  | bl b => exact .base (.bl b)
  | int i => exact .base (.int i)
  | str x => exact .base (.str x)
  | lst e _ _ => exact .base (.lst e)
  | tup e _ => exact .base (.tup e)
  | dic kvs e => exact .base (.dK e)
end
def isT (n m : String) : Bool := m == n || (n == "int" && m == "bool")
def isOf (n : String) (d : PyData) : Bool := isT n (tyN d)
theorem kit_q {K : PySem.W.Frag} {n : String} {d : PyData} (h : n = "int" ∨ n = "bool" ∨ n = "str" ∨ n = "tuple" ∨ n = "list") : PySem.W.kitOne K (.type (tyN d)) (.type n) = some (isOf n d) := by
  refine kit_ty ?_
  unfold isOf
  have m : tyN d = "NoneType" ∨ tyN d = "bool" ∨ tyN d = "int" ∨ tyN d = "str" ∨ tyN d = "list" ∨ tyN d = "tuple" ∨ tyN d = "dict" := by
    cases d <;> simp [tyN]
  generalize tyN d = m' at m
  rcases h with rfl | rfl | rfl | rfl | rfl <;> rcases m with rfl | rfl | rfl | rfl | rfl | rfl | rfl <;> decide +kernel
section
variable {X : Cx}
/-- isinstance(x, T), x of any kind, T built in -/
def rIsQ (K : PySem.W.Frag) : List V → Hp → VK → Prop := fun xs H Q => ∃ (x : V) (d : PyData) (n : String), xs = [x, .ty n] ∧ Dq K H x d ∧ (n = "int" ∨ n = "bool" ∨ n = "str" ∨ n = "tuple" ∨ n = "list") ∧ Q (.bl (isOf n d)) H
theorem call_isQ : CallR X (.builtin "isinstance") (rIsQ X.K) := by
  intro pins s σ H xs us Q I r h
  obtain ⟨x, d, n, rfl, hd, hn, q⟩ := h
  exact call_isi pins s σ H _ us Q I r ⟨x, .ty n, _, _, _, rfl, .ty n, hd.ty, kit_q hn, q⟩
/-- repr of a value of any kind -/
def rReprQ (K : PySem.W.Frag) : List V → Hp → VK → Prop := fun xs H Q => ∃ v d, xs = [v] ∧ Dq K H v d ∧ PyData.showable d = true ∧ d.depth ≤ 60 ∧ d.shown.length ≤ sizeLine ∧ Q (.str d.shown) H
theorem call_reprQ (gu : X.A.guards = some []) (room : ∃ k, Room k X.A) : CallR X (.builtin "repr") (rReprQ X.K) := by
  intro pins s σ H xs us Q I rel want
  obtain ⟨v, d, rfl, data, sh, dep, len, q⟩ := want
  obtain ⟨u, rfl, ru⟩ := vals1 rel
  obtain ⟨as, reads, ns⟩ := Dq.reads I d _ u data ru
  obtain ⟨k, room⟩ := room
  have un := room.un
  have done : ∀ h' (v : Value) tk, (∀ b o, s.heap.get? b = some o → h'.get? b = some o) → (∃ t, v = Value.str d.shown t) → ∃ y H2, Inv X pins σ H2 { s with heap := h', toks := tk } ∧ RelV y v ∧ Q y H2 := fun h' v tk keep e => ⟨.str d.shown, H, I.kept keep, e, q⟩
  have at_ : ∀ a, u = .ref a → _ := fun a e => repr_of_reads' (A := X.A) (s := s) (prog := X.prog) (w := X.w) (E := X.xe) (Q := fun y s' => ∃ z H2, Inv X pins σ H2 s' ∧ RelV z y ∧ Q z H2) (by rw [← e]; exact reads) sh (fun _ => ns) gu (by omega) (fun _ _ e => e) (fun h' v tk keep => ⟨.str d.shown, H, I.kept keep, ⟨_, rfl⟩, q⟩) len
  cases data with
  | non =>
    cases ru
    exact PySem.P.repr_of_none ⟨.str _, H, I.tok _, ⟨_, rfl⟩, q⟩
  | bl b =>
    cases ru
    refine PySem.P.repr_of_bool ⟨.str _, H, I.tok _, ⟨_, rfl⟩, ?_⟩
    cases b <;> exact q
  | int i =>
    obtain ⟨t, rfl⟩ := ru
    exact PySem.P.repr_of_int (of_decide_eq_true (by simpa [PyData.showable] using sh)) ⟨.str _, H, I.tok _, ⟨_, rfl⟩, q⟩
  | str x =>
    obtain ⟨t, rfl⟩ := ru
    exact PySem.P.repr_of_str ⟨.str _, H, I.tok _, ⟨_, rfl⟩, q⟩ len
  | lst e1 e2 e3 =>
    cases ru
    exact at_ _ rfl
  | tup e1 e2 =>
    cases ru
    exact at_ _ rfl
  | dic kvs e1 =>
    cases ru
    exact at_ _ rfl
/-- a list is made: it is not sys.modules -/
def tLstN (t : TA) : TE := fun σ H Q => t σ H fun xs H1 => xs.length ≤ sizeLine ∧ ∀ p, H1 p = none → (p == sysModules) = false → Q (.ref p) (upd H1 p (.lst xs))
theorem pe_lstN {es : List Expr} {pos : Pos} {t : TA} (h : PA X es t) : PE X (.List es pos) (tLstN t) := by
  refine ⟨fun pins s σ H Q I hq => ?_⟩
  refine wpAny_List_spliced (thn (h.run pos pins s σ H _ I hq) fun us s1 ⟨xs, H1, I1, r, z, q⟩ => ⟨by rw [← r.length]; exact z, ?_⟩)
  have hf : H1 s1.heap.objs.size = none := I1.hok.fresh (Nat.le_refl _)
  have hs : (s1.heap.objs.size == sysModules) = false := beq_eq_false_iff_ne.mpr (Ne.symm (Nat.ne_of_lt I1.big))
  refine ⟨.ref s1.heap.objs.size, upd H1 s1.heap.objs.size (.lst xs), I1.laid (t' := s1.toks) (fun b u e => Heap.get?_push_of_some _ e) (Nat.le_refl _) ?_, rfl, q _ hf hs⟩
  exact ⟨z, us, 0, r, Heap.get?_push_size _ rfl⟩
/-- list(t) of a tuple -/
theorem call_listN : CallR X (.type "list") (fun xs H Q => ∃ p ys, xs = [.ref p] ∧ H p = some (.tup ys) ∧ ∀ l, H l = none → (l == sysModules) = false → Q (.ref l) (upd H l (.lst ys))) := by
  intro pins s σ H xs us Q I r h
  obtain ⟨p, ys, rfl, hq, q⟩ := h
  have hs : (s.heap.objs.size == sysModules) = false := beq_eq_false_iff_ne.mpr (Ne.symm (Nat.ne_of_lt I.big))
  obtain ⟨u, rfl, rx⟩ := vals1 r
  cases rx
  obtain ⟨its, r', pl, hz⟩ := I.tuple (SqT.of hq)
  have hlen := r'.length
  obtain ⟨o, ho, hc, n, hd⟩ := pl
  exact call_list_seq p (.inr rfl) ho hc hd (fun h' c' kp e => ⟨.ref s.heap.objs.size, _, I.laid (t' := s.toks) kp (Nat.le_refl _) (show ObjOk X.prog X.w _ h' _ (.lst ys) from ⟨hz, its, c', r', e⟩), rfl, q _ (I.hok.fresh (Nat.le_refl _)) hs⟩) (by simp only [List.size_toArray] <;> omega)
end
end Sm

set_option Elab.async false
set_option linter.all false
set_option maxRecDepth 100000
set_option maxHeartbeats 4000000
namespace Sm
open PySem PySem.Spec PyProof.Rows L2
/-! ### a tuple taken once, or no times -/
theorem tuple_once (l : Addr) (items : Array Value) (n : Nat) (dd : Option Addr) (sl : Array (Option Value)) (u : Tok) :
    Meets (Builtin.«tuple.__mul__» ⟨[.ref l, .int 1 u], []⟩) (fun _ R s => s.heap.get? l = some { cls := .type "tuple", dict := dd, data := .seq items n, slots := sl } ∧ R (.ok (.ret (Value.ref l))) s) :=
  .of_wp fun prog w A R s h => by
    obtain ⟨hp, g, d, tk, os⟩ := s
    obtain ⟨hl, h⟩ := h
    have f1 := AutoSeq1.idx_int
    have c0 : (decide ((1 : Int) < -(2 ^ 63)) || decide ((1 : Int) ≥ 2 ^ 63)) = false := by decide
    wp_walk using wpAny_loadPart' hl
    exact ⟨_, rfl, h⟩
theorem tuple_zero (l : Addr) (items : Array Value) (n : Nat) (dd : Option Addr) (sl : Array (Option Value)) (u : Tok) (hi : items.isEmpty = false) :
    Meets (Builtin.«tuple.__mul__» ⟨[.ref l, .int 0 u], []⟩) (fun _ R s => s.heap.get? l = some { cls := .type "tuple", dict := dd, data := .seq items n, slots := sl } ∧ R (.ok (.ret (Value.ref s.heap.objs.size))) { s with heap := s.heap.push { cls := Value.type "tuple", data := Data.seq #[] } }) :=
  .of_wp fun prog w A R s h => by
    obtain ⟨hp, g, d, tk, os⟩ := s
    obtain ⟨hl, h⟩ := h
    have f1 := AutoSeq1.idx_int
    wp_walk using wpAny_loadPart' hl
    exact ⟨_, rfl, h⟩
section
variable {X : Cx}
/-- tuple * int, the int from 0 on -/
theorem op_rep0 : OpR X (binaryOp .Mult) (fun x y H Q => ∃ (l : Addr) (k : Int) (xs : List V), x = .ref l ∧ y = .int k ∧ H l = some (.tup xs) ∧ xs ≠ [] ∧ 0 ≤ k ∧ k ≤ 1000 ∧ xs.length ≤ 1000 ∧
    ∀ H' q, Same H H' → H' q = some (.tup (List.replicate k.toNat xs).flatten) → Q (.ref q) H') := by
  intro pins s σ H x y v u Q I rx ry want
  obtain ⟨l, k, xs, rfl, rfl, hT, hne, h0, h1, hz, q⟩ := want
  by_cases big : 2 ≤ k
  · exact op_repT pins s σ H _ _ v u Q I rx ry ⟨l, k, xs, rfl, rfl, SqT.of hT, hne, big, h1, hz, fun p np => q _ p (fun b o e => by rw [upd_ne (ne_of_none e np)]; exact e) upd_same⟩
  cases rx
  obtain ⟨t, rfl⟩ := ry
  obtain ⟨its, r, ⟨⟨cls, dd, data, sl⟩, ho, hc, n, hd⟩, hs⟩ := I.tuple (SqT.of hT)
  simp only at hc hd
  subst hc hd
  have hi : its.toArray.isEmpty = false := by
    cases its with
    | nil =>
      have := r.length
      exact absurd (List.eq_nil_of_length_eq_zero this) hne
    | cons a b => rfl
  by_cases one : k = 1
  · subst one
    refine wpAny_binaryOp_repeat_ref (T := "tuple") (U := "int") (by decide) ⟨_, ho, rfl⟩ (fun s' => typeIs_int s' 1 t) noFill_tuple_mul F.fills_int_mul F.slot_int_rmul repeat_tuple F.slot_int_index.lookup
      (call_meets F.slot_int_rmul (typeIs_int s 1 t) F.entry_int_rmul (F.args_int_rmul_2 _ _) (int_rmul_tuple 1 t l its.toArray n dd sl) ⟨ho, rfl, ⟨_, ho, rfl⟩, ?_⟩)
    refine call_meets F.slot_tuple_mul ⟨_, ho, rfl⟩ F.entry_tuple_mul (F.args_tuple_mul_2 _ _) (tuple_once l its.toArray n dd sl t) ⟨ho, ?_⟩
    refine ⟨.ref l, H, I, rfl, q H l (Same.refl H) ?_⟩
    rw [hT]
    simp
  · have zero : k = 0 := by omega
    subst zero
    refine wpAny_binaryOp_repeat_ref (T := "tuple") (U := "int") (by decide) ⟨_, ho, rfl⟩ (fun s' => typeIs_int s' 0 t) noFill_tuple_mul F.fills_int_mul F.slot_int_rmul repeat_tuple F.slot_int_index.lookup
      (call_meets F.slot_int_rmul (typeIs_int s 0 t) F.entry_int_rmul (F.args_int_rmul_2 _ _) (int_rmul_tuple 0 t l its.toArray n dd sl) ⟨ho, rfl, ⟨_, ho, rfl⟩, ?_⟩)
    refine call_meets F.slot_tuple_mul ⟨_, ho, rfl⟩ F.entry_tuple_mul (F.args_tuple_mul_2 _ _) (tuple_zero l its.toArray n dd sl t hi) ⟨ho, ?_⟩
    have fresh := I.hok.fresh (Nat.le_refl s.heap.objs.size)
    refine ⟨.ref s.heap.objs.size, upd H s.heap.objs.size (.tup []), I.laid (t' := s.toks) (fun b ob e => Heap.get?_push_of_some _ e) (Nat.le_refl _) ?_, rfl, q _ _ (fun b o e => by rw [upd_ne (ne_of_none e fresh)]; exact e) upd_same⟩
    exact ⟨Nat.zero_le _, [], .nil, IsTup.new _ _⟩
end
end Sm

set_option Elab.async false
set_option linter.all false
set_option maxRecDepth 100000
set_option maxHeartbeats 4000000
namespace Sm
open PySem PySem.Spec PyProof.Rows L2
/-- isinstance of the exception that the suite holds, with its dict: one class, or a tuple of classes just laid -/
def rIsX (K : PySem.W.Frag) (cls : Value) (d : Option Addr) (a : Addr) : List V → Hp → VK → Prop := fun xs H Q => ∃ (D dd : Addr) (fs : List (Str × V)), cls = .ref D ∧ d = some dd ∧ H dd = some (.xd fs) ∧ ExcC K D ∧
  ((∃ (c : V) (cv : Value) (b : Bool), xs = [.ref a, c] ∧ ClsV c cv ∧ PySem.W.kitOne K (.ref D) cv = some b ∧ Q (.bl b) H) ∨
   ∃ (tp : Addr) (cs : List V) (us : List Value) (b : Bool), xs = [.ref a, .ref tp] ∧ H tp = some (.tup cs) ∧ Paired ClsV cs us ∧ PySem.W.kitAny K (.ref D) us = some b ∧ Q (.bl b) H)
theorem call_isX {X : Cx} {a : Addr} {cls : Value} {d : Option Addr} {oe : Obj} {pn : List (Addr × Obj)} (hz : Zc cls d oe) (hf : ∃ vs, oe.data = .fields vs) : CallR (X.suite a ((a, oe) :: pn)) (.builtin "isinstance") (rIsX X.K cls d a) := by
  intro pins s σ H xs us Q I r h
  obtain ⟨D, dd, fs, rfl, rfl, ea, C, h⟩ := h
  obtain ⟨ha, _⟩ := I.pin (a, oe) (List.mem_append_left _ List.mem_cons_self)
  obtain ⟨vs, hd⟩ := hf
  have hx : ObjOk X.prog X.w H s.heap dd (.xd fs) := I.hok dd _ ea
  obtain ⟨mA, hns, hr⟩ := hx
  obtain ⟨od, ho, hl⟩ := lookIn_ns hns
  have J : PySem.W.InstAt s.heap a oe D (some od) := ⟨ha, hz.1, by unfold PySem.W.notCls; rw [hd] <;> rfl, by rw [hz.2]; exact ho⟩
  obtain ⟨cd, hc, _⟩ := PySem.W.any_some C.hd
  have Z := PySem.W.kitx_exc (x := a) (ox := oe) (od := some od) (by rw [hc]; rfl) C.hg C.hk C.hs C.ha C.hn C.ht C.hm
  rcases h with ⟨c, cv, b, rfl, k, e, q⟩ | ⟨tp, cs, ws, b, rfl, hT, k, e, q⟩
  · obtain ⟨u1, u2, rfl, r1, r2⟩ := vals2 r
    cases (show u1 = Value.ref a from r1)
    cases k.eq r2
    exact PySem.W.kia_one Z I.kIn J e (fun z => nomatch z) fun tk => ⟨.bl b, H, I.kept (t' := tk) fun _ _ z => z, rfl, q⟩
  · obtain ⟨u1, u2, rfl, r1, r2⟩ := vals2 r
    cases (show u1 = Value.ref a from r1)
    cases (show u2 = Value.ref tp from r2)
    obtain ⟨_, its, rv, o, h1, h2, n, h3⟩ := (show ObjOk X.prog X.w H s.heap tp (.tup cs) from I.hok tp _ hT)
    have e3 := ClsV.all k rv
    subst e3
    obtain ⟨oc, od', dt, sl⟩ := o
    simp only at h2 h3
    subst h2 h3
    exact PySem.W.kia_tup Z I.kIn J h1 e (fun z => nomatch z) fun tk => ⟨.bl b, H, I.kept (t' := tk) fun _ _ z => z, rfl, q⟩
theorem kit_own {K : PySem.W.Frag} {D C : Addr} {b : Bool} (h1 : PySem.W.isClsIn K C = true) (h2 : PySem.W.typeIn K (.ref C) = some (.type "type")) (h3 : PySem.W.subIn K (.ref D) (.ref C) = some b) (h4 : PySem.W.subIn K (.ref D) (.ref D) = some true) : PySem.W.kitOne K (.ref D) (.ref C) = some b := by
  unfold PySem.W.kitOne
  by_cases e : D = C
  · subst e
    rw [h4] at h3
    rw [if_pos (beq_self_eq_true _)]
    exact h3
  · rw [if_neg (fun q => e (Value.ref.inj (beq_iff_eq.mp q)))]
    have h1' : (PySem.W.clsIn K C).isSome = true := h1
    have z : ((PySem.W.clsIn K C).isSome && PySem.W.typeIn K (.ref C) == some (.type "type")) = true := by rw [h1', h2] <;> rfl
    show (if ((PySem.W.clsIn K C).isSome && PySem.W.typeIn K (.ref C) == some (.type "type")) = true then PySem.W.subIn K (.ref D) (.ref C) else none) = some b
    rw [if_pos z]
    exact h3
theorem kit_valerr {K : PySem.W.Frag} {D : Addr} {b : Bool} (h : PySem.W.subIn K (.ref D) (.type "ValueError") = some b) : PySem.W.kitOne K (.ref D) (.type "ValueError") = some b := by
  have q : ((Value.ref D) == (Value.type "ValueError")) = false := beq_eq_false_iff_ne.mpr fun z => nomatch z
  unfold PySem.W.kitOne
  rw [if_neg (by rw [q]; exact Bool.false_ne_true)]
  show (if PySem.W.kitMeta "ValueError" = true then PySem.W.subIn K (.ref D) (.type "ValueError") else none) = some b
  rw [if_pos (by decide +kernel)]
  exact h
theorem kit_cons_false {K : PySem.W.Frag} {t c : Value} {cs : List Value} {b : Bool} (h : PySem.W.kitOne K t c = some false) (hr : PySem.W.kitAny K t cs = some b) : PySem.W.kitAny K t (c :: cs) = some b := by
  unfold PySem.W.kitAny
  rw [h]
  exact hr
/-- an own exception class with one field, made by its own __init__ -/
structure XcTxt (K : PySem.W.Frag) (mg : Str → Option Value) (nm fl : Str) (C fI : Addr) : Prop where
  g : mg nm = some (.ref C)
  oex : OexC K C
  no : PySem.W.findIn K (.ref C) fl = some none
  iC : PySem.W.findIn K (.ref C) "__init__" = some (some (.ref fI))
  tI : PySem.W.typeIn K (.ref fI) = some (.type "function")
  xf : XfC K C
  ec : ExcC K C
/-- C(e), told plainly: the new exception's dict holds the field -/
def tMkF (C : Addr) (fl : Str) (ta : TA) : L2.St → Hp → XK → Prop := fun σ H Q => ta σ H fun vs H1 => ∃ v, vs = [v] ∧ ∀ d, H1 d = none → Q (.ref C) (some d) (upd H1 d (.xd [(fl, v)]))
def sp_init (K : PySem.W.Frag) (fl : Str) : Sp := fun vs H Q _ => ∃ (a C : Addr) (v : V), vs = [.ref a, v] ∧ OexC K C ∧ PySem.W.findIn K (.ref C) fl = some none ∧ H a = some (exo a C none) ∧ ∀ dx, H dx = none → dx ≠ a → Q .non (upd (upd H dx (exd dx [(fl, v)])) a (exo a C (some dx)))
theorem xc_mk {C : Addr} {fl : Str} {K : PySem.W.Frag} {ta : TA} {σ : L2.St} {H : Hp} {Q : XK} (T : OexC K C) (no : PySem.W.findIn K (.ref C) fl = some none)
    (h : ta σ H fun vs H1 => ∃ v, vs = [v] ∧ ∀ d H2, Same H1 H2 → H2 d = some (.xd [(fl, v)]) → Q (.ref C) (some d) H2) (mono : ∀ {A B : List V → Hp → Prop}, (∀ vs H1, A vs H1 → B vs H1) → ta σ H A → ta σ H B) : tMkO C (sp_init K fl) [] ta σ H Q := by
  refine mono ?_ h
  rintro vs H1 ⟨v, rfl, k⟩
  refine ⟨by show 1 ≤ 1000; decide, fun a na => ⟨a, C, v, rfl, T, no, upd_same, fun dx nd da => ⟨rfl, dx, [(fl, v)], upd_same, ?_, ?_, ?_⟩⟩⟩
  · rw [upd_ne da, upd_same]
  · rw [upd_ne da] at nd
    exact nd
  · have nd1 : H1 dx = none := by
      rw [upd_ne da] at nd
      exact nd
    refine k dx _ (fun b o hb => ?_) upd_same
    rw [upd_ne (ne_of_none hb nd1), del_ne (ne_of_none hb na), upd_ne (ne_of_none hb na), upd_ne (ne_of_none hb nd1), upd_ne (ne_of_none hb na)]
    exact hb
end Sm

set_option Elab.async false
set_option linter.all false
set_option maxRecDepth 100000
set_option maxHeartbeats 4000000
namespace Sm
open PySem PySem.Spec PyProof.Rows L2 LamX
/-- told: try: return a() / except e as n: a suite that is told by ts -/
def TAs (K : PySem.W.Frag) (CS : Addr) (Ng : List Str) (i : Nat) (ts : Addr → Value → Option Addr → TS) : (XK → Hp → VK → Prop) → Hp → VK → Prop := fun tl H Q =>
  tl (fun cls d H' => ∃ b, PySem.W.exmOne K cls (.ref CS) = some b ∧ (b = true → ∀ (σ : L2.St) (c : Addr), σ.length = Ng.length → H' c = none → ts c cls d { nx := fun _ H2 => Q .non H2, rt := Q } (σ.set i (some (.ref c))) H') ∧ (b = false → False)) H Q
theorem set_read {σ : L2.St} {N : List Str} {n : Str} {i : Nat} {v : V} (h : σ.length = N.length) (hi : N[i]? = some n) : (σ.set i (some v))[i]? = some (some v) := by
  have := (List.getElem?_eq_some_iff.mp hi).1
  rw [List.getElem?_set_self (by omega)]
/-- where an exception is taken, all slots are there -/
theorem takes_len {X : Cx} {W : WX} (t : Takes X W) : Takes X (fun cls d σ H => σ.length = X.N.length → W cls d σ H) := fun u s' z => by
  obtain ⟨a, B, sI, pins, σ, H, cls, d, e, I, nb, up, sky, na, os, ag, w⟩ := z
  exact t u s' ⟨a, B, sI, pins, σ, H, cls, d, e, I, nb, up, sky, na, os, ag, w I.len⟩
section
variable {X : Cx} {Ng : List Str} {x a e n q : Str} {sg : Scope} {g CS : Addr} {cdg : Value} {i : Nat} {b₀ : Stmt} {suite : List Stmt} {p1 p2 p3 p4 p5 p6 : Pos} {ts : Addr → Value → Option Addr → TS}
/-- the def that calls what it got and holds the exception in a suite of its own -/
theorem as_gives (hge : sg.names.lookup e = some .globalImplicit) (hme : X.mg e = some (.ref CS)) (hde : (e == ("__debug__" : Str)) = false) (h0 : ∀ f : Addr, (L2.start Ng [V.ref f])[0]? = some (some (V.ref f))) (nd : Ng.Nodup) (hi : Ng[i]? = some n)
    (hln : ∀ (s : Shared) (H : Hp), (cxOf C8.CX0 X.prog X.w X.K X.mg X.base Ng x sg g cdg X.A X.stack s H C8.E0).nox.env.kindOf n = some .local)
    (hsu : ∀ (s : Shared) (H : Hp) (c : Addr) (oe : Obj) (cls : Value) (d : Option Addr) (pn : List (Addr × Obj)), Zc cls d oe → (∃ vs, oe.data = .fields vs) → PSs ((cxOf C8.CX0 X.prog X.w X.K X.mg X.base Ng x sg g cdg X.A X.stack s H C8.E0).nox.suite c ((c, oe) :: pn)) (b₀ :: suite) (ts c cls d)) :
    GivesTo X Ng x sg g cdg [.Try [.Return (some (.Call (.Name a p1) [] [] p2)) p3] [.ExceptHandler (some (.Name e p4)) (some n) (b₀ :: suite) p5] [] [] p6] a q (TAs X.K CS Ng i ts) := by
  intro f c' s H Q tl act known told
  let Z := (cxOf C8.CX0 X.prog X.w X.K X.mg X.base Ng x sg g cdg X.A X.stack s H C8.E0).nox
  have glob : Gl Z e := hge
  let body : WX → TS := fun W D σ H1 => ∃ out : XK, (∀ cls d (σ' : L2.St) H', out cls d H' → σ'.length = Ng.length → W cls d σ' H') ∧ σ[0]? = some (some (.ref f)) ∧ H1 c' = some (CodeO c' q) ∧ tl out H1 D.rt
  have inner : ∀ (W : WX) (pn : List (Addr × Obj)) (xe : Value → Shared → Prop), Takes (Z.tr pn xe) W → PassesOwn (model Z.prog Z.w) Z.A Z.env xe → PSs (Z.tr pn xe) [.Return (some (.Call (.Name a p1) [] [] p2)) p3] (body W) := by
    intro W pn xe tk _
    refine ⟨fun pins s' σ H' D I told' => ?_⟩
    obtain ⟨out, hW, h1, h2, h3⟩ := told'
    exact (pss_one (ps_ret (pos := p3) (act _ pn xe out p1 p2 (takes_len tk) hW))).run pins s' σ H' D I ⟨h1, h2, h3⟩
  refine ⟨_, pss_one (ps_try_as (X := Z) (c := .ref CS) (i := i) (tb := body) (ts := ts) (Wout := fun _ _ _ _ => False) rfl rfl nd hi (hln s H) ⟨glob, hde, .inl hme⟩ L2.takes0 inner (fun c oe cls d pn hz hf => hsu s H c oe cls d pn hz hf)), ?_⟩
  exact ⟨_, fun cls d σ' H' w len => by
    obtain ⟨b, e1, e2, e3⟩ := w
    exact ⟨b, e1, fun hb c nc => e2 hb σ' c len nc, fun hb => e3 hb⟩, h0 f, known, told⟩
end
end Sm

set_option Elab.async false
set_option linter.all false
set_option maxRecDepth 100000
set_option maxHeartbeats 4000000
namespace Sm
open PySem PySem.Spec PyProof.Rows L2 LamX
/-! ### the law's own call where the law makes lambdas: its table of code objects is tracked too -/
theorem law_atT {P : Program} {w : World} {K : PySem.W.Frag} {mg mb : Str → Option Value} {k : Nat} {fa a c Pt : Addr} {fd : FuncData} {x : Str} {sp : Sp} {s₁ : Shared} {vs : List Value} {ns : List Int}
    (inK : K.In s₁.heap) (names : s₁.heap.Ns mainGlobals mg) (bnames : s₁.heap.Ns builtinsNs mb) (boots : ∀ x : Str, x ≠ "__name__" → mb x = bootBuiltins x) (unlim : s₁.heap.NoLimit) (nogen : s₁.gens = #[])
    (empty : s₁.heap.get? Pt = some (PySem.W.tabObj #[])) (loose : K.lookup Pt = none) (head : PySem.W.codeHdIn K c Pt = true)
    (mods : ∃ (bm : Addr) (ob : Obj), mg "__builtins__" = some (.ref bm) ∧ bm ≠ builtinsNs ∧ s₁.heap.get? bm = some ob ∧ ob.cls = .type "module" ∧ ob.dict = some builtinsNs ∧ ob.data = .plain)
    (script : s₁.heap.get? a = some { cls := .type "list", data := .seq vs.toArray }) (whole : IntsAre vs ns) (few : ns.length ≤ sizeLine) (room : Room k callerA)
    (each : ∀ base : Heap, K.In base → base.Ns mainGlobals mg → TabB base mg c Pt → FnG P w K mg base k fa fd [x] sp) (binds : ∀ (s : Shared) (u : Value), BindsTo s fd ⟨[u], []⟩ [(x, u)])
    (asked : ∀ H : Hp, H Pt = some (.tbl #[]) → SqL K H a (ns.map V.int) → sp [.ref a] H (fun v _ => v = .bl true) E0) :
    codeAny (model P w) callerA (.call (.ref fa) ⟨[.ref a], []⟩) (fun r s' => r = .ok (.ret (.bool true)) ∧ OldK s₁.heap s'.heap ∧ s'.os = s₁.os ∧ AllBare s'.gens) s₁ := by
  have ivs := vals_ints whole
  have apart : a ≠ Pt := fun e => by
    rw [e, empty] at script
    have z : Data.fields #[] = Data.seq vs.toArray _ := congrArg Obj.data (Option.some.inj script)
    cases z
  -- what is tracked: the table, and the script if the module does not hold it itself
  obtain ⟨H, table, seq, ok, only, free⟩ : ∃ H : Hp, H Pt = some (.tbl #[]) ∧ SqL K H a (ns.map V.int) ∧ HOk P w H s₁.heap ∧ (∀ b u, H b = some u → (b = a ∧ u = .frz { cls := .type "list", data := .seq vs.toArray } (.lst (ns.map V.int))) ∨ (b = Pt ∧ u = .tbl #[])) ∧ ∀ b u, H b = some u → K.lookup b = none := by
    cases look : K.lookup a with
    | some o =>
      have same := inK a o look
      rw [script] at same
      injection same with same
      subst same
      have one : ∀ b u, (fun b => if b = Pt then some (HO.tbl #[]) else none : Hp) b = some u → b = Pt ∧ u = .tbl #[] := by
        intro b u z
        by_cases e : b = Pt
        · exact ⟨e, (Option.some.inj ((if_pos e).symm.trans z)).symm⟩
        · exact nomatch (if_neg e).symm.trans z
      refine ⟨fun b => if b = Pt then some (.tbl #[]) else none, if_pos rfl, .inr ⟨_, vs.toArray, _, look, rfl, rfl, rfl, ?_, ?_⟩, fun b u z => ?_, fun b u z => .inr (one b u z), fun b u z => ?_⟩
      · rw [List.size_toArray, whole.length]
        exact few
      · simpa using ivs
      · obtain ⟨rfl, rfl⟩ := one b u z
        exact empty
      · rw [(one b u z).1]
        exact loose
    | none =>
      have two : ∀ b u, (fun b => if b = a then some (HO.frz { cls := .type "list", data := .seq vs.toArray } (.lst (ns.map V.int))) else if b = Pt then some (HO.tbl #[]) else none : Hp) b = some u → (b = a ∧ u = .frz { cls := .type "list", data := .seq vs.toArray } (.lst (ns.map V.int))) ∨ (b = Pt ∧ u = .tbl #[]) := by
        intro b u z
        by_cases e : b = a
        · exact .inl ⟨e, (Option.some.inj ((if_pos e).symm.trans z)).symm⟩
        · have z := (if_neg e).symm.trans z
          by_cases e2 : b = Pt
          · exact .inr ⟨e2, (Option.some.inj ((if_pos e2).symm.trans z)).symm⟩
          · exact nomatch (if_neg e2).symm.trans z
      refine ⟨_, (if_neg apart.symm).trans (if_pos rfl), .inl (.inr ⟨_, if_pos rfl⟩), fun b u z => ?_, two, fun b u z => ?_⟩
      · rcases two b u z with ⟨rfl, rfl⟩ | ⟨rfl, rfl⟩
        · exact ⟨script, by rw [List.length_map]; exact few, vs, _, ivs, script⟩
        · exact empty
      · rcases two b u z with ⟨rfl, _⟩ | ⟨rfl, _⟩
        · exact look
        · exact loose
  have stays : ∀ {b : Addr} {o : Obj}, s₁.heap.get? b = some o → (∀ u, H b ≠ some u) → (hidT s₁.heap H).get? b = some o := fun {b o} e no => hidT_get e (by
    cases z : H b with
    | none => rfl
    | some u => exact (no u z).elim)
  have plainly : ∀ {b : Addr} {o : Obj}, s₁.heap.get? b = some o → (∀ v n, o.data ≠ .seq v n) → (∀ v, o.data ≠ .fields v) → (hidT s₁.heap H).get? b = some o := fun {b o} e n1 n2 => stays e fun u z => by
    rcases only b u z with ⟨rfl, _⟩ | ⟨rfl, _⟩
    · rw [script] at e
      injection e with e
      subst e
      exact n1 _ _ rfl
    · rw [empty] at e
      injection e with e
      subst e
      exact n2 _ rfl
  have spaces : ∀ {b : Addr} {m : Str → Option Value}, s₁.heap.Ns b m → (hidT s₁.heap H).Ns b m := by
    rintro b m ⟨o, es, ep, there, data, rest⟩
    refine ⟨o, es, ep, plainly there (fun v n z => ?_) (fun v z => ?_), data, rest⟩
    · rw [data] at z
      exact nomatch z
    · rw [data] at z
      exact nomatch z
  have inn : K.In (hidT s₁.heap H) := fun b o e => stays (inK b o e) fun u z => by
    rw [free b u z] at e
    exact nomatch e
  have mod : Mod K mg (hidT s₁.heap H) := by
    obtain ⟨mc, c1, c2⟩ := unlim
    exact ⟨inn, spaces names, ⟨mb, spaces bnames, boots⟩, mc, spaces c1, c2⟩
  have tb : TabB (hidT s₁.heap H) mg c Pt := by
    refine ⟨PySem.W.codeHd_of_K inn head, ?_, fun z => ?_⟩
    · obtain ⟨bm, ob, m1, m2, m3, m4, m5, m6⟩ := mods
      refine ⟨bm, ob, m1, m2, fun z => ?_, fun z => ?_, plainly m3 (fun v n z => ?_) (fun v z => ?_), m4, m5, m6⟩
      · obtain ⟨o, es, ep, there, data, _⟩ := names
        rw [z, there] at m3
        injection m3 with m3
        subst m3
        rw [data] at m6
        exact nomatch m6
      · rw [z, empty] at m3
        injection m3 with m3
        subst m3
        exact nomatch m6
      · rw [m6] at z
        exact nomatch z
      · rw [m6] at z
        exact nomatch z
    · obtain ⟨o, es, ep, there, data, _⟩ := names
      rw [z, empty] at there
      injection there with there
      subst there
      exact nomatch data
  have e0 : Env0 P w K mg (hidT s₁.heap H) callerA [] s₁ H := by
    refine ⟨rfl, mod, fun b o e => of_hidT e, Nat.le_of_eq (hidT_size _ _), trivial, ?_, ok, .of_eq nogen⟩
    intro b q
    exact absurd q (List.not_mem_nil (a := b))
  refine codeAny_mono ((each _ inn (spaces names) tb).run callerA [] s₁ H ⟨[.ref a], []⟩ [.ref a] [.ref a] _ _ rfl room e0 (binds s₁ (.ref a)) (.cons rfl .nil) (asked H table seq)) ?_
  rintro (e | out) s' got
  · exact got.elim
  · match out, got with
    | .next, got => exact got.elim
    | .brk, got => exact got.elim
    | .cont, got => exact got.elim
    | .ret u, ⟨v, H', os, bare, un, ok', rel, q⟩ =>
      have q : v = V.bl true := q
      subst q
      have rel : u = Value.bool true := rel
      subst rel
      have kept : ∀ b o, b ≠ Pt → s₁.heap.get? b = some o → s'.heap.get? b = some o := fun b o other e => by
        cases z : H b with
        | none => exact un.keep b o e z (List.not_mem_nil (a := b)) (List.not_mem_nil (a := b))
        | some u =>
          rcases only b u z with ⟨rfl, rfl⟩ | ⟨rfl, rfl⟩
          · have now := (ok' _ _ (un.frzs _ _ _ z)).1
            rw [script] at e
            injection e with e
            rw [← e]
            exact now
          · exact (other rfl).elim
      obtain ⟨more, grown⟩ := un.tbls Pt #[] table
      have grown := ok' Pt _ grown
      refine ⟨rfl, ⟨fun b o e => ?_, fun b o e => ?_⟩, os, bare⟩
      · by_cases eb : b = Pt
        · subst eb
          rw [empty] at e
          injection e with e
          subst e
          exact .inr (.inl ⟨((PySem.W.codeHd_of_K inK head).tab empty).isCodeTable, rfl, #[], _, rfl, by rw [Array.empty_append]; exact grown⟩)
        · exact .inl (kept b o eb e)
      · by_cases eb : b = Pt
        · subst eb
          exact ⟨_, grown⟩
        · exact ⟨o, kept b o eb e⟩
/-- at the end of a law that makes lambdas of its own -/
theorem walk_at_lawT {l : PySem.W.OpenLaw} {k : Nat} {q : Program} {loose : List Str} {XP : (Str → Option Value) → Heap → Prop} {YP : World → Heap → Prop} {d : DefRec} {K : Params → PySem.W.Frag} {sp : PySem.W.Frag → Addr → Sp} {x : Str}
    (hn : l.most = some 63) (hdf : d.params.defaults = []) (listed : ((recsOf q).any fun e => e.name == d.name) = true) (hr : Room k callerA) (hY : ∀ (w : World) (h : Heap), YP w h → (K w.params).In h)
    (F : ∀ (w : World) (mg : Str → Option Value) (fa : Addr) (h : Heap), (K w.params).In h → h.Ns mainGlobals mg → mg d.name = some (.ref fa) → OwnTab (K w.params) fa h →
      ∃ (fd : FuncData) (c Pt : Addr), h.get? Pt = some (PySem.W.tabObj #[]) ∧ (K w.params).lookup Pt = none ∧ PySem.W.codeHdIn (K w.params) c Pt = true ∧ (∀ (s : Shared) (u : Value), BindsTo s fd ⟨[u], []⟩ [(x, u)]) ∧
        ∀ base : Heap, (K w.params).In base → base.Ns mainGlobals mg → TabB base mg c Pt → FnG l.prog w (K w.params) mg base k fa fd [x] (sp (K w.params) Pt))
    (asked : ∀ (K : PySem.W.Frag) (Pt : Addr) (H : Hp) (a : Addr) (ns : List Int), ns.length ≤ 63 → H Pt = some (.tbl #[]) → SqL K H a (ns.map V.int) → sp K Pt [.ref a] H (fun v _ => v = .bl true) E0) :
    PySem.W.WalkO q loose XP YP l.row.toRowW d [] (fun f vs => PySem.call f vs) := by
  refine Att.attach_call hn hdf ?_
  intro w s₀ s₁ mg mb fa o pm cd doc a vs ns G Y ho hd hcd hmg hobj hints hlen hg
  have inn := hY w _ Y
  have mine : OwnTab (K w.params) fa s₁.heap := by
    intro c Pt o1 fd1 e dd vs1 sl z1 z2 z3 z4 z5
    obtain ⟨r, mem, same⟩ := List.any_eq_true.mp listed
    obtain ⟨a2, o2, fd2, c2, P2, y1, y2, y3, y4, _, ⟨oc, vc, x1, _, x3, x4⟩, there⟩ := G.T.tab r mem
    rw [beq_iff_eq.mp same, hmg] at y1
    obtain rfl : fa = a2 := by
      injection y1 with y1
      injection y1
    have f1 := inn _ _ z1
    rw [y2] at f1
    injection f1 with f1
    subst f1
    rw [z2] at y3
    injection y3 with y3
    subst y3
    rw [z3] at y4
    injection y4 with y4
    subst y4
    have f2 := inn _ _ z4
    rw [x1] at f2
    injection f2 with f2
    subst f2
    injection x3 with x3
    subst x3
    rw [z5] at x4
    injection x4 with x4
    injection x4 with x4
    subst x4
    exact there
  obtain ⟨fd, c, Pt, t1, t2, t3, bind, each⟩ := F w mg fa _ inn G.T.g hmg mine
  exact law_atT inn G.T.g G.T.b G.T.builtins G.T.nolimit hg t1 t2 t3 G.T.bmain hobj hints (Nat.le_trans hlen (by decide)) hr each bind fun H tb sq => asked (K w.params) Pt H a ns hlen tb sq
/-- the law's own def, its code object known -/
theorem FnG.bodyC {P : Program} {w : World} {K : PySem.W.Frag} {mg : Str → Option Value} {base : Heap} {k : Nat} {f c : Addr} {fd : FuncData} {ps : List Str} {sp : Sp} {x : Str} {st : Stmt} {N : List Str} (F : Fun K x x st f fd) (code : fd.code = .ref c) (S : FnScope N ps (defScope st)) (len : ∀ vs H Q E, sp vs H Q E → vs.length = ps.length)
    (hb : ∀ (A : Around) (outer : List Env) (s : Shared) (H : Hp) (vs : List V) (Q : VK) (E : XK), A.guards = some [] → Room k (A.deeper (envOfC x (defScope st) s.heap.objs.size f (.ref c))) → sp vs H Q E →
      ∃ t, PSs (cxOf CX0 P w K mg base N x (defScope st) f (.ref c) A outer s H E).nox (defBody st) t ∧ t { nx := fun _ H' => Q .non H', rt := Q } (L2.start N vs) H) : FnG P w K mg base (k + 1) f fd ps sp := by
  obtain ⟨oc, od, kV, doc, pm, an, cdv, ct, osl, efd, look, coded⟩ := F.ex
  subst efd
  have known : cdv = .ref c := code
  subst known
  constructor
  · exact len
  intro A outer s H args us vs Q E guard room e0 bind rel want
  have inn : K.In s.heap := e0.mod.kin.keeps fun b o e => (e0.bs b o e).1
  have nolim : s.heap.NoLimit := e0.mod.nolimit.keeps fun b o e => (e0.bs b o e).1
  refine codeAny_call_function room.depth (inn _ _ look) rfl S.co S.gen rfl (PySem.W.codeRec_of inn coded) (bind _ _ _ _ ?_)
  refine wpAny_newFunctionEnv_cells S.kind ?_ ?_
  · rintro ⟨n, v⟩ there
    have := S.par n (List.of_mem_zip there).1
    cases this with
    | inl q => exact .inl q
    | inr q => exact .inr ⟨q, PySem.W.cellsFrom_some _ _ _ (.inl q)⟩
  · intro env eenv s1 laid
    subst eenv
    refine ⟨nolim.keeps laid.toInCall.keep, codeAny_func ?_⟩
    obtain ⟨t, der, goal⟩ := hb A outer s H vs Q E guard (room.deeper _) want
    have I := inv_start (CX := CX0) (E := E) S room.hd e0 (len _ _ _ _ want) rel laid
    refine wpAny_mono (der.nox.run [] s1 (L2.start N vs) H _ I goal) (fun out s' got => ?_) fun e s' got => got
    match out, got with
    | .ret u, ⟨v, σ', H', J, rv, q⟩ => exact ⟨v, H', J.os, J.bare, J.base, J.hok, rv, q⟩
    | .next, ⟨σ', H', J, q⟩ => exact ⟨V.non, H', J.os, J.bare, J.base, J.hok, rfl, q⟩
    | .brk, ⟨_, _, _, q⟩ => exact q.elim
    | .cont, ⟨_, _, _, q⟩ => exact q.elim
end Sm

set_option Elab.async false
set_option linter.all false
set_option maxRecDepth 100000
set_option maxHeartbeats 4000000
namespace Sm
open PySem PySem.Spec PyProof.Rows L2 LamX
/-! ### the law's own call where the law makes lambdas: its table of code objects is tracked too -/
theorem law_atTs {P : Program} {w : World} {K : PySem.W.Frag} {mg mb : Str → Option Value} {k : Nat} {fa a : Addr} {ct : List (Addr × Addr)} {TT : List (Addr × Str)} {fd : FuncData} {x : Str} {sp : Sp} {s₁ : Shared} {vs : List Value} {ns : List Int}
    (inK : K.In s₁.heap) (names : s₁.heap.Ns mainGlobals mg) (bnames : s₁.heap.Ns builtinsNs mb) (boots : ∀ x : Str, x ≠ "__name__" → mb x = bootBuiltins x) (unlim : s₁.heap.NoLimit) (nogen : s₁.gens = #[])
    (empty : ∀ t ∈ ct, s₁.heap.get? t.2 = some (PySem.W.tabObj #[])) (loose : ∀ t ∈ ct, K.lookup t.2 = none) (head : ∀ t ∈ ct, PySem.W.codeHdIn K t.1 t.2 = true) (names2 : TT.map (·.1) = ct.map (·.2))
    (mods : ∃ (bm : Addr) (ob : Obj), mg "__builtins__" = some (.ref bm) ∧ bm ≠ builtinsNs ∧ s₁.heap.get? bm = some ob ∧ ob.cls = .type "module" ∧ ob.dict = some builtinsNs ∧ ob.data = .plain)
    (script : s₁.heap.get? a = some { cls := .type "list", data := .seq vs.toArray }) (whole : IntsAre vs ns) (few : ns.length ≤ sizeLine) (room : Room k callerA)
    (each : ∀ base : Heap, K.In base → base.Ns mainGlobals mg → (∀ t ∈ ct, TabB base mg t.1 t.2) → FnG P w K mg base k fa fd [x] sp) (binds : ∀ (s : Shared) (u : Value), BindsTo s fd ⟨[u], []⟩ [(x, u)])
    (asked : ∀ H : Hp, Tabs TT H → SqL K H a (ns.map V.int) → sp [.ref a] H (fun v _ => v = .bl true) E0) :
    codeAny (model P w) callerA (.call (.ref fa) ⟨[.ref a], []⟩) (fun r s' => r = .ok (.ret (.bool true)) ∧ OldK s₁.heap s'.heap ∧ s'.os = s₁.os ∧ AllBare s'.gens) s₁ := by
  have ivs := vals_ints whole
  obtain ⟨Ps, hPs⟩ : ∃ Ps, Ps = ct.map (·.2) := ⟨_, rfl⟩
  have emptyP : ∀ b ∈ Ps, s₁.heap.get? b = some (PySem.W.tabObj #[]) := fun b hb => by
    rw [hPs] at hb
    obtain ⟨t, ht, rfl⟩ := List.mem_map.mp hb
    exact empty t ht
  have looseP : ∀ b ∈ Ps, K.lookup b = none := fun b hb => by
    rw [hPs] at hb
    obtain ⟨t, ht, rfl⟩ := List.mem_map.mp hb
    exact loose t ht
  have headP : ∀ b ∈ Ps, ∃ c, PySem.W.codeHdIn K c b = true := fun b hb => by
    rw [hPs] at hb
    obtain ⟨t, ht, rfl⟩ := List.mem_map.mp hb
    exact ⟨t.1, head t ht⟩
  have apart : a ∉ Ps := fun e => by
    rw [emptyP a e] at script
    have z : Data.fields #[] = Data.seq vs.toArray _ := congrArg Obj.data (Option.some.inj script)
    cases z
  -- what is tracked: the table, and the script if the module does not hold it itself
  obtain ⟨H, table, seq, ok, only, free⟩ : ∃ H : Hp, (∀ b ∈ Ps, H b = some (.tbl #[])) ∧ SqL K H a (ns.map V.int) ∧ HOk P w H s₁.heap ∧ (∀ b u, H b = some u → (b = a ∧ u = .frz { cls := .type "list", data := .seq vs.toArray } (.lst (ns.map V.int))) ∨ (b ∈ Ps ∧ u = .tbl #[])) ∧ ∀ b u, H b = some u → K.lookup b = none := by
    cases look : K.lookup a with
    | some o =>
      have same := inK a o look
      rw [script] at same
      injection same with same
      subst same
      have one : ∀ b u, (fun b => if b ∈ Ps then some (HO.tbl #[]) else none : Hp) b = some u → b ∈ Ps ∧ u = .tbl #[] := by
        intro b u z
        by_cases e : b ∈ Ps
        · exact ⟨e, (Option.some.inj ((if_pos e).symm.trans z)).symm⟩
        · exact nomatch (if_neg e).symm.trans z
      refine ⟨fun b => if b ∈ Ps then some (.tbl #[]) else none, fun b hb => if_pos hb, .inr ⟨_, vs.toArray, _, look, rfl, rfl, rfl, ?_, ?_⟩, fun b u z => ?_, fun b u z => .inr (one b u z), fun b u z => ?_⟩
      · rw [List.size_toArray, whole.length]
        exact few
      · simpa using ivs
      · obtain ⟨mem, rfl⟩ := one b u z
        exact emptyP b mem
      · exact looseP b (one b u z).1
    | none =>
      have two : ∀ b u, (fun b => if b = a then some (HO.frz { cls := .type "list", data := .seq vs.toArray } (.lst (ns.map V.int))) else if b ∈ Ps then some (HO.tbl #[]) else none : Hp) b = some u → (b = a ∧ u = .frz { cls := .type "list", data := .seq vs.toArray } (.lst (ns.map V.int))) ∨ (b ∈ Ps ∧ u = .tbl #[]) := by
        intro b u z
        by_cases e : b = a
        · exact .inl ⟨e, (Option.some.inj ((if_pos e).symm.trans z)).symm⟩
        · have z := (if_neg e).symm.trans z
          by_cases e2 : b ∈ Ps
          · exact .inr ⟨e2, (Option.some.inj ((if_pos e2).symm.trans z)).symm⟩
          · exact nomatch (if_neg e2).symm.trans z
      refine ⟨fun b => if b = a then some (HO.frz { cls := .type "list", data := .seq vs.toArray } (.lst (ns.map V.int))) else if b ∈ Ps then some (HO.tbl #[]) else none, fun b hb => (if_neg (show ¬ b = a from fun e => apart (e ▸ hb))).trans (if_pos hb), .inl (.inr ⟨_, if_pos rfl⟩), fun b u z => ?_, two, fun b u z => ?_⟩
      · rcases two b u z with ⟨rfl, rfl⟩ | ⟨mem, rfl⟩
        · exact ⟨script, by rw [List.length_map]; exact few, vs, _, ivs, script⟩
        · exact emptyP b mem
      · rcases two b u z with ⟨rfl, _⟩ | ⟨mem, _⟩
        · exact look
        · exact looseP b mem
  have stays : ∀ {b : Addr} {o : Obj}, s₁.heap.get? b = some o → (∀ u, H b ≠ some u) → (hidT s₁.heap H).get? b = some o := fun {b o} e no => hidT_get e (by
    cases z : H b with
    | none => rfl
    | some u => exact (no u z).elim)
  have plainly : ∀ {b : Addr} {o : Obj}, s₁.heap.get? b = some o → (∀ v n, o.data ≠ .seq v n) → (∀ v, o.data ≠ .fields v) → (hidT s₁.heap H).get? b = some o := fun {b o} e n1 n2 => stays e fun u z => by
    rcases only b u z with ⟨rfl, _⟩ | ⟨mem, _⟩
    · rw [script] at e
      injection e with e
      subst e
      exact n1 _ _ rfl
    · rw [emptyP b mem] at e
      injection e with e
      subst e
      exact n2 _ rfl
  have spaces : ∀ {b : Addr} {m : Str → Option Value}, s₁.heap.Ns b m → (hidT s₁.heap H).Ns b m := by
    rintro b m ⟨o, es, ep, there, data, rest⟩
    refine ⟨o, es, ep, plainly there (fun v n z => ?_) (fun v z => ?_), data, rest⟩
    · rw [data] at z
      exact nomatch z
    · rw [data] at z
      exact nomatch z
  have inn : K.In (hidT s₁.heap H) := fun b o e => stays (inK b o e) fun u z => by
    rw [free b u z] at e
    exact nomatch e
  have mod : Mod K mg (hidT s₁.heap H) := by
    obtain ⟨mc, c1, c2⟩ := unlim
    exact ⟨inn, spaces names, ⟨mb, spaces bnames, boots⟩, mc, spaces c1, c2⟩
  have tb : ∀ t ∈ ct, TabB (hidT s₁.heap H) mg t.1 t.2 := fun t ht => by
    have empty := empty t ht
    refine ⟨PySem.W.codeHd_of_K inn (head t ht), ?_, fun z => ?_⟩
    · obtain ⟨bm, ob, m1, m2, m3, m4, m5, m6⟩ := mods
      refine ⟨bm, ob, m1, m2, fun z => ?_, fun z => ?_, plainly m3 (fun v n z => ?_) (fun v z => ?_), m4, m5, m6⟩
      · obtain ⟨o, es, ep, there, data, _⟩ := names
        rw [z, there] at m3
        injection m3 with m3
        subst m3
        rw [data] at m6
        exact nomatch m6
      · rw [z, empty] at m3
        injection m3 with m3
        subst m3
        exact nomatch m6
      · rw [m6] at z
        exact nomatch z
      · rw [m6] at z
        exact nomatch z
    · obtain ⟨o, es, ep, there, data, _⟩ := names
      rw [z, empty] at there
      injection there with there
      subst there
      exact nomatch data
  have e0 : Env0 P w K mg (hidT s₁.heap H) callerA [] s₁ H := by
    refine ⟨rfl, mod, fun b o e => of_hidT e, Nat.le_of_eq (hidT_size _ _), trivial, ?_, ok, .of_eq nogen⟩
    intro b q
    exact absurd q (List.not_mem_nil (a := b))
  refine codeAny_mono ((each _ inn (spaces names) tb).run callerA [] s₁ H ⟨[.ref a], []⟩ [.ref a] [.ref a] _ _ rfl room e0 (binds s₁ (.ref a)) (.cons rfl .nil) (asked H (fun y hy => by
    have m : y.1 ∈ Ps := by
      rw [hPs, ← names2]
      exact List.mem_map.mpr ⟨y, hy, rfl⟩
    exact TabS.nil (table _ m)) seq)) ?_
  rintro (e | out) s' got
  · exact got.elim
  · match out, got with
    | .next, got => exact got.elim
    | .brk, got => exact got.elim
    | .cont, got => exact got.elim
    | .ret u, ⟨v, H', os, bare, un, ok', rel, q⟩ =>
      have q : v = V.bl true := q
      subst q
      have rel : u = Value.bool true := rel
      subst rel
      have kept : ∀ b o, b ∉ Ps → s₁.heap.get? b = some o → s'.heap.get? b = some o := fun b o other e => by
        cases z : H b with
        | none => exact un.keep b o e z (List.not_mem_nil (a := b)) (List.not_mem_nil (a := b))
        | some u =>
          rcases only b u z with ⟨rfl, rfl⟩ | ⟨mem, rfl⟩
          · have now := (ok' _ _ (un.frzs _ _ _ z)).1
            rw [script] at e
            injection e with e
            rw [← e]
            exact now
          · exact (other mem).elim
      have grow : ∀ b ∈ Ps, ∃ more : Array Value, s'.heap.get? b = some (PySem.W.tabObj (#[] ++ more)) := fun b hb => by
        obtain ⟨more, grown⟩ := un.tbls b #[] (table b hb)
        exact ⟨more, ok' b _ grown⟩
      refine ⟨rfl, ⟨fun b o e => ?_, fun b o e => ?_⟩, os, bare⟩
      · by_cases eb : b ∈ Ps
        · obtain ⟨more, grown⟩ := grow b eb
          obtain ⟨c, hc⟩ := headP b eb
          have e0 := emptyP b eb
          rw [e0] at e
          injection e with e
          subst e
          exact .inr (.inl ⟨((PySem.W.codeHd_of_K inK hc).tab e0).isCodeTable, rfl, #[], _, rfl, by rw [Array.empty_append]; rw [Array.empty_append] at grown; exact grown⟩)
        · exact .inl (kept b o eb e)
      · by_cases eb : b ∈ Ps
        · obtain ⟨more, grown⟩ := grow b eb
          exact ⟨_, grown⟩
        · exact ⟨o, kept b o eb e⟩
/-- at the end of a law that makes lambdas of its own -/
theorem walk_at_lawTs {l : PySem.W.OpenLaw} {k : Nat} {q : Program} {loose : List Str} {XP : (Str → Option Value) → Heap → Prop} {YP : World → Heap → Prop} {d : DefRec} {K : Params → PySem.W.Frag} {sp : PySem.W.Frag → List (Addr × Str) → Sp} {x : Str}
    (hn : l.most = some 63) (hdf : d.params.defaults = []) (hr : Room k callerA) (hY : ∀ (w : World) (h : Heap), YP w h → (K w.params).In h)
    (F : ∀ (w : World) (mg : Str → Option Value) (fa : Addr) (h : Heap), (K w.params).In h → h.Ns mainGlobals mg → mg d.name = some (.ref fa) → (∀ (nm : Str) (f : Addr), ((recsOf q).any fun e => e.name == nm) = true → mg nm = some (.ref f) → OwnTab (K w.params) f h) →
      ∃ (fd : FuncData) (ct : List (Addr × Addr)) (TT : List (Addr × Str)), (∀ t ∈ ct, h.get? t.2 = some (PySem.W.tabObj #[])) ∧ (∀ t ∈ ct, (K w.params).lookup t.2 = none) ∧ (∀ t ∈ ct, PySem.W.codeHdIn (K w.params) t.1 t.2 = true) ∧ TT.map (·.1) = ct.map (·.2) ∧ (∀ (s : Shared) (u : Value), BindsTo s fd ⟨[u], []⟩ [(x, u)]) ∧
        ∀ base : Heap, (K w.params).In base → base.Ns mainGlobals mg → (∀ t ∈ ct, TabB base mg t.1 t.2) → FnG l.prog w (K w.params) mg base k fa fd [x] (sp (K w.params) TT))
    (asked : ∀ (K : PySem.W.Frag) (TT : List (Addr × Str)) (H : Hp) (a : Addr) (ns : List Int), ns.length ≤ 63 → Tabs TT H → SqL K H a (ns.map V.int) → sp K TT [.ref a] H (fun v _ => v = .bl true) E0) :
    PySem.W.WalkO q loose XP YP l.row.toRowW d [] (fun f vs => PySem.call f vs) := by
  refine Att.attach_call hn hdf ?_
  intro w s₀ s₁ mg mb fa o pm cd doc a vs ns G Y ho hd hcd hmg hobj hints hlen hg
  have inn := hY w _ Y
  have mine : ∀ (nm : Str) (f : Addr), ((recsOf q).any fun e => e.name == nm) = true → mg nm = some (.ref f) → OwnTab (K w.params) f s₁.heap := by
    intro nm fa listed hmg c Pt o1 fd1 e dd vs1 sl z1 z2 z3 z4 z5
    obtain ⟨r, mem, same⟩ := List.any_eq_true.mp listed
    obtain ⟨a2, o2, fd2, c2, P2, y1, y2, y3, y4, _, ⟨oc, vc, x1, _, x3, x4⟩, there⟩ := G.T.tab r mem
    rw [beq_iff_eq.mp same, hmg] at y1
    obtain rfl : fa = a2 := by
      injection y1 with y1
      injection y1
    have f1 := inn _ _ z1
    rw [y2] at f1
    injection f1 with f1
    subst f1
    rw [z2] at y3
    injection y3 with y3
    subst y3
    rw [z3] at y4
    injection y4 with y4
    subst y4
    have f2 := inn _ _ z4
    rw [x1] at f2
    injection f2 with f2
    subst f2
    injection x3 with x3
    subst x3
    rw [z5] at x4
    injection x4 with x4
    injection x4 with x4
    subst x4
    exact there
  obtain ⟨fd, ct, TT, t1, t2, t3, t4, bind, each⟩ := F w mg fa _ inn G.T.g hmg mine
  exact law_atTs inn G.T.g G.T.b G.T.builtins G.T.nolimit hg t1 t2 t3 t4 G.T.bmain hobj hints (Nat.le_trans hlen (by decide)) hr each bind fun H tb sq => asked (K w.params) TT H a ns hlen tb sq
end Sm

set_option Elab.async false
set_option linter.all false
set_option maxRecDepth 100000
set_option maxHeartbeats 4000000
namespace Sm
open PySem PySem.Spec PyProof.Rows L2
/-! ### own exception classes over LookupError, whose __init__ stores one field -/
abbrev luTail : List Value := [.type "LookupError", .type "Exception", .type "BaseException", .type "object"]
/-- what the written part says of such a class -/
structure OexL (K : PySem.W.Frag) (C : Addr) : Prop where
  obj : ∃ nm q N bs bm sn sub ab col dd k0 k1 k2 k3 k5, K.lookup C = some (excClassObj nm q C N bs bm true sn sub ab col dd k0 k1 k2 k3 k5 "LookupError.__new__") ∧ PySem.W.excTail luTail bm = true
  facts : PySem.W.findIn K (.ref C) "__setattr__" = some (some (.builtin "object.__setattr__")) ∧ PySem.W.subIn K (.ref C) (.type "BaseException") = some true ∧ PySem.W.typeIn K (.ref C) = some (.type "type") ∧ PySem.W.keepIn K (.ref C) = true
section
open Builtin Builtin.ObjectAttr
variable {prog : Program} {w : World} {A : Around} {hp : Heap} {g : Array GenState} {dw : Drawn} {t : Nat} {os : OsState} {R : Result → Shared → Prop}
/-- object.__setattr__(x, name, v), x an exception without a dict whose class stands over a built-in one -/
theorem lu_store {K : PySem.W.Frag} {B : String} {bmB : List Value} {name : Str} {tk : Tok} {v : Value} {x C : Addr} {fv : Array Value} {cd : ClassData} (SF : StoreFacts B bmB "object.__setattr__" "object")
    (kin : K.In hp) (there : hp.get? x = some { cls := .ref C, data := .fields fv }) (known : PySem.W.clsIn K C = some cd) (over : PySem.W.excOver K C bmB = true) (dict : cd.hasDict = true) (no : PySem.W.findIn K (.ref C) name = some none)
    (told : ∀ h' tk' dx, (∀ b o, b ≠ x → hp.get? b = some o → h'.get? b = some o) → hp.objs.size ≤ dx → dx ≠ x → h'.get? x = some { cls := .ref C, dict := some dx, data := .fields fv } → h'.Ns1 dx (fun y => if y = name then some v else none) → R (.ok (.ret .none)) ⟨h', g, dw, tk', os⟩) :
    codeAny (model prog w) A (.call (.builtin "object.__setattr__") ⟨[.ref x, .str name tk, v], []⟩) R ⟨hp, g, dw, t, os⟩ := by
  have at_ : PySem.W.InstAt hp x { cls := .ref C, data := .fields fv } C none := ⟨there, rfl, rfl, trivial⟩
  have taker : PySem.W.takerIn K C name = some none := by unfold PySem.W.takerIn; rw [no]; rfl
  refine PySem.W.osa_openX (s := ⟨hp, g, dw, t, os⟩) SF kin at_ over taker fun b => ?_
  have apart : x ≠ hp.objs.size := Nat.ne_of_lt (Heap.lt_size there)
  have kls : PySem.W.Looks (model prog w) hp (classData C) cd := PySem.W.looks_clsIn kin known
  show wpAny _ _ (storeInOwnDict (.ref x) (.ref C) (.str name tk) name v b) _ _ _
  obtain ⟨n1, n2, n3, n4, n5, hd, n6, n7, n8, n9, n10⟩ := cd
  dsimp only at dict
  subst dict
  unfold storeInOwnDict ownDictForStores
  repeat (first | with_reducible refine PySem.HandSPX.store_in_new ?_ ?_ | with_reducible refine wpAny_loadPart_at there ?_ | with_reducible refine kls.at ?_ | wp_step)
  · exact ⟨_, #[], _, (Heap.get?_update_ne _ _ _ _ apart.symm).trans (Heap.get?_push_at rfl rfl), rfl, fun e he => absurd he (by simp), fun _ => rfl⟩
  · intro h' tk' names same
    have on : (hp.push { cls := .type "dict", data := .dict #[] }).get? x = some { cls := .ref C, data := .fields fv } := Heap.get?_push_of_some _ there
    refine told h' tk' hp.objs.size (fun b o hb ho => (same.2 b (Nat.ne_of_lt (Heap.lt_size ho))).trans ((Heap.get?_update_ne _ _ _ _ hb).trans (Heap.get?_push_of_some _ ho))) (Nat.le_refl _) apart.symm ((same.2 x apart).trans (Heap.get?_update_self _ on rfl)) names
end
/-- the abstract heap once the first field of the exception at a stands in its new dict at dx -/
theorem lu_un {fs : List Addr} {H : Hp} {hp h' : Heap} {a C dx : Addr} {f : Str} {y : V} (ea : H a = some (exo a C none)) (dn : hp.objs.size ≤ dx) (nd : H dx = none) (there : ∃ o, h'.get? a = some o)
    (keep : ∀ b o, b ≠ a → hp.get? b = some o → h'.get? b = some o) : Un fs [] H (upd (upd H dx (exd dx [(f, y)])) a (exo a C (some dx))) hp h' := by
  have other : ∀ {b : Addr}, H b = none → b ≠ a := fun {b} n z => by rw [z, ea] at n; cases n
  have young : ∀ {b : Addr} {o : Obj}, hp.get? b = some o → b ≠ dx := fun {b o} q => Nat.ne_of_lt (Nat.lt_of_lt_of_le (Heap.lt_size q) dn)
  constructor
  · intro b o q n _ _
    exact keep b o (other n) q
  · intro b o q n _ _
    exact ⟨o.slots, keep b o (other n) q⟩
  · intro b o q n _
    rw [upd_ne (other n), upd_ne (young q)]
    exact n
  · intro b o q _
    by_cases hb : b = a
    · subst hb; exact there
    · exact ⟨o, keep b o hb q⟩
  · intro b xs q
    rw [upd_ne (at_ne ea q exo_tup), upd_ne (ne_of_none q nd)]; exact q
  · intro b o v q
    rw [upd_ne (at_ne ea q exo_frz), upd_ne (ne_of_none q nd)]; exact q
  · intro b ps q
    exact ⟨#[], by rw [upd_ne (at_ne ea q exo_tbl), upd_ne (ne_of_none q nd), q]; simp⟩
section
variable {X : Cx} {pins : List (Addr × Obj)} {σ : L2.St} {H : Hp} {s : Shared} {a C : Addr} {f : Str} {y : V} {u : Value} {Q : Unit → Shared → Prop} {E : Value → Shared → Prop} {A : Around}
theorem lu_cls {K : PySem.W.Frag} {C : Addr} (T : OexL K C) : ∃ cd, PySem.W.clsIn K C = some cd ∧ cd.hasDict = true ∧ PySem.W.excOver K C luTail = true := by
  obtain ⟨nm, q, N, bs, bm, sn, sub, ab, col, dd, k0, k1, k2, k3, k5, hC, hbm⟩ := T.obj
  have known : PySem.W.clsIn K C = some { name := nm, bases := bs, mro := .ref C :: bm, ns := N, qualname := q, hasDict := true, slotNames := sn, subclasses := sub, abstract := ab, collection := col, hasDel := false } := by unfold PySem.W.clsIn; rw [hC] <;> rfl
  refine ⟨_, known, rfl, ?_⟩
  unfold PySem.W.excOver
  rw [known]
  show (C == C && PySem.W.excTail luTail bm) = true
  rw [hbm, beq_self_eq_true]
  rfl
/-- self.f = y in __init__ -/
theorem lu_ost (T : OexL X.K C) (I : Inv X pins σ H s) (e : H a = some (exo a C none)) (no : PySem.W.findIn X.K (.ref C) f = some none) (ry : RelV y u)
    (h : ∀ dx s', H dx = none → dx ≠ a → Inv X pins σ (upd (upd H dx (exd dx [(f, y)])) a (exo a C (some dx))) s' → Q () s') : wpAny (model X.prog X.w) A (setAttr (.ref a) f u) Q E s := by
  obtain ⟨cd, known, dict, over⟩ := lu_cls T
  obtain ⟨t1, ho⟩ := exo_at I.hok e
  obtain ⟨hp, g, d, t, os⟩ := s
  refine PySem.W.set_plain I.kIn (od := none) ⟨ho, rfl, rfl, trivial⟩ T.facts.1 (lu_store PySem.F.store_LookupError I.kIn ho known over dict no fun h' tk' dx k dn dne hx hn => ?_)
  have nd : H dx = none := I.hok.fresh dn
  refine h dx _ nd dne (I.un (t' := tk') (lu_un e dn nd ⟨_, hx⟩ k) fun b o q => ?_)
  by_cases hb : b = a
  · subst hb
    rw [upd_same] at q; cases q
    exact exo_ok hx
  rw [upd_ne hb] at q
  by_cases hd : b = dx
  · subst hd
    rw [upd_same] at q; cases q
    exact exd_ok hn (relO_put (fs := []) ry fun g => True.intro)
  rw [upd_ne hd] at q
  refine (I.hok b o q).stay (fun c v hc z => k c v ?_ z) (fun c hc => ?_) (fun c xs hc => ?_)
  · rcases hc with hc | hc
    · rw [hc]; exact hb
    · exact at_ne e hc exo_own
  · rw [upd_ne (at_ne e hc exo_own), upd_ne (ne_of_none hc nd)]; exact hc
  · rw [upd_ne (at_ne e hc exo_tup), upd_ne (ne_of_none hc nd)]; exact hc
end
/-- self.f = e -/
def tOsL (K : PySem.W.Frag) (f : Str) (to te : TE) : TS := fun D σ H => te σ H fun y H1 => to σ H1 fun x H2 => ∃ a C : Addr, x = .ref a ∧ OexL K C ∧ PySem.W.findIn K (.ref C) f = some none ∧ H2 a = some (exo a C none) ∧ ∀ dx, H2 dx = none → dx ≠ a → D.nx σ (upd (upd H2 dx (exd dx [(f, y)])) a (exo a C (some dx)))
section
variable {X : Cx} {o e : Expr} {es : List Expr} {to te : TE} {ta : TA} {f : Str} {p p' pos : Pos}
theorem ps_osL (ho : PE X o to) (he : PE X e te) (hs : swapsWith e (some (.Attribute o f p')) pos.line X.env = pure false := by rfl) : PS X (.Assign [.Attribute o f p'] e pos) (tOsL X.K f to te) := by
  refine ⟨fun pins s σ H D I h => plainObj_wpAny_Assign_Attribute (thn (he.run pins s σ H _ I h) ?_) hs⟩
  rintro v s1 ⟨y, H1, I1, r1, q1⟩
  refine thn (ho.run pins s1 σ H1 _ I1 q1) ?_
  rintro u s2 ⟨x, H2, I2, r2, a, C, rfl, T, no, ea, q⟩
  obtain rfl : u = Value.ref a := r2
  exact lu_ost T I2 ea no r1 fun dx s' n ne J => ⟨σ, _, J, q dx n ne⟩
/-- C(e) -/
theorem pmk_oexL {CX : CXT} {x : Str} {C fI : Addr} {k : Nat} {fd : FuncData} {ps : List Str} {sp : Sp} (T : OexL X.K C) (iC : PySem.W.findIn X.K (.ref C) "__init__" = some (some (.ref fI))) (tI : PySem.W.typeIn X.K (.ref fI) = some (.type "function"))
    (F1 : FnOk X.prog X.w X.K X.mg X.base CX k fI fd ps sp) (hr : Room (k + 1) X.A) (hb : Binds X.K fd ps []) (hx : Passes CX X (fun _ _ _ => False)) (hg : Gl X x) (hm : X.mg x = some (.ref C)) (ha : PA X (e :: es) ta)
    (hdb : (x == ("__debug__" : Str)) = false := by decide) (he : starEach (e :: es) X.env = (false, eval e X.env) :: starEach es X.env := by rfl) (hpl : (backTo pos (starEach es X.env)).any (·.1) = false := by rfl) :
    PMk X (.Call (.Name x p) (e :: es) [] pos) (tMkO C sp [] ta) := by
  intro pins s σ H Q I h
  obtain ⟨nm, q, N, bs, bm, sn, sub, ab, col, dd, k0, k1, k2, k3, k5, hC, hbm⟩ := T.obj
  obtain ⟨_, exc, typ, keep⟩ := T.facts
  refine wpAny_Call_Name_kw (ld_glob I hg hm (PySem.W.callWith_K (h₀ := X.base) I.ok.mod.kin keep (thn (ha.run pos pins s σ H _ I h) ?_) he hpl) hdb)
  rintro us s1 ⟨vs, H1, I1, r1, hz, q1⟩
  refine ⟨I1.kIn, ?_⟩
  show wpAny _ _ (call (.ref C) us) _ _ _
  obtain ⟨hp, g, dr, tk, os⟩ := s1
  generalize hn : hp.objs.size = n
  have old : hp.objs.size ≤ n + 1 := by omega
  have hq := q1 (n + 1) (I1.hok.fresh old)
  have kk : ∀ b o, hp.get? b = some o → ((hp.push (PySem.W.kdv_tup us)).push (PySem.HandSPX.excO C n)).get? b = some o := fun b o e => Heap.get?_push_of_some _ (Heap.get?_push_of_some _ e)
  have got : ((hp.push (PySem.W.kdv_tup us)).push (PySem.HandSPX.excO C n)).get? (n + 1) = some (PySem.HandSPX.excO C n) := by subst hn; heap_get
  have I2 : Inv X pins σ (upd H1 (n + 1) (exo (n + 1) C none)) ⟨(hp.push (PySem.W.kdv_tup us)).push (PySem.HandSPX.excO C n), g, dr, tk, os⟩ := I1.laid (t' := tk) (o := exo (n + 1) C none) kk old (exo_ok got)
  have r2 : Vals (V.ref (n + 1) :: (vs ++ [])) (Value.ref (n + 1) :: us) := .cons rfl (by rw [List.append_nil]; exact r1)
  have long : (Value.ref (n + 1) :: us).length = ps.length := r2.length.symm.trans (F1.len _ _ _ _ hq)
  have few : us.length ≤ sizeLine := by rw [← Paired.length r1, sizeLine_eq]; omega
  have ran := F1.run _ X.stack _ _ ⟨Value.ref (n + 1) :: us, []⟩ (Value.ref (n + 1) :: us) _ _ (fun _ _ _ => False) (hr.make C us []) (I2.env0.make C us []) (by have b := hb ⟨(hp.push (PySem.W.kdv_tup us)).push (PySem.HandSPX.excO C n), g, dr, tk, os⟩ (Value.ref (n + 1) :: us) I2.kIn (by rw [List.append_nil]; exact long); rw [List.append_nil] at b; exact b) r2 hq
  subst hn
  refine wpAny_call (PySem.HandSPX.call_own PySem.F.excBase_LookupError (fun Y => PySem.W.excTail_contains Y bm hbm) (I1.kIn _ _ hC) (PySem.W.looks_findIn I1.kIn iC) (fun self => PySem.W.bind_fn I1.kIn self tI) few (codeAny_mono ran ?_))
  rintro (er | fl) s' hq'
  · exact hx pins σ _ _ er s' I2 hq'
  match fl, hq' with
  | .next, z => exact False.elim z
  | .brk, z => exact False.elim z
  | .cont, z => exact False.elim z
  | .ret u, ⟨v, H2, os2, bare2, un2, hok2, rv, ev, d, fs, ea, ed, hd1, q2⟩ =>
    subst ev
    obtain ⟨h2, g2, d2, t2, os'⟩ := s'
    exact ⟨rv, mk_end (raises_own exc typ) I1 old kk un2 hok2 os2 bare2 ea ed hd1 q2⟩
end
/-- __init__(self, f): self.f = f -/
def sp_initL (K : PySem.W.Frag) (fl : Str) : Sp := fun vs H Q _ => ∃ (a C : Addr) (v : V), vs = [.ref a, v] ∧ OexL K C ∧ PySem.W.findIn K (.ref C) fl = some none ∧ H a = some (exo a C none) ∧ ∀ dx, H dx = none → dx ≠ a → Q .non (upd (upd H dx (exd dx [(fl, v)])) a (exo a C (some dx)))
theorem xc_mkL {C : Addr} {fl : Str} {K : PySem.W.Frag} {ta : TA} {σ : L2.St} {H : Hp} {Q : XK} (T : OexL K C) (no : PySem.W.findIn K (.ref C) fl = some none)
    (h : ta σ H fun vs H1 => ∃ v, vs = [v] ∧ ∀ d H2, Same H1 H2 → H2 d = some (.xd [(fl, v)]) → Q (.ref C) (some d) H2) (mono : ∀ {A B : List V → Hp → Prop}, (∀ vs H1, A vs H1 → B vs H1) → ta σ H A → ta σ H B) : tMkO C (sp_initL K fl) [] ta σ H Q := by
  refine mono ?_ h
  rintro vs H1 ⟨v, rfl, k⟩
  refine ⟨by show 1 ≤ 1000; decide, fun a na => ⟨a, C, v, rfl, T, no, upd_same, fun dx nd da => ⟨rfl, dx, [(fl, v)], upd_same, ?_, ?_, ?_⟩⟩⟩
  · rw [upd_ne da, upd_same]
  · rw [upd_ne da] at nd
    exact nd
  · have nd1 : H1 dx = none := by
      rw [upd_ne da] at nd
      exact nd
    refine k dx _ (fun b o hb => ?_) upd_same
    rw [upd_ne (ne_of_none hb nd1), del_ne (ne_of_none hb na), upd_ne (ne_of_none hb na), upd_ne (ne_of_none hb nd1), upd_ne (ne_of_none hb na)]
    exact hb
theorem kit_typ {K : PySem.W.Frag} {D : Addr} {b : Bool} {n : String} (hm : PySem.W.kitMeta n = true) (h : PySem.W.subIn K (.ref D) (.type n) = some b) : PySem.W.kitOne K (.ref D) (.type n) = some b := by
  have q : ((Value.ref D) == (Value.type n)) = false := beq_eq_false_iff_ne.mpr fun z => nomatch z
  unfold PySem.W.kitOne
  rw [if_neg (by rw [q]; exact Bool.false_ne_true)]
  show (if PySem.W.kitMeta n = true then PySem.W.subIn K (.ref D) (.type n) else none) = some b
  rw [if_pos hm]
  exact h
end Sm

set_option Elab.async false
set_option linter.all false
set_option maxRecDepth 100000
set_option maxHeartbeats 4000000
namespace Sm
open PySem PySem.Spec PyProof.Rows L2 LamX
/-- repr of a value of any kind, in an except suite too -/
theorem call_reprU {X : Cx} (gu : X.A.guards = some []) (un : X.A.units + 100 < cLine) : CallR X (.builtin "repr") (rReprQ X.K) := by
  rintro pins s σ H xs us Q I rel ⟨v, d, rfl, data, sh, dep, len, q⟩
  obtain ⟨u, rfl, ru⟩ := vals1 rel
  obtain ⟨as, reads, ns⟩ := Dq.reads I d _ u data ru
  have at_ : ∀ a, u = .ref a → _ := fun a e => repr_of_reads' (A := X.A) (s := s) (prog := X.prog) (w := X.w) (E := X.xe) (Q := fun y s' => ∃ z H2, Inv X pins σ H2 s' ∧ RelV z y ∧ Q z H2) (by rw [← e]; exact reads) sh (fun _ => ns) gu (by omega) (fun _ _ e => e) (fun h' v tk keep => ⟨.str d.shown, H, I.kept keep, ⟨_, rfl⟩, q⟩) len
  cases data with
  | non => cases ru; exact PySem.P.repr_of_none ⟨.str _, H, I.tok _, ⟨_, rfl⟩, q⟩
  | bl b => cases ru; exact PySem.P.repr_of_bool ⟨.str _, H, I.tok _, ⟨_, rfl⟩, by cases b <;> exact q⟩
  | int i => obtain ⟨t, rfl⟩ := ru; exact PySem.P.repr_of_int (of_decide_eq_true (by simpa [PyData.showable] using sh)) ⟨.str _, H, I.tok _, ⟨_, rfl⟩, q⟩
  | str x => obtain ⟨t, rfl⟩ := ru; exact PySem.P.repr_of_str ⟨.str _, H, I.tok _, ⟨_, rfl⟩, q⟩ len
  | lst e1 e2 e3 => cases ru; exact at_ _ rfl
  | tup e1 e2 => cases ru; exact at_ _ rfl
  | dic kvs e1 => cases ru; exact at_ _ rfl
section
variable {X : Cx} {pins : List (Addr × Obj)} {σ : L2.St} {H : Hp} {s : Shared}
/-- a local name read, nothing else happens -/
theorem ld_var {E : Value → Shared → Prop} {Q : Value → Shared → Prop} {i : Nat} {x : Str} {pos : Pos} {v : V} (I : Inv X pins σ H s) (named : X.N[i]? = some x) (seen : Vis X.env.scope x) (e : σ[i]? = some (some v)) (h : ∀ u, RelV v u → Q u s)
    (hd : (x == ("__debug__" : Str)) = false := by decide) (hcd : (x == ("__classdict__" : Str)) = false := by decide) : wpAny (model X.prog X.w) X.A (eval (.Name x pos) X.env) Q E s := by
  obtain ⟨m, hn, hl⟩ := I.loc
  obtain ⟨u, r, l⟩ := hl i x v named e seen
  rcases l with ⟨hk, hm⟩ | ⟨hk | hk, c, hc, hcell⟩
  · exact wpAny_Name (wpAny_loadName_local I.ok.kind hk hn hm (h u r)) hd
  · exact wpAny_Name (wpAny_loadName_cell I.ok.kind hk hc hcell (h u r)) hd
  · exact wpAny_Name (wpAny_loadName_free I.ok.kind hk hc hcell (h u r) hcd) hd
/-- x() in the def that got the lambda: what is raised is taken at the very slots -/
theorem pe_actS {Ng : List Str} {qg : Str} {sg : Scope} {g f c' : Addr} {cdg pm ctv : Value} {params : Arguments} {body : Expr} {scope : Scope} {k i : Nat} {a : Str} {pn : List (Addr × Obj)} {xe : Value → Shared → Prop} {W : WX} {E : XK} {tb : TE} {p1 p2 : Pos} (σ0 : L2.St)
    (I : Inv X pins σ H s) (L : LamS X.env.scope scope) (hf : s.heap.get? f = some (PySem.W.kla_obj "<lambda>" (X.env.qual ++ "<lambda>") params body scope (cloFrom X.env.cells scope.names []) pm c' ctv)) (hfn : H f = none) (hfr : f ∉ frs X.stack)
    (hbind : bindArgs (PySem.W.kla_fn "<lambda>" (X.env.qual ++ "<lambda>") params body scope (cloFrom X.env.cells scope.names []) pm (.ref c') ctv) ⟨[], []⟩ = pure [])
    (tk : Takes ((cxOf C8.CX0 X.prog X.w X.K X.mg X.base Ng qg sg g cdg X.A X.stack s H C8.E0).tr pn xe) W) (hW : ∀ cls d H', E cls d H' → W cls d σ0 H') (hr : Room (k + 1) (X.A.deeper (envOfC qg sg s.heap.objs.size g cdg)))
    (hbody : ∀ (A : Around) (outer : List Env) (s : Shared) (H : Hp), Room k (A.deeper (lamEnv X scope s.heap.objs.size f c')) → PE (lamCx X A outer s H E scope f c') body tb)
    (hN : Ng[i]? = some a) (hv : Vis sg a) (hd : (a == ("__debug__" : Str)) = false := by decide) (hcd : (a == ("__classdict__" : Str)) = false := by decide) :
    PE ((cxOf C8.CX0 X.prog X.w X.K X.mg X.base Ng qg sg g cdg X.A X.stack s H C8.E0).tr pn xe) (.Call (.Name a p1) [] [] p2) (fun σZ HZ Q => σZ = σ0 ∧ σZ[i]? = some (some (.ref f)) ∧ HZ c' = some (CodeO c' (X.env.qual ++ "<lambda>")) ∧ tb σ HZ Q) := by
  refine ⟨fun pinsZ sZ σZ HZ Q IZ h => ?_⟩
  obtain ⟨rfl, hs, hc, ht⟩ := h
  refine wpAny_Call_Name_kw (ld_var IZ (pos := p1) (i := i) hN hv hs (fun u r1 => ?_) hd hcd)
  obtain rfl : u = Value.ref f := r1
  have of1 := IZ.base.keep f _ hf hfn hfr (fun z => nomatch (show f ∈ ([] : List Addr) from z))
  refine PySem.W.callWith_F0 ⟨_, _, _, _, of1⟩ ?_
  have un : Un (frs X.stack) [] H HZ s.heap sZ.heap := IZ.base
  obtain ⟨⟨oc, vs, t, hoc, hdc, hvc⟩, _, _⟩ := IZ.hok c' _ hc
  have ran : codeAny (model X.prog X.w) (X.A.deeper (envOfC qg sg s.heap.objs.size g cdg)) (.call (.ref f) ⟨[], []⟩) (CR (L2.CX X.prog X.w) (envOfC qg sg s.heap.objs.size g cdg :: X.stack) X.prog X.w HZ sZ Q E) sZ := by
    refine PySem.W.kla_callFunE hr.depth of1 rfl L.co L.gen rfl ⟨c', oc, vs, t, rfl, hoc, hdc, hvc⟩ ?_
    rw [hbind]
    refine wpAny_pure (wpAny_newFunctionEnv (fun y hy => (L.own y hy).2) (fun y hy => absurd hy (by simp)) (fun h₁ names same => ⟨IZ.nolimit.fresh _ same, ?_⟩) L.kind)
    have keep : ∀ b o, sZ.heap.get? b = some o → h₁.get? b = some o := fun b o e => same.extBut b o (Nat.ne_of_lt (Heap.lt_size e)) (Heap.get?_push_of_some _ e)
    refine PySem.W.kla_codeExpr (wpAny_mono ((hbody _ _ sZ HZ (hr.deeper _)).run [] _ _ HZ Q (lam_start2 I L IZ.env0 hr.hd un names keep) ht) ?_ fun e s' hq => hq)
    rintro v s' ⟨w', H', J', rv, q⟩
    exact ⟨w', H', J'.os, J'.bare, J'.base, J'.hok, rv, q⟩
  refine wpAny_call (codeAny_mono ran ?_)
  rintro (e | fl) s' hq
  · exact tk e s' (XE.of_call IZ (fun cls d H' h => hW cls d H' h) hq)
  match fl, hq with
  | .ret u, hq => exact IZ.after hq
  | .next, hq => exact False.elim hq
  | .brk, hq => exact False.elim hq
  | .cont, hq => exact False.elim hq
end
/-- the def that gets a lambda and a value: TT tells what it makes of both -/
def Gives2 (X : Cx) (Ng : List Str) (x : Str) (sg : Scope) (g : Addr) (cdg : Value) (bg : List Stmt) (a : Str) (q : Str) (TT : V → (XK → Hp → VK → Prop) → Hp → VK → Prop) : Prop :=
  ∀ (f c' : Addr) (s : Shared) (H : Hp) (v : V) (Q : VK) (tl : XK → Hp → VK → Prop),
    (∀ (W : WX) (pn : List (Addr × Obj)) (xe : Value → Shared → Prop) (E : XK) (p1 p2 : Pos) (σ0 : L2.St), Takes ((cxOf C8.CX0 X.prog X.w X.K X.mg X.base Ng x sg g cdg X.A X.stack s H C8.E0).tr pn xe) W → (∀ cls d H', E cls d H' → W cls d σ0 H') →
      PE ((cxOf C8.CX0 X.prog X.w X.K X.mg X.base Ng x sg g cdg X.A X.stack s H C8.E0).tr pn xe) (.Call (.Name a p1) [] [] p2) (fun σZ HZ Q => σZ = σ0 ∧ σZ[0]? = some (some (.ref f)) ∧ HZ c' = some (CodeO c' q) ∧ tl E HZ Q)) →
    H c' = some (CodeO c' q) → TT v tl H Q →
    ∃ t, PSs (cxOf C8.CX0 X.prog X.w X.K X.mg X.base Ng x sg g cdg X.A X.stack s H C8.E0).nox bg t ∧ t { nx := fun _ H' => Q .non H', rt := Q } (L2.start Ng [.ref f, v]) H
def tLam2 (T : List (Addr × Str)) (TT : V → (XK → Hp → VK → Prop) → Hp → VK → Prop) (t : XK → TE) (j : Nat) : TE := fun σ H Q => Tabs T H ∧ ∃ v, σ[j]? = some (some v) ∧ ∀ H1, ExtN H H1 → Tabs T H1 → TT v (fun E H' Q' => t E σ H' Q') H1 Q
section
variable {X : Cx}
/-- x(lambda: body, y) -/
theorem pe_lamcall2 {T : List (Addr × Str)} {TT : V → (XK → Hp → VK → Prop) → Hp → VK → Prop} {x a b y : Str} {g c P : Addr} {k j : Nat} {pg : Arguments} {bg : List Stmt} {sg : Scope} {dV kV doc pm cdv ct oc : Value} {an od : Option Addr} {osl : Array (Option Value)} {Ng : List Str}
    {params : Arguments} {body : Expr} {scope : Scope} {t : XK → TE} {p lpos pos py : Pos} (hg : Gl X x) (hm : X.mg x = some (.ref g)) (hk : PySem.W.keepIn X.K (.ref g) = true)
    (lk : X.K.lookup g = some ⟨oc, od, .func (PySem.W.fnOf x x pg bg sg dV kV doc pm an cdv ct), osl⟩) (hcg : PySem.W.codeIn X.K cdv x = true) (hb : L2.Binds X.K (PySem.W.fnOf x x pg bg sg dV kV doc pm an cdv ct) [a, b] []) (Sg : FnScope Ng [a, b] sg) (hNg : Ng[0]? = some a) (hva : Vis sg a)
    (hG : Gives2 X Ng x sg g cdv bg a (X.env.qual ++ "<lambda>") TT)
    (TB : TabB X.base X.mg c P) (hcode : X.env.code = .ref c) (hmT : (P, X.env.qual ++ "<lambda>") ∈ T) (hu : ∀ p ∈ T, p.1 = P → p.2 = X.env.qual ++ "<lambda>") (hr : Room (k + 2) X.A) (L : LamS X.env.scope scope) (hdef : defaultsOf params X.env = ([], []))
    (hbind : ∀ (q : Str) (cl : List (Str × Addr)) (pm cv ctv : Value), bindArgs (PySem.W.kla_fn "<lambda>" q params body scope cl pm cv ctv) ⟨[], []⟩ = pure [])
    (hbody : ∀ (A : Around) (outer : List Env) (s : Shared) (H : Hp) (E : XK) (f c' : Addr), Room k (A.deeper (lamEnv X scope s.heap.objs.size f c')) → PE (lamCx X A outer s H E scope f c') body (t E))
    (named : X.N[j]? = some y) (seen : Vis X.env.scope y)
    (hdb : (x == ("__debug__" : Str)) = false := by decide) (hd : (a == ("__debug__" : Str)) = false := by decide) (hcd : (a == ("__classdict__" : Str)) = false := by decide) (hyd : (y == ("__debug__" : Str)) = false := by decide) (hycd : (y == ("__classdict__" : Str)) = false := by decide) :
    PE X (.Call (.Name x p) [.Lambda params body scope lpos, .Name y py] [] pos) (tLam2 T TT t j) := by
  refine ⟨fun pins s σ H Q I h => ?_⟩
  obtain ⟨hT, v, hv, h⟩ := h
  refine wpAny_Call_Name_kw (ld_glob I hg hm (PySem.W.callWith_K (h₀ := X.base) I.ok.mod.kin hk ?_ (by rfl) (by rfl)) hdb)
  show wpAny _ _ (spliced ((false, eval (.Lambda params body scope lpos) X.env) :: backTo pos (starEach [.Name y py] X.env))) _ _ s
  refine Calls.spliced_cons (lam_make2 I TB hcode hmT hu hT hdef (L.has I.ok) ?_)
  intro f c' pm' ctv H1 s' I1 eN T1 hf hfn hfr hco
  show wpAny _ _ (spliced ((false, eval (.Name y py) X.env) :: backTo pos (starEach [] X.env))) _ _ s'
  refine Calls.spliced_cons (ld_var I1 named seen hv (fun u r1 => ?_) hyd hycd)
  refine Calls.spliced_nil ⟨I1.kIn, ?_⟩
  have ran : codeAny (model X.prog X.w) X.A (.call (.ref g) ⟨[.ref f, u], []⟩) (CR C8.CX0 X.stack X.prog X.w H1 s' Q C8.E0) s' := by
    refine run_ofS (N := Ng) (ps := [a, b]) (us := [.ref f, u]) (vs := [.ref f, v]) lk hcg Sg hr I1.env0 (hb s' [.ref f, u] I1.kIn rfl) (.cons rfl (.cons r1 .nil)) rfl fun room => ?_
    obtain ⟨t', got, fine⟩ := hG f c' s' H1 v Q (fun E H' Q' => t E σ H' Q') (fun W pn xe E p1 p2 σ0 tk hW => pe_actS (i := 0) σ0 I1 L hf hfn hfr (hbind _ _ _ _ _) tk hW room (fun A outer s H r2 => hbody A outer s H E f c' r2) hNg hva hd hcd) hco (h H1 eN T1)
    exact ⟨t', got.nox, fine⟩
  refine wpAny_call (codeAny_mono ran ?_)
  rintro (e | fl) s2 hq
  · exact (show False from hq).elim
  match fl, hq with
  | .ret u, hq => exact I1.after hq
  | .next, hq => exact False.elim hq
  | .brk, hq => exact False.elim hq
  | .cont, hq => exact False.elim hq
/-- try: a() / except e as n: a suite that is told by ts -/
def tActAs (K : PySem.W.Frag) (CS f c' : Addr) (q : Str) (i : Nat) (ts : Addr → Value → Option Addr → TS) (tl : XK → Hp → VK → Prop) : TS := fun D σ H => σ[0]? = some (some (.ref f)) ∧ H c' = some (CodeO c' q) ∧
  tl (fun cls d H' => wAs K (.ref CS) i ts (fun _ _ _ _ => False) D cls d σ H') H (fun _ H' => D.nx σ H')
theorem ps_act_as {Ng : List Str} {x a e n q : Str} {sg : Scope} {g CS f c' : Addr} {cdg : Value} {i : Nat} {b₀ : Stmt} {suite : List Stmt} {p1 p2 p3 p4 p5 p6 : Pos} {ts : Addr → Value → Option Addr → TS} {s : Shared} {H : Hp} {tl : XK → Hp → VK → Prop}
    (hge : sg.names.lookup e = some .globalImplicit) (hme : X.mg e = some (.ref CS)) (hde : (e == ("__debug__" : Str)) = false) (nd : Ng.Nodup) (hi : Ng[i]? = some n)
    (hln : (cxOf C8.CX0 X.prog X.w X.K X.mg X.base Ng x sg g cdg X.A X.stack s H C8.E0).nox.env.kindOf n = some .local)
    (act : ∀ (W : WX) (pn : List (Addr × Obj)) (xe : Value → Shared → Prop) (E : XK) (p1 p2 : Pos) (σ0 : L2.St), Takes ((cxOf C8.CX0 X.prog X.w X.K X.mg X.base Ng x sg g cdg X.A X.stack s H C8.E0).tr pn xe) W → (∀ cls d H', E cls d H' → W cls d σ0 H') →
      PE ((cxOf C8.CX0 X.prog X.w X.K X.mg X.base Ng x sg g cdg X.A X.stack s H C8.E0).tr pn xe) (.Call (.Name a p1) [] [] p2) (fun σZ HZ Q => σZ = σ0 ∧ σZ[0]? = some (some (.ref f)) ∧ HZ c' = some (CodeO c' q) ∧ tl E HZ Q))
    (hsu : ∀ (c : Addr) (oe : Obj) (cls : Value) (d : Option Addr) (pn : List (Addr × Obj)), Zc cls d oe → (∃ vs, oe.data = .fields vs) → PSs ((cxOf C8.CX0 X.prog X.w X.K X.mg X.base Ng x sg g cdg X.A X.stack s H C8.E0).nox.suite c ((c, oe) :: pn)) (b₀ :: suite) (ts c cls d)) :
    PS (cxOf C8.CX0 X.prog X.w X.K X.mg X.base Ng x sg g cdg X.A X.stack s H C8.E0).nox (.Try [.Expr (.Call (.Name a p1) [] [] p2) p3] [.ExceptHandler (some (.Name e p4)) (some n) (b₀ :: suite) p5] [] [] p6) (tActAs X.K CS f c' q i ts tl) := by
  let Z := (cxOf C8.CX0 X.prog X.w X.K X.mg X.base Ng x sg g cdg X.A X.stack s H C8.E0).nox
  have glob : Gl Z e := hge
  let tried : WX → TS := fun W D σ H1 => ∃ out : XK, (∀ cls d H', out cls d H' → W cls d σ H') ∧ σ[0]? = some (some (.ref f)) ∧ H1 c' = some (CodeO c' q) ∧ tl out H1 (fun _ H2 => D.nx σ H2)
  have inner : ∀ (W : WX) (pn : List (Addr × Obj)) (xe : Value → Shared → Prop), Takes (Z.tr pn xe) W → PassesOwn (model Z.prog Z.w) Z.A Z.env xe → PSs (Z.tr pn xe) [.Expr (.Call (.Name a p1) [] [] p2) p3] (tried W) := by
    intro W pn xe tk _
    refine ⟨fun pins s' σ H' D I told' => ?_⟩
    obtain ⟨out, hW, h1, h2, h3⟩ := told'
    exact (pss_one (ps_expr (pos := p3) (act _ pn xe out p1 p2 σ tk hW))).run pins s' σ H' D I ⟨rfl, h1, h2, h3⟩
  have whole := ps_try_as (X := Z) (c := .ref CS) (i := i) (tb := tried) (ts := ts) (Wout := fun _ _ _ _ => False) (pos := p6) (pos' := p5) (np := p4) rfl rfl nd hi hln ⟨glob, hde, .inl hme⟩ L2.takes0 inner (fun c oe cls d pn hz hf => hsu c oe cls d pn hz hf)
  refine ⟨fun pins s' σ H1 D I h => whole.run pins s' σ H1 D I ?_⟩
  obtain ⟨h1, h2, h3⟩ := h
  exact ⟨_, fun cls d H' h => h, h1, h2, h3⟩
end
end Sm

set_option Elab.async false
set_option linter.all false
set_option maxRecDepth 100000
set_option maxHeartbeats 4000000
namespace Sm
open PySem PySem.Spec PyProof.Rows L2
/-! ### comprehensions whose items are told one by one, what stands stays -/
abbrev lcmQ (H : Hp) (D : Addr) (fv : Nat → V) (i : Nat) : VK := fun y H4 => ∃ acc, H4 D = some (.lst acc) ∧ acc.length < sizeLine ∧ Same H (upd H4 D (.lst (acc ++ [y]))) ∧ upd H4 D (.lst (acc ++ [y])) D = some (.lst ((List.range (i + 1)).map fv))
theorem lcm_step {H H' H4 : Hp} {D : Addr} {i n : Nat} {fv : Nat → V} (nD : H D = none) (s : Same H H') (hD : H' D = some (.lst ((List.range i).map fv))) (hi : i ≤ n) (ln : n ≤ 20000) (s4 : Same H' H4) :
    ∃ acc, H4 D = some (.lst acc) ∧ acc.length < sizeLine ∧ Same H (upd H4 D (.lst (acc ++ [fv i]))) ∧ upd H4 D (.lst (acc ++ [fv i])) D = some (.lst ((List.range (i + 1)).map fv)) := by
  refine ⟨_, s4 _ _ hD, ?_, fun b o e => ?_, ?_⟩
  · rw [List.length_map, List.length_range]
    exact Nat.lt_of_le_of_lt (show i ≤ 20000 by omega) (by decide)
  · rw [upd_ne (ne_of_none e nD)]
    exact s4 _ _ (s _ _ e)
  · rw [upd_same, List.range_succ, List.map_append]
    rfl
theorem lc_mT {K : PySem.W.Frag} {a : Addr} {xs : List V} {g : TG} {te : TE} {vs : List Nat} {σ : L2.St} {H : Hp} {D : Addr} {Qd : Hp → Prop} (fv : Nat → V) (ha : H a = some (.tup xs)) (nD : H D = none) (ln : xs.length ≤ 20000)
    (hs : ∀ i x H', xs[i]? = some x → Same H H' → ∀ R : VK, (∀ H4, Same H' H4 → R (fv i) H4) → g x (wipe σ vs) H' fun σ2 H2 => wipe σ2 vs = wipe σ vs ∧ te σ2 H2 R)
    (mono : ∀ x H' (A B : L2.St → Hp → Prop), (∀ σ2 H2, A σ2 H2 → B σ2 H2) → g x (wipe σ vs) H' A → g x (wipe σ vs) H' B)
    (hd : ∀ H', Same H H' → H' D = some (.lst ((List.range xs.length).map fv)) → Qd H') :
    ∃ W : Nat → Nat → Hp → Prop, (∃ m, W 0 m (upd H D (.lst []))) ∧ ∀ i m H, W i m H → ((Itt K a).stop i H ∧ Qd H) ∨ ((Itt K a).go i H ∧ ∃ Nx : Hp → Prop, (∀ H', Nx H' → ∃ m', m' < m ∧ W (i + 1) m' H') ∧ ∀ x H', (Itt K a).yld i H x H' → g x (wipe σ vs) H' fun σ2 H2 => wipe σ2 vs = wipe σ vs ∧ tYes σ2 H2 fun b H3 =>
        if b = true then te σ2 H3 fun y H4 => ∃ acc, H4 D = some (.lst acc) ∧ acc.length < sizeLine ∧ Nx (upd H4 D (.lst (acc ++ [y]))) else Nx H3) := by
  refine lc_tup (K := K) (a := a) (xs := xs) (fun i H' => Same H H' ∧ H' D = some (.lst ((List.range i).map fv))) ⟨same_upd nD, upd_same⟩ (fun i H' _ h => SqT.of (h.1 _ _ ha)) ?_ (fun H' h => hd H' h.1 h.2)
  rintro i x H' hx ⟨s, hD⟩
  have il : i < xs.length := (List.getElem?_eq_some_iff.mp hx).1
  refine mono x H' _ _ ?_ (hs i x H' hx s (lcmQ H D fv i) fun H4 s4 => lcm_step nD s hD (Nat.le_of_lt il) ln s4)
  rintro σ2 H2 ⟨e, h⟩
  refine ⟨e, ?_⟩
  unfold tYes
  exact iteT h
theorem lc_mL {K : PySem.W.Frag} {a : Addr} {xs : List V} {g : TG} {te : TE} {vs : List Nat} {σ : L2.St} {H : Hp} {D : Addr} {Qd : Hp → Prop} (fv : Nat → V) (ha : H a = some (.lst xs)) (nD : H D = none) (ln : xs.length ≤ 20000)
    (hs : ∀ i x H', xs[i]? = some x → Same H H' → ∀ R : VK, (∀ H4, Same H' H4 → R (fv i) H4) → g x (wipe σ vs) H' fun σ2 H2 => wipe σ2 vs = wipe σ vs ∧ te σ2 H2 R)
    (mono : ∀ x H' (A B : L2.St → Hp → Prop), (∀ σ2 H2, A σ2 H2 → B σ2 H2) → g x (wipe σ vs) H' A → g x (wipe σ vs) H' B)
    (hd : ∀ H', Same H H' → H' D = some (.lst ((List.range xs.length).map fv)) → Qd H') :
    ∃ W : Nat → Nat → Hp → Prop, (∃ m, W 0 m (upd H D (.lst []))) ∧ ∀ i m H, W i m H → ((Itl K a).stop i H ∧ Qd H) ∨ ((Itl K a).go i H ∧ ∃ Nx : Hp → Prop, (∀ H', Nx H' → ∃ m', m' < m ∧ W (i + 1) m' H') ∧ ∀ x H', (Itl K a).yld i H x H' → g x (wipe σ vs) H' fun σ2 H2 => wipe σ2 vs = wipe σ vs ∧ tYes σ2 H2 fun b H3 =>
        if b = true then te σ2 H3 fun y H4 => ∃ acc, H4 D = some (.lst acc) ∧ acc.length < sizeLine ∧ Nx (upd H4 D (.lst (acc ++ [y]))) else Nx H3) := by
  refine lc_list (K := K) (a := a) (xs := xs) (fun i H' => Same H H' ∧ H' D = some (.lst ((List.range i).map fv))) ⟨same_upd nD, upd_same⟩ (fun i H' _ h => SqL.of (h.1 _ _ ha)) ?_ (fun H' h => hd H' h.1 h.2)
  rintro i x H' hx ⟨s, hD⟩
  have il : i < xs.length := (List.getElem?_eq_some_iff.mp hx).1
  refine mono x H' _ _ ?_ (hs i x H' hx s (lcmQ H D fv i) fun H4 s4 => lcm_step nD s hD (Nat.le_of_lt il) ln s4)
  rintro σ2 H2 ⟨e, h⟩
  refine ⟨e, ?_⟩
  unfold tYes
  exact iteT h
theorem lc_mR {lo : Int} {n : Nat} {g : TG} {te : TE} {vs : List Nat} {σ : L2.St} {H : Hp} {D : Addr} {Qd : Hp → Prop} (fv : Nat → V) (nD : H D = none) (ln : n ≤ 20000)
    (hs : ∀ i H', i < n → Same H H' → ∀ R : VK, (∀ H4, Same H' H4 → R (fv i) H4) → g (.int (lo + i)) (wipe σ vs) H' fun σ2 H2 => wipe σ2 vs = wipe σ vs ∧ te σ2 H2 R)
    (mono : ∀ x H' (A B : L2.St → Hp → Prop), (∀ σ2 H2, A σ2 H2 → B σ2 H2) → g x (wipe σ vs) H' A → g x (wipe σ vs) H' B)
    (hd : ∀ H', Same H H' → H' D = some (.lst ((List.range n).map fv)) → Qd H') :
    ∃ W : Nat → Nat → Hp → Prop, (∃ m, W 0 m (upd H D (.lst []))) ∧ ∀ i m H, W i m H → ((Itr lo n).stop i H ∧ Qd H) ∨ ((Itr lo n).go i H ∧ ∃ Nx : Hp → Prop, (∀ H', Nx H' → ∃ m', m' < m ∧ W (i + 1) m' H') ∧ ∀ x H', (Itr lo n).yld i H x H' → g x (wipe σ vs) H' fun σ2 H2 => wipe σ2 vs = wipe σ vs ∧ tYes σ2 H2 fun b H3 =>
        if b = true then te σ2 H3 fun y H4 => ∃ acc, H4 D = some (.lst acc) ∧ acc.length < sizeLine ∧ Nx (upd H4 D (.lst (acc ++ [y]))) else Nx H3) := by
  refine lc_range (fun i H' => Same H H' ∧ H' D = some (.lst ((List.range i).map fv))) ⟨same_upd nD, upd_same⟩ ?_ (fun H' h => hd H' h.1 h.2)
  rintro i H' il ⟨s, hD⟩
  refine mono _ H' _ _ ?_ (hs i H' il s (lcmQ H D fv i) fun H4 s4 => lcm_step nD s hD (Nat.le_of_lt il) ln s4)
  rintro σ2 H2 ⟨e, h⟩
  refine ⟨e, ?_⟩
  unfold tYes
  exact iteT h
/-- one name -/
theorem gName_mono {j : Nat} {σ : L2.St} : ∀ (x : V) (H' : Hp) (A B : L2.St → Hp → Prop), (∀ σ2 H2, A σ2 H2 → B σ2 H2) → gName j x σ H' A → gName j x σ H' B := fun x H' A B h a => h _ _ a
end Sm

set_option Elab.async false
set_option linter.all false
set_option maxRecDepth 100000
set_option maxHeartbeats 8000000
namespace Sm
open PySem PySem.Spec PyProof.Rows L2
open C8 (pss_cut)
def topS (i : Nat) : Stmt := PySem.Challenge.pw_smallchange_k53_kinds_that_lead.main.body.getD i (.Pass ⟨0, 0, 0, 0⟩)
structure Txt (mg : Str → Option Value) : Prop where
  n_LookupError : mg "LookupError" = none
  n_ValueError : mg "ValueError" = none
  n__law_call : mg "_law_call" = none
  n_abs : mg "abs" = none
  n_all : mg "all" = none
  n_bool : mg "bool" = none
  n_int : mg "int" = none
  n_isinstance : mg "isinstance" = none
  n_len : mg "len" = none
  n_list : mg "list" = none
  n_max : mg "max" = none
  n_range : mg "range" = none
  n_repr : mg "repr" = none
  n_set : mg "set" = none
  n_sorted : mg "sorted" = none
  n_tuple : mg "tuple" = none
theorem get_int {T : List Int} {i : Nat} (h : i < T.length) : (T.map V.int)[i]? = some (.int (T.getD i 0)) := by
  rw [List.getElem?_map, List.getElem?_eq_getElem h, List.getD_eq_getElem?_getD, List.getElem?_eq_getElem h]
  rfl
/-! ### boards in the heap -/
def OffAt (H : Hp) (q : Addr) (o : Of) : Prop := H q = some (.tup (o.ns.map V.int))
/-- the offers of a list, one after another -/
def OffsAt (H : Hp) (qs : List Addr) (L : List Of) : Prop := qs.length = L.length ∧ ∀ (i : Nat) (q : Addr), qs[i]? = some q → ∃ o, L[i]? = some o ∧ OffAt H q o
def BoardAt (H : Hp) (d : Addr) (k : Nat) (L : List Of) : Prop := ∃ (t : Addr) (qs : List Addr), H d = some (.tup [.int (k : Int), .ref t]) ∧ H t = some (.tup (qs.map V.ref)) ∧ OffsAt H qs L
theorem OffsAt.same {H H' : Hp} {qs : List Addr} {L : List Of} (h : OffsAt H qs L) (s : Same H H') : OffsAt H' qs L :=
  ⟨h.1, fun i q e => by obtain ⟨o, h1, h2⟩ := h.2 i q e; exact ⟨o, h1, s _ _ h2⟩⟩
theorem BoardAt.same {H H' : Hp} {d : Addr} {k : Nat} {L : List Of} (h : BoardAt H d k L) (s : Same H H') : BoardAt H' d k L := by
  obtain ⟨t, qs, h1, h2, h3⟩ := h
  exact ⟨t, qs, s _ _ h1, s _ _ h2, h3.same s⟩
theorem OffsAt.fr {H H' : Hp} {a l : Addr} {n : Int} {qs : List Addr} {L : List Of} (h : OffsAt H qs L) (f : Fr a l H H') (D : Deck H a l n) : OffsAt H' qs L :=
  ⟨h.1, fun i q e => by obtain ⟨o, h1, h2⟩ := h.2 i q e; exact ⟨o, h1, f.tup D h2⟩⟩
theorem BoardAt.fr {H H' : Hp} {d a l : Addr} {n : Int} {k : Nat} {L : List Of} (h : BoardAt H d k L) (f : Fr a l H H') (D : Deck H a l n) : BoardAt H' d k L := by
  obtain ⟨t, qs, h1, h2, h3⟩ := h
  exact ⟨t, qs, f.tup D h1, f.tup D h2, h3.fr f D⟩
/-- a list's place rewritten: tuples stay -/
theorem OffsAt.updL {H : Hp} {U : Addr} {xs ys : List V} {qs : List Addr} {L : List Of} (h : OffsAt H qs L) (hU : H U = some (.lst xs)) : OffsAt (upd H U (.lst ys)) qs L :=
  ⟨h.1, fun i q e => by
    obtain ⟨o, h1, h2⟩ := h.2 i q e
    refine ⟨o, h1, ?_⟩
    unfold OffAt
    rw [upd_ne (ne_of h2 hU (by intro q; cases q))]
    exact h2⟩
def sp_l_board (_ : PySem.W.Frag) : Sp := fun vs H Q _ => ∃ (p l : Addr) (n : Int) (k : Nat) (many upto : Int), vs = [.ref p, .int (k : Int), .int many, .int upto] ∧ Deck H p l n ∧ 0 ≤ n ∧ n ≤ 900000 ∧ 2 ≤ k ∧ k ≤ 4 ∧ 0 ≤ many ∧ many ≤ 40 ∧ 1 ≤ upto ∧ upto ≤ 30 ∧
  ∀ H' d L n', Fr p l H H' → Deck H' p l n' → n ≤ n' → n' ≤ n + 200 → BoardAt H' d k L → (∀ o ∈ L, OfOk k o) → (L.length : Int) ≤ 63 → Q (.ref d) H'
section
variable {P : Program} {w : World} {K : PySem.W.Frag} {mg : Str → Option Value} {base : Heap}
abbrev s_l_deck : Stmt := topS 9
abbrev N_l_deck : List Str := ["_law_script", "_law_cell"]
theorem sc_l_deck : FnScope N_l_deck ["_law_script"] (defScope s_l_deck) := ⟨rfl, rfl, rfl, by decide +kernel, rfl, by decide +kernel, by decide +kernel⟩
theorem ok_l_deck (T : Txt mg) (D : Df K mg "_law_deck" s_l_deck ["_law_script"]) : Cal P w K mg base "_law_deck" ["_law_script"] 1 (sp_l_deck K) := by
  refine D.cal sc_l_deck (fun vs H Q E h => ?_) (fun f cdv A outer s H vs Q E hr h => ?_)
  · obtain ⟨a, ns, rfl, _⟩ := h
    rfl
  obtain ⟨a, ns, rfl, hS, hlen, k⟩ := h
  refine ⟨_, (pss_one (ps_ret (pe_lst (pa_cons (pe_lc (own := [("_law_cell", 1)]) (g := gName 1) (tt := tYes) rfl sc_l_deck.nd (pi_list (pe_slice sl_list (pv 0) po_none (po_some pe_int))) (blkOk_by (own := [("_law_cell", 1)]) (N := N_l_deck) (sc := defScope s_l_deck) (by decide +kernel)) (fun _ _ _ _ _ => pg_name (i := 1) sc_l_deck.nd rfl (Or.inl rfl)) (fun _ _ _ _ _ => pts_nil) (fun _ _ _ _ _ => (pe_callB call_abs (by rfl) T.n_abs (by decide +kernel) (pa_cons (pv 1) pa_nil)))) (pa_cons pe_int pa_nil))))), ?_⟩
  refine ⟨_, rfl, _, rfl, a, _, rfl, hS, fun c nc => ?_⟩
  rw [cut63 hlen]
  have s1 := same_upd (o := .lst (ns.map V.int)) nc
  refine ⟨c, rfl, ⟨_, SqL.of upd_same⟩, fun D nD => ?_⟩
  have s2 := s1.trans (same_upd (o := .lst []) nD)
  have hc2 : upd (upd H c (.lst (ns.map V.int))) D (.lst []) c = some (.lst (ns.map V.int)) := same_upd nD _ _ upd_same
  refine lc_list (K := K) (a := c) (xs := ns.map V.int) (fun i H' => Same H H' ∧ H' c = some (.lst (ns.map V.int)) ∧ c ≠ D ∧ H D = none ∧ H' D = some (.lst (((ns.take i).map absI).map V.int)))
    ⟨s2, hc2, ne_of_none upd_same nD, s1.free nD, upd_same⟩ (fun i H' _ h => SqL.of h.2.1) ?_ ?_
  · rintro i x H' hx ⟨sm, hc, ncD, nD0, hD⟩
    rw [List.getElem?_map] at hx
    cases e : ns[i]? with
    | none => rw [e] at hx; cases hx
    | some y =>
      rw [e] at hx
      have ex : x = .int y := (Option.some.inj hx).symm
      subst ex
      refine ⟨rfl, ?_⟩
      unfold tYes
      refine iteT ?_
      refine ⟨_, rfl, _, rfl, _, hD, ?_, ?_⟩
      · rw [List.length_map, List.length_map, List.length_take]
        exact Nat.lt_of_le_of_lt (Nat.min_le_right _ _) (small1000 (by omega))
      · refine ⟨fun b o e => ?_, ?_, ncD, nD0, ?_⟩
        · rw [upd_ne (ne_of_none e nD0)]
          exact sm _ _ e
        · rw [upd_ne ncD]
          exact hc
        · rw [upd_same, List.take_add_one, e, List.map_append, List.map_append]
          rfl
  · rintro H' ⟨sm, hc, ncD, nD0, hD⟩
    refine ⟨(by show 2 ≤ sizeLine; decide), fun p np => ?_⟩
    have s3 := sm.trans (same_upd (o := .lst [.ref D, .int 0]) np)
    refine k _ p D s3 ⟨upd_same, _, (same_upd np) _ _ hD, fun c hc => ?_, ?_⟩
    · obtain ⟨y, _, rfl⟩ := List.mem_map.mp hc
      exact absI_pos y
    · rw [List.length_map, List.length_take]
      omega
abbrev s_l_draw : Stmt := topS 10
abbrev N_l_draw : List Str := ["_law_deck_here", "_law_many", "_law_place", "_law_cell", "_law_mixed"]
theorem sc_l_draw : FnScope N_l_draw ["_law_deck_here", "_law_many"] (defScope s_l_draw) := ⟨rfl, rfl, rfl, by decide +kernel, rfl, by decide +kernel, by decide +kernel⟩
theorem ok_l_draw (T : Txt mg) (D : Df K mg "_law_draw" s_l_draw ["_law_deck_here", "_law_many"]) : Cal P w K mg base "_law_draw" ["_law_deck_here", "_law_many"] 1 (sp_l_draw K) := by
  refine D.cal sc_l_draw (fun vs H Q E h => ?_) (fun f cdv A outer s H vs Q E hr h => ?_)
  · obtain ⟨p, l, n, m, rfl, _⟩ := h
    rfl
  obtain ⟨p, l, n, m, rfl, D, n0, n1, m0, m1, k⟩ := h
  obtain ⟨cells, hl, hc⟩ := D.hl
  have npl : p ≠ l := ne_of D.hp hl deck_ne
  refine ⟨_, (pss_cons (ps_asg (pe_op op_add (pe_ix ix_list (pv 0) pe_int (fun _ _ => rfl)) pe_int) (pg_sub (pv 0) pe_int set_list))
    (pss_cons (ps_set (i := 2) sc_l_draw.nd rfl (Or.inl rfl) (pe_op op_modN (pe_callTy call_int1 (by rfl) T.n_int (by decide +kernel) (pa_cons (pe_ix ix_list (pv 0) pe_int (fun _ _ => rfl)) pa_nil)) (pe_callB (call_max2 rfl) (by rfl) T.n_max (by decide +kernel) (pa_cons pe_int (pa_cons (pe_callB call_len_seq (by rfl) T.n_len (by decide +kernel) (pa_cons (pe_ix ix_list (pv 0) pe_int (fun _ _ => rfl)) pa_nil)) pa_nil)))))
    (pss_cons (ps_set (i := 3) sc_l_draw.nd rfl (Or.inl rfl) (pe_ix ix_list (pe_op op_cat (pe_ix ix_list (pv 0) pe_int (fun _ _ => rfl)) (pe_lst (pa_cons pe_int pa_nil))) (pv 2) (fun _ _ => rfl)))
    (pss_cons (ps_if (pt_cmpR op_ge (pv 3) (pe_op op_pow pe_int pe_int) (nomark _)) (pss_cons (ps_asg (pe_op op_fdivW (pv 3) (pv 1)) (pg_sub (pe_ix ix_list (pv 0) pe_int (fun _ _ => rfl)) (pv 2) set_list))
    (pss_one (ps_ret (pe_op op_modN (pe_callTy call_int1 (by rfl) T.n_int (by decide +kernel) (pa_cons (pv 3) pa_nil)) (pv 1))))) pss_nil)
    (pss_cons (ps_set (i := 4) sc_l_draw.nd rfl (Or.inl rfl) (pe_op op_pow (pe_op op_add (pe_op op_add (pe_op op_modN (pe_callTy call_int1 (by rfl) T.n_int (by decide +kernel) (pa_cons (pv 3) pa_nil)) pe_int) (pe_op op_mul pe_int (pe_ix ix_list (pv 0) pe_int (fun _ _ => rfl)))) pe_int) pe_int))
    (pss_one (ps_ret (pe_op op_modN (pe_callTy call_int1 (by rfl) T.n_int (by decide +kernel) (pa_cons (pe_op op_modN (pe_callTy call_int1 (by rfl) T.n_int (by decide +kernel) (pa_cons (pv 4) pa_nil)) pe_int) pa_nil)) (pv 1))))))))), ?_⟩
  refine ⟨_, rfl, _, _, _, _, rfl, rfl, SqL.of D.hp, atI_nat (j := 1) rfl, _, _, rfl, rfl, _, rfl, _, _, _, _, rfl, rfl, D.hp, rfl, ?_⟩
  generalize hH0 : upd H p (HO.lst (List.set [V.ref l, V.int n] (Int.toNat 1) ((fun i j => V.int (i + j)) n 1))) = H0
  have hH0 : upd H p (.lst [.ref l, .int (n + 1)]) = H0 := hH0
  have f0 : Fr p l H H0 := fun b o h1 _ h => by rw [← hH0, upd_ne h1]; exact h
  have hl0 : H0 l = some (.lst (cells.map V.int)) := by rw [← hH0, upd_ne npl.symm]; exact hl
  have hp0 : H0 p = some (.lst [.ref l, .int (n + 1)]) := by rw [← hH0, upd_same]
  -- place
  have big : (if ((cells.map V.int).length : Int) > 1 then ((cells.map V.int).length : Int) else 1) = max 1 (cells.length : Int) := by
    rw [List.length_map]
    split <;> omega
  have fm : (n + 1).fmod (max 1 (cells.length : Int)) = (n + 1) % (max 1 (cells.length : Int)) := fmod_pos (by omega)
  have q0 : 0 ≤ (n + 1).fmod (max 1 (cells.length : Int)) := by rw [fm]; exact Int.emod_nonneg _ (by omega)
  have q1 : (n + 1).fmod (max 1 (cells.length : Int)) < max 1 (cells.length : Int) := by rw [fm]; exact Int.emod_lt_of_pos _ (by omega)
  refine ⟨_, rfl, _, _, _, _, rfl, rfl, SqL.of hp0, atI_nat (j := 1) rfl, .inl ⟨_, rfl, _, rfl, _, _, _, _, rfl, rfl, SqL.of hp0, atI_nat (j := 0) rfl, _, _, rfl, .inl (SqL.of hl0), _, _, rfl, _, _, rfl, rfl, (by rw [big]; omega), ?_⟩⟩
  have z : ∀ B : Int → Prop, B ((n + 1).fmod (max 1 (cells.length : Int))) → B ((n + 1).fmod (if ((cells.map V.int).length : Int) > 1 then ((cells.map V.int).length : Int) else 1)) := fun B h => by rw [big]; exact h
  refine z (fun y => gName 2 (.int y) _ _ _) ?_
  clear z
  -- cell
  refine ⟨_, rfl, _, _, _, _, rfl, rfl, SqL.of hp0, atI_nat (j := 0) rfl, (by show 1 ≤ sizeLine; decide), fun t nt => ?_⟩
  have st := same_upd (o := .lst [.int 0]) nt
  have hp1 := st _ _ hp0
  have hl1 := st _ _ hl0
  have f1 := f0.trans (Same.fr (p := p) (l := l) st)
  obtain ⟨hc, h63⟩ := hc
  have ln : (cells.map V.int).length = cells.length := List.length_map ..
  refine ⟨_, _, _, _, rfl, rfl, hl1, upd_same, (by rw [ln]; exact Nat.le_trans (by omega : cells.length + 1 ≤ 64) (by decide)), fun t2 nt2 => ?_⟩
  have st2 := same_upd (o := .lst (cells.map V.int ++ [.int 0])) nt2
  have hp2 := st2 _ _ hp1
  have hl2 := st2 _ _ hl1
  have f2 := f1.trans (Same.fr (p := p) (l := l) st2)
  have ht2 : upd (upd H0 t (.lst [.int 0])) t2 (.lst (cells.map V.int ++ [.int 0])) t2 = some (.lst ((cells ++ [0]).map V.int)) := by rw [upd_same, List.map_append]; rfl
  generalize upd (upd H0 t (HO.lst [V.int 0])) t2 (HO.lst (cells.map V.int ++ [V.int 0])) = H2 at hp2 hl2 f2 ht2 ⊢
  have q2 : ((n + 1).fmod (max 1 (cells.length : Int))).toNat < (cells ++ [0]).length := by rw [List.length_append, List.length_singleton]; omega
  have q3 : (n + 1).fmod (max 1 (cells.length : Int)) = (((n + 1).fmod (max 1 (cells.length : Int))).toNat : Int) := by omega
  generalize (n + 1).fmod (max 1 (cells.length : Int)) = pl at q0 q1 q2 q3 ⊢
  have q4 : ((cells ++ [0]).map V.int)[pl.toNat]? = some (.int (cells ++ [0])[pl.toNat]) := by
    rw [List.getElem?_map, List.getElem?_eq_getElem q2]
    rfl
  have c0 : 0 ≤ (cells ++ [0])[pl.toNat] := by
    rcases List.mem_append.mp (List.getElem_mem q2) with q | q
    · exact hc _ q
    · rw [List.mem_singleton.mp q]
      decide
  have inside : 1000000000000000000 ≤ (cells ++ [0])[pl.toNat] → pl.toNat < cells.length := by
    intro q
    by_cases e : pl.toNat < cells.length
    · exact e
    · rw [List.getElem_append_right (by omega)] at q
      simp at q
  generalize (cells ++ [0])[pl.toNat] = c at q4 c0 inside ⊢
  refine ⟨_, rfl, _, _, _, _, rfl, rfl, SqL.of ht2, at_of q3 q4, ?_⟩
  refine ⟨_, rfl, _, _, rfl, rfl, ⟨by decide, by decide, by decide⟩, _, _, rfl, rfl, _, rfl, ite3 (fun e => ?_) (fun e => ?_)⟩
  · have e : 1000000000000000000 ≤ c := e
    have p1 := inside e
    have ix : ixN (cells.map V.int).length pl = some pl.toNat := by
      unfold ixN
      rw [if_pos q0, if_pos (by omega)]
    refine ⟨_, rfl, _, rfl, _, _, rfl, rfl, div_draw m0 m1, _, rfl, _, _, _, _, rfl, rfl, SqL.of hp2, atI_nat (j := 0) rfl, _, rfl, _, _, _, _, rfl, rfl, hl2, ix, ?_⟩
    refine ⟨_, rfl, .inl ⟨_, rfl, _, rfl, _, _, rfl, rfl, (by omega), ?_⟩⟩
    have fm : c.fmod m = c % m := fmod_pos m0
    refine k _ _ (by rw [fm]; exact Int.emod_nonneg _ (by omega)) (by rw [fm]; exact Int.emod_lt_of_pos _ m0) (f2.trans fun b o _ h2 h => by rw [upd_ne h2]; exact h) ⟨by rw [upd_ne npl]; exact hp2, cells.set pl.toNat (c / m), by rw [upd_same, List.map_set], fun y hy => ?_, by rw [List.length_set]; exact h63⟩
    rcases List.mem_or_eq_of_mem_set hy with q | q
    · exact hc y q
    · rw [q]; exact Int.ediv_nonneg c0 (by omega)
  · refine ⟨_, rfl, .inl ⟨_, rfl, _, _, rfl, rfl, (show (2147483587 : Int) ≠ 0 by decide), _, rfl, _, _, _, _, rfl, rfl, SqL.of hp2, atI_nat (j := 1) rfl, _, _, rfl, rfl, .inl ⟨by decide, by decide⟩, _, _, rfl, rfl, _, _, rfl, rfl, ?_⟩⟩
    have fm : c.fmod 2147483587 = c % 2147483587 := fmod_pos (by decide)
    have h0 := Int.emod_nonneg c (show (2147483587 : Int) ≠ 0 by decide)
    have h1 := Int.emod_lt_of_pos c (show (0 : Int) < 2147483587 by decide)
    refine ⟨_, _, rfl, rfl, ⟨by decide, by decide, by rw [fm]; omega⟩, ?_⟩
    refine ⟨_, rfl, .inl ⟨_, rfl, _, _, rfl, rfl, (show (2147483647 : Int) ≠ 0 by decide), .inl ⟨_, rfl, _, rfl, _, _, rfl, rfl, (by omega), ?_⟩⟩⟩
    refine k _ _ ?_ ?_ f2 ⟨hp2, cells, hl2, hc, h63⟩
    · rw [fmod_pos m0]; exact Int.emod_nonneg _ (by omega)
    · rw [fmod_pos m0]; exact Int.emod_lt_of_pos _ m0
abbrev s_l_one : Stmt := topS 11
abbrev N_l_one : List Str := ["_law_deck_here", "_law_items"]
theorem sc_l_one : FnScope N_l_one ["_law_deck_here", "_law_items"] (defScope s_l_one) := ⟨rfl, rfl, rfl, by decide +kernel, rfl, by decide +kernel, by decide +kernel⟩
theorem ok_l_one (T : Txt mg) (D : Df K mg "_law_one" s_l_one ["_law_deck_here", "_law_items"]) (C_l_draw : Cal P w K mg base "_law_draw" ["_law_deck_here", "_law_many"] 1 (sp_l_draw K)) : Cal P w K mg base "_law_one" ["_law_deck_here", "_law_items"] 2 (sp_l_one K) := by
  obtain ⟨f_l_draw, fd_l_draw, G_l_draw, m_l_draw, k_l_draw, b_l_draw⟩ := C_l_draw
  refine D.cal sc_l_one (fun vs H Q E h => ?_) (fun f cdv A outer s H vs Q E hr h => ?_)
  · obtain ⟨p, l, b, n, xs, rfl, _⟩ := h
    rfl
  obtain ⟨p, l, b, n, xs, rfl, D, n0, n1, hb, bp, bl, x0, x1, k⟩ := h
  refine ⟨_, (pss_one (ps_ret (pe_ix ix_list (pv 1) (pe_call G_l_draw (hr.mono (by decide)) (by rfl) m_l_draw k_l_draw b_l_draw .nil pass0 (pa_cons (pv 0) (pa_cons (pe_callB call_len_seq (by rfl) T.n_len (by decide +kernel) (pa_cons (pv 1) pa_nil)) pa_nil))) (fun _ _ => rfl)))), ?_⟩
  refine ⟨_, rfl, _, rfl, _, rfl, _, _, rfl, .inl (SqL.of hb), p, l, n, _, rfl, D, n0, n1, (by omega), (by omega), fun r H' r0 r1 f D' => ?_⟩
  have q : r.toNat < xs.length := by omega
  refine ⟨_, _, _, _, rfl, rfl, SqL.of (f b _ bp bl hb), at_of (j := r.toNat) (by omega) (List.getElem?_eq_getElem q), ?_⟩
  exact k _ H' (List.getElem_mem q) f D'
end
end Sm

set_option Elab.async false
set_option linter.all false
set_option maxRecDepth 100000
set_option maxHeartbeats 8000000
namespace Sm
open PySem PySem.Spec PyProof.Rows L2
open C8 (pss_cut tCut)
def ofNs : List Int → Of
  | [a, x, b, y] => ⟨a.toNat, x, b.toNat, y⟩
  | _ => ⟨0, 0, 0, 0⟩
theorem ofNs_ns (o : Of) : ofNs o.ns = o := by
  cases o
  rfl
theorem offs_of {H : Hp} (L' : List (Addr × List Int)) (h : ∀ p ∈ L', ∃ o : Of, p.2 = o.ns ∧ OffAt H p.1 o) : OffsAt H (L'.map (·.1)) (L'.map fun p => ofNs p.2) := by
  refine ⟨by rw [List.length_map, List.length_map], fun i q e => ?_⟩
  rw [List.getElem?_map] at e
  cases z : L'[i]? with
  | none => rw [z] at e; cases e
  | some p =>
    rw [z] at e
    have e : p.1 = q := Option.some.inj e
    obtain ⟨o, h1, h2⟩ := h p (List.mem_of_getElem? z)
    refine ⟨o, ?_, by rw [← e]; exact h2⟩
    rw [List.getElem?_map, z]
    show some (ofNs p.2) = some o
    rw [h1, ofNs_ns]
theorem bd_ns {k : Nat} {o : Of} (h : OfOk k o) (k4 : k ≤ 4) : o.ns.length = 4 ∧ TS.Bd 100 o.ns := by
  refine ⟨rfl, fun m hm => ?_⟩
  have h1 := h.a
  have h2 := h.b
  have h3 := h.x0
  have h4 := h.x1
  have h5 := h.y0
  have h6 := h.y1
  simp only [Of.ns, List.mem_cons, List.not_mem_nil, or_false] at hm
  rcases hm with rfl | rfl | rfl | rfl <;> omega
/-- tuple(sorted(set(..))) of offers, told for the list that stands at U -/
theorem set_board {K : PySem.W.Frag} {P : Program} {w : World} {H : Hp} {U : Addr} {ks : List (Addr × Of)} {k : Nat} (hU : H U = some (.lst (ks.map fun e => V.ref e.1))) (hk : ∀ e ∈ ks, OffAt H e.1 e.2 ∧ OfOk k e.2) (k4 : k ≤ 4) (h64 : ks.length < 64)
    {Q : VK} (q : ∀ H' t (qs : List Addr) (L : List Of), Same H H' → H' t = some (.tup (qs.map V.ref)) → OffsAt H' qs L → (∀ o ∈ L, OfOk k o) → L.length < 64 → Q (.ref t) H') :
    rSetOfT K P w [.ref U] H fun x H1 => rSortedT K P w [x] H1 fun y H2 => ∃ (q : Addr) (xs : List V), [y] = [V.ref q] ∧ ((SqL K H2 q xs ∧ ∀ t, H2 t = none → Q (.ref t) (upd H2 t (.tup xs))) ∨ SqT K H2 q xs ∧ Q (.ref q) H2) := by
  have lm : (ks.map fun e => (e.1, e.2.ns)).map (fun p : Addr × List Int => V.ref p.1) = ks.map fun e => V.ref e.1 := by
    rw [List.map_map]
    rfl
  refine ⟨U, ks.map fun e => (e.1, e.2.ns), rfl, ?_, fun p hp => ?_, by rw [List.length_map]; exact h64, fun a L na hL _ => ?_⟩
  · rw [lm]
    exact SqL.of hU
  · obtain ⟨e, he, rfl⟩ := List.mem_map.mp hp
    exact SqT.of (hk e he).1
  have sa := same_upd (o := SetTO P w a L) na
  have own : ∀ p ∈ L, ∃ e ∈ ks, p = (e.1, e.2.ns) := fun p hp => by
    obtain ⟨e, he, h⟩ := List.mem_map.mp (hL p hp)
    exact ⟨e, he, h.symm⟩
  refine ⟨a, L, 4, 100, rfl, upd_same, fun p hp => ?_, by decide, fun p hp => ?_, fun L' r pm nd l64 pw nr => ?_⟩
  · obtain ⟨e, he, rfl⟩ := own p hp
    exact SqT.of (sa _ _ (hk e he).1)
  · obtain ⟨e, he, rfl⟩ := own p hp
    exact bd_ns (hk e he).2 k4
  have sr := same_upd (o := .lst (L'.map fun q => V.ref q.1)) nr
  refine ⟨r, _, rfl, .inl ⟨SqL.of upd_same, fun t nt => ?_⟩⟩
  have st := same_upd (o := .tup (L'.map fun q => V.ref q.1)) nt
  have s := sa.trans (sr.trans st)
  refine q _ t (L'.map (·.1)) (L'.map fun p => ofNs p.2) s (by rw [upd_same, List.map_map]; rfl) (offs_of L' fun p hp => ?_) (fun o ho => ?_) (by rw [List.length_map]; exact l64)
  · obtain ⟨e, he, rfl⟩ := own p (pm.mem_iff.mp hp)
    exact ⟨e.2, rfl, s _ _ (hk e he).1⟩
  · obtain ⟨p, hp, rfl⟩ := List.mem_map.mp ho
    obtain ⟨e, he, rfl⟩ := own p (pm.mem_iff.mp hp)
    show OfOk k (ofNs e.2.ns)
    rw [ofNs_ns]
    exact (hk e he).2
/-- the offers found so far -/
def BW (p l U : Addr) (k : Nat) (upto top n : Int) (H : Hp) (i : Nat) (σ : L2.St) (H' : Hp) : Prop := ∃ (n' : Int) (ks : List (Addr × Of)) (v5 v6 v7 : Option V), σ = [some (.ref p), some (.int (k : Int)), some (.int upto), some (.int top), some (.ref U), v5, v6, v7] ∧ Deck H' p l n' ∧ n ≤ n' ∧ n' ≤ n + 1 + 4 * (i : Int) ∧ Fr p l H H' ∧
      H' U = some (.lst (ks.map fun e => V.ref e.1)) ∧ ks.length = i ∧ ∀ e ∈ ks, OffAt H' e.1 e.2 ∧ OfOk k e.2
theorem BW.more {p l U t : Addr} {k i : Nat} {upto top n n' : Int} {H H7 : Hp} {ks : List (Addr × Of)} {o : Of} {v5 v6 v7 : Option V} (hn : ∀ b o, H b = some o → b ≠ U) (Up : U ≠ p) (Ul : U ≠ l) (D : Deck H7 p l n') (n0 : n ≤ n') (n1 : n' ≤ n + 5 + 4 * (i : Int)) (f : Fr p l H H7)
    (hU : H7 U = some (.lst (ks.map fun e => V.ref e.1))) (kl : ks.length = i) (old : ∀ e ∈ ks, OffAt H7 e.1 e.2 ∧ OfOk k e.2) (ht : OffAt H7 t o) (ho : OfOk k o) :
    BW p l U k upto top n H (i + 1) [some (.ref p), some (.int (k : Int)), some (.int upto), some (.int top), some (.ref U), v5, v6, v7] (upd H7 U (.lst ((ks.map fun e => V.ref e.1) ++ [.ref t]))) := by
  have neU : ∀ b xs, H7 b = some (.tup xs) → b ≠ U := fun b xs hb => ne_of hb hU (by intro q; cases q)
  refine ⟨n', ks ++ [(t, o)], v5, v6, v7, rfl, ⟨by rw [upd_ne Up.symm]; exact D.hp, ?_⟩, n0, by omega, ?_, ?_, ?_, ?_⟩
  · obtain ⟨cells, q1, q2⟩ := D.hl
    exact ⟨cells, by rw [upd_ne Ul.symm]; exact q1, q2⟩
  · intro b o h1 h2 hb
    rw [upd_ne (hn b o hb)]
    exact f b o h1 h2 hb
  · rw [upd_same, List.map_append]
    rfl
  · rw [List.length_append, List.length_singleton, kl]
  · intro e he
    rcases List.mem_append.mp he with he | he
    · refine ⟨?_, (old e he).2⟩
      unfold OffAt
      rw [upd_ne (neU _ _ (old e he).1)]
      exact (old e he).1
    · rw [List.mem_singleton.mp he]
      refine ⟨?_, ho⟩
      unfold OffAt
      rw [upd_ne (neU _ _ ht)]
      exact ht
section
variable {P : Program} {w : World} {K : PySem.W.Frag} {mg : Str → Option Value} {base : Heap}
abbrev s_l_board : Stmt := topS 12
abbrev N_l_board : List Str := ["_law_deck_here", "_law_kinds", "_law_many", "_law_upto", "_law_found", "_law_turn", "_law_a", "_law_b"]
theorem sc_l_board : FnScope N_l_board ["_law_deck_here", "_law_kinds", "_law_many", "_law_upto"] (defScope s_l_board) := ⟨rfl, rfl, rfl, by decide +kernel, rfl, by decide +kernel, by decide +kernel⟩
theorem ok_l_board (T : Txt mg) (D : Df K mg "_law_board" s_l_board ["_law_deck_here", "_law_kinds", "_law_many", "_law_upto"]) (C_l_draw : Cal P w K mg base "_law_draw" ["_law_deck_here", "_law_many"] 1 (sp_l_draw K)) : Cal P w K mg base "_law_board" ["_law_deck_here", "_law_kinds", "_law_many", "_law_upto"] 2 (sp_l_board K) := by
  obtain ⟨f_l_draw, fd_l_draw, G_l_draw, m_l_draw, k_l_draw, b_l_draw⟩ := C_l_draw
  refine D.cal sc_l_board (fun vs H Q E h => ?_) (fun f cdv A outer s H vs Q E hr h => ?_)
  · obtain ⟨p, l, n, k, upto, top, rfl, _⟩ := h
    rfl
  obtain ⟨p, l, n, k, upto, top, rfl, D0, n0, n1, k2, k4, u0, u1, t0, t1, kk⟩ := h
  refine ⟨_, (pss_cons (ps_set (i := 4) sc_l_board.nd rfl (Or.inl rfl) (pe_lst pa_nil))
    (pss_cons (ps_for PassesOwn.never rfl (pi_range1 (by rfl) T.n_range (pa_cons (pv 2) pa_nil)) (pg_name (i := 5) sc_l_board.nd rfl (Or.inl rfl))
      (pss_cons (ps_set (i := 6) sc_l_board.nd rfl (Or.inl rfl) (pe_call G_l_draw (hr.mono (by decide)) (by rfl) m_l_draw k_l_draw b_l_draw .nil pass0 (pa_cons (pv 0) (pa_cons (pv 1) pa_nil))))
    (pss_cons (ps_set (i := 7) sc_l_board.nd rfl (Or.inl rfl) (pe_op op_modN (pe_callTy call_int1 (by rfl) T.n_int (by decide +kernel) (pa_cons (pe_op op_add (pe_op op_add (pv 6) pe_int) (pe_call G_l_draw (hr.mono (by decide)) (by rfl) m_l_draw k_l_draw b_l_draw .nil pass0 (pa_cons (pv 0) (pa_cons (pe_op op_sub (pv 1) pe_int) pa_nil)))) pa_nil)) (pv 1)))
    (pss_one (ps_expr (pe_bm PySem.F.plainAttrs_list PySem.F.slot_list_append PySem.F.type_list_append mt_append (pv 4) (pa_cons (pe_tup (pa_cons (pv 6) (pa_cons (pe_op op_add pe_int (pe_call G_l_draw (hr.mono (by decide)) (by rfl) m_l_draw k_l_draw b_l_draw .nil pass0 (pa_cons (pv 0) (pa_cons (pv 3) pa_nil)))) (pa_cons (pv 7) (pa_cons (pe_call G_l_draw (hr.mono (by decide)) (by rfl) m_l_draw k_l_draw b_l_draw .nil pass0 (pa_cons (pv 0) (pa_cons (pe_op op_add (pv 3) pe_int) pa_nil))) pa_nil))))) pa_nil)))))))
    (pss_one (ps_ret (pe_tup (pa_cons (pv 1) (pa_cons (pe_callTy call_tuple_of (by rfl) T.n_tuple (by decide +kernel) (pa_cons (pe_callB (cr_sortedT rfl) (by rfl) T.n_sorted (by decide +kernel) (pa_cons (pe_callTy (cr_setOfT rfl hr.units) (by rfl) T.n_set (by decide +kernel) (pa_cons (pv 4) pa_nil)) pa_nil)) pa_nil)) pa_nil))))))), ?_⟩
  refine ⟨(by show 0 ≤ sizeLine; decide), fun U nU => ?_⟩
  obtain ⟨Up, Ul⟩ := D0.lne nU
  have sU := same_upd (o := .lst []) nU
  refine ⟨_, rfl, upto, rfl, (by omega), (by omega), ?_⟩
  have hn : ∀ b o, H b = some o → b ≠ U := fun b o hb => ne_of_none hb nU
  refine for_range (lo := 0) (n := _) (BW p l U k upto top n H)
    ⟨n, [], none, none, none, rfl, D0.same sU, by omega, by omega, Same.fr sU, upd_same, rfl, fun e he => nomatch he⟩ ?_ ?_
  · rintro i σ H2 hi ⟨n', ks, v5, v6, v7, rfl, D2, m0, m1, f2, hU, kl, hk⟩
    have hi : i < upto.toNat := hi
    have hi : i ≤ 40 := by omega
    refine ⟨_, rfl, _, rfl, p, l, n', _, rfl, D2, by omega, by omega, by omega, by omega, fun ra H3 a0 a1 f3 D3 => ?_⟩
    refine ⟨_, rfl, _, _, rfl, rfl, _, rfl, _, rfl, _, _, rfl, rfl, p, l, n' + 1, _, rfl, D3, by omega, by omega, by omega, by omega, fun rb H4 b0 b1 f4 D4 => ?_⟩
    refine ⟨_, _, rfl, rfl, .inl ⟨_, rfl, _, rfl, _, _, rfl, rfl, (show (k : Int) ≠ 0 by omega), ?_⟩⟩
    have fm : (ra + 1 + rb).fmod (k : Int) = (ra + 1 + rb) % (k : Int) := fmod_pos (by omega)
    have c0 : 0 ≤ (ra + 1 + rb).fmod (k : Int) := by rw [fm]; exact Int.emod_nonneg _ (by omega)
    have c1 : (ra + 1 + rb).fmod (k : Int) < (k : Int) := by rw [fm]; exact Int.emod_lt_of_pos _ (by omega)
    have cn : (ra + 1 + rb).fmod (k : Int) ≠ ra := by
      rw [fm]
      obtain rfl | rfl | rfl : k = 2 ∨ k = 3 ∨ k = 4 := by omega
      · show (ra + 1 + rb) % 2 ≠ ra
        have b1 : rb < 2 - 1 := b1
        have a1 : ra < 2 := a1
        omega
      · show (ra + 1 + rb) % 3 ≠ ra
        have b1 : rb < 3 - 1 := b1
        have a1 : ra < 3 := a1
        omega
      · show (ra + 1 + rb) % 4 ≠ ra
        have b1 : rb < 4 - 1 := b1
        have a1 : ra < 4 := a1
        omega
    have hU4 := f4 U _ Up Ul (f3 U _ Up Ul hU)
    refine ⟨_, rfl, .inl ⟨rfl, _, SqL.of hU4⟩, ?_⟩
    refine ⟨_, rfl, _, rfl, _, rfl, p, l, n' + 1 + 1, _, rfl, D4, by omega, by omega, by omega, by omega, fun rx H5 x0 x1 f5 D5 => ?_⟩
    refine ⟨_, _, rfl, rfl, _, rfl, _, rfl, _, rfl, _, _, rfl, rfl, p, l, n' + 1 + 1 + 1, _, rfl, D5, by omega, by omega, by omega, by omega, fun ry H6 y0 y1 f6 D6 => ?_⟩
    refine ⟨(by show 4 ≤ sizeLine; decide), fun t nt => ?_⟩
    have hU6 := f6 U _ Up Ul (f5 U _ Up Ul hU4)
    have ft := f3.trans (f4.trans (f5.trans f6))
    have st := same_upd (o := .tup [.int ra, .int (1 + rx), .int ((ra + 1 + rb).fmod (k : Int)), .int ry]) nt
    refine ⟨U, _, _, rfl, rfl, st _ _ hU6, ?_, ?_⟩
    · rw [List.length_map, kl]
      exact Nat.lt_of_le_of_lt (show i ≤ 40 by omega) (by decide)
    · refine BW.more (n' := n' + 1 + 1 + 1 + 1) (o := ⟨ra.toNat, 1 + rx, ((ra + 1 + rb).fmod (k : Int)).toNat, ry⟩) hn Up Ul (D6.same st) (by omega) (by omega) (f2.trans (ft.trans (Same.fr st))) (st _ _ hU6) kl (fun e he => ?_) ?_ ?_
      · exact ⟨st _ _ (ft.tup D2 (hk e he).1), (hk e he).2⟩
      · show upd H6 t _ t = some (.tup [.int (ra.toNat : Int), .int (1 + rx), .int (((ra + 1 + rb).fmod (k : Int)).toNat : Int), .int ry])
        rw [Int.toNat_of_nonneg a0, Int.toNat_of_nonneg c0]
        exact upd_same
      · exact ⟨by show ra.toNat < k; omega, by show Int.toNat _ < k; omega, by show ra.toNat ≠ Int.toNat _; omega, by show 1 ≤ 1 + rx; omega, by show 1 + rx ≤ 30; omega, y0, by show ry ≤ 30; omega⟩
  · rintro σ H2 ⟨n', ks, v5, v6, v7, rfl, D2, m0, m1, f2, hU, kl, hk⟩
    have ku : (ks.length : Int) ≤ 40 := by rw [kl]; show ((upto.toNat : Nat) : Int) ≤ 40; omega
    refine ⟨_, rfl, _, rfl, ?_⟩
    refine set_board (K := K) (P := P) (w := w) (Q := fun v H1 => [V.int (k : Int), v].length ≤ sizeLine ∧ ∀ p, H1 p = none → Q (.ref p) (upd H1 p (.tup [.int (k : Int), v]))) hU hk k4 (by omega) fun H3 t qs L s3 ht hL ok l64 => ⟨(by show 2 ≤ sizeLine; decide), fun d nd => ?_⟩
    have sd := same_upd (o := .tup [.int (k : Int), .ref t]) nd
    exact kk _ d L n' (f2.trans (Same.fr (s3.trans sd))) ((D2.same s3).same sd) (by omega) (by omega) ⟨t, qs, upd_same, sd _ _ ht, hL.same sd⟩ ok (by omega)
end
end Sm

set_option Elab.async false
set_option linter.all false
set_option maxRecDepth 100000
set_option maxHeartbeats 8000000
namespace Sm
open PySem PySem.Spec PyProof.Rows L2
open C8 (pss_cut tCut)
/-- an int within bounds -/
def inI : PyData → Int → Int → Bool
  | .int i, lo, hi => decide (lo ≤ i) && decide (i ≤ hi)
  | _, _, _ => false
def isW : PyData → Bool
  | .int _ => true
  | _ => false
theorem of_int (d : PyData) : isOf "int" d = (match d with | .int _ => true | .bool _ => true | _ => false) := by
  cases d <;> simp [isOf, isT, tyN]
theorem of_bool (d : PyData) : isOf "bool" d = (match d with | .bool _ => true | _ => false) := by
  cases d <;> simp [isOf, isT, tyN]
theorem chain_in {i lo hi : Int} {σ : L2.St} {H : Hp} {Q : VK} (h0 : σ[0]? = some (some (.int i))) (h1 : σ[1]? = some (some (.int lo))) (h2 : σ[2]? = some (some (.int hi))) (h : Q (.bl (decide (lo ≤ i) && decide (i ≤ hi))) H) :
    tChain (rI0 fun i j => V.bl (decide (i ≤ j))) (rI0 fun i j => V.bl (decide (i ≤ j))) (tVar 1) (tVar 0) (tVar 2) σ H Q := by
  refine ⟨_, h1, _, h0, _, _, rfl, rfl, _, rfl, ?_⟩
  by_cases c : lo ≤ i
  · rw [decide_eq_true c] at h ⊢
    exact iteT ⟨_, h2, _, _, rfl, rfl, h⟩
  · rw [decide_eq_false c] at h ⊢
    exact iteF h
def sp_is_whole (K : PySem.W.Frag) : Sp := fun vs H Q _ => ∃ (v : V) (d : PyData), vs = [v] ∧ Dq K H v d ∧ Q (.bl (isW d)) H
def sp_is_within (K : PySem.W.Frag) : Sp := fun vs H Q _ => ∃ (v : V) (d : PyData) (lo hi : Int), vs = [v, .int lo, .int hi] ∧ Dq K H v d ∧ Q (.bl (inI d lo hi)) H
/-- data that is soon shown -/
structure Sml (k n : Nat) (d : PyData) : Prop where
  sh : PyData.showable d = true
  dep : d.depth ≤ k
  len : d.shown.length ≤ n
/-- a value that stands on what is new since H -/
def DqN (K : PySem.W.Frag) (H H' : Hp) (x : V) (d : PyData) : Prop := ∀ H'' : Hp, (∀ b o, H b = none → H' b = some o → H'' b = some o) → Dq K H'' x d
theorem same_upd2 {H : Hp} {p : Addr} {o o' : HO} (h : H p = none) : Same H (upd (upd H p o) p o') := fun b x e => by
  rw [upd_ne (ne_of_none e h), upd_ne (ne_of_none e h)]
  exact e
section
variable {P : Program} {w : World} {K : PySem.W.Frag} {mg : Str → Option Value} {base : Heap}
abbrev s_is_whole : Stmt := topS 1
abbrev N_is_whole : List Str := ["value"]
theorem sc_is_whole : FnScope N_is_whole ["value"] (defScope s_is_whole) := ⟨rfl, rfl, rfl, by decide +kernel, rfl, by decide +kernel, by decide +kernel⟩
theorem ok_is_whole (T : Txt mg) (D : Df K mg "is_whole" s_is_whole ["value"]) : Cal P w K mg base "is_whole" ["value"] 1 (sp_is_whole K) := by
  refine D.cal sc_is_whole (fun vs H Q E h => ?_) (fun f cdv A outer s H vs Q E hr h => ?_)
  · obtain ⟨v, d, rfl, _⟩ := h
    rfl
  obtain ⟨v, d, rfl, hd, k⟩ := h
  refine ⟨_, (pss_one (ps_ret (pe_and (pe_callB call_isQ (by rfl) T.n_isinstance (by decide +kernel) (pa_cons (pv 0) (pa_cons (pe_bltn (v := .ty "int") (by rfl) T.n_int (by decide +kernel) rfl) pa_nil))) (pe_one (pe_not (pe_callB call_isQ (by rfl) T.n_isinstance (by decide +kernel) (pa_cons (pv 0) (pa_cons (pe_bltn (v := .ty "bool") (by rfl) T.n_bool (by decide +kernel) rfl) pa_nil)))))))), ?_⟩
  refine ⟨_, rfl, v, d, "int", rfl, hd, .inl rfl, _, rfl, ?_⟩
  rw [of_int]
  cases hd with
  | non => exact iteF k
  | bl b => exact iteT ⟨_, rfl, _, .bool b, "bool", rfl, .bl b, .inr (.inl rfl), _, rfl, by rw [of_bool]; exact k⟩
  | int i => exact iteT ⟨_, rfl, _, .int i, "bool", rfl, .int i, .inr (.inl rfl), _, rfl, by rw [of_bool]; exact k⟩
  | str x => exact iteF k
  | lst e1 e2 e3 => exact iteF k
  | tup e1 e2 => exact iteF k
  | dic kvs e1 => exact iteF k
abbrev s_is_within : Stmt := topS 2
abbrev N_is_within : List Str := ["value", "low", "high"]
theorem sc_is_within : FnScope N_is_within ["value", "low", "high"] (defScope s_is_within) := ⟨rfl, rfl, rfl, by decide +kernel, rfl, by decide +kernel, by decide +kernel⟩
theorem ok_is_within (T : Txt mg) (D : Df K mg "is_within" s_is_within ["value", "low", "high"]) (C_is_whole : Cal P w K mg base "is_whole" ["value"] 1 (sp_is_whole K)) : Cal P w K mg base "is_within" ["value", "low", "high"] 2 (sp_is_within K) := by
  obtain ⟨f_is_whole, fd_is_whole, G_is_whole, m_is_whole, k_is_whole, b_is_whole⟩ := C_is_whole
  refine D.cal sc_is_within (fun vs H Q E h => ?_) (fun f cdv A outer s H vs Q E hr h => ?_)
  · obtain ⟨v, d, lo, hi, rfl, _⟩ := h
    rfl
  obtain ⟨v, d, lo, hi, rfl, hd, k⟩ := h
  refine ⟨_, (pss_one (ps_ret (pe_and (pe_call G_is_whole (hr.mono (by decide)) (by rfl) m_is_whole k_is_whole b_is_whole .nil pass0 (pa_cons (pv 0) pa_nil)) (pe_one (pe_chain op_le op_le (pv 1) (pv 0) (pv 2)))))), ?_⟩
  refine ⟨_, rfl, v, d, rfl, hd, _, rfl, ?_⟩
  cases hd with
  | int i => exact iteT (chain_in rfl rfl rfl k)
  | non => exact iteF k
  | bl b => exact iteF k
  | str x => exact iteF k
  | lst e1 e2 e3 => exact iteF k
  | tup e1 e2 => exact iteF k
  | dic kvs e1 => exact iteF k
end
end Sm

set_option Elab.async false
set_option linter.all false
set_option maxRecDepth 100000
set_option maxHeartbeats 8000000
namespace Sm
open PySem PySem.Spec PyProof.Rows L2
open C8 (pss_cut tCut)
/-- a dict of numbers, each with True -/
def kvOf (F : List Nat) : List (Key × V) := F.map fun (c : Nat) => (Sum.inl (c : Int), V.bl true)
theorem val_kv (c : Nat) : ∀ F : List Nat, (valV (kvOf F) (Sum.inl (c : Int))).isSome = decide (c ∈ F)
  | [] => rfl
  | d :: F => by
    have ih := val_kv c F
    by_cases e : d = c
    · subst e
      show (valV ((Sum.inl (d : Int), V.bl true) :: kvOf F) _).isSome = _
      rw [valV_pos rfl]
      simp
    · show (valV ((Sum.inl (d : Int), V.bl true) :: kvOf F) _).isSome = _
      rw [valV_neg (fun q => e (Int.ofNat.inj (Sum.inl.inj q))), ih]
      simp [Ne.symm e]
theorem put_kv (c : Nat) (F : List Nat) : putK (kvOf F) (Sum.inl (c : Int)) (V.bl true) = kvOf (if c ∈ F then F else F ++ [c]) := by
  unfold putK
  rw [valV_any, val_kv]
  by_cases e : c ∈ F
  · rw [decide_eq_true e, if_pos rfl, if_pos e]
    unfold kvOf
    rw [List.map_map]
    refine List.map_congr_left fun d _ => ?_
    show (if Sum.inl (d : Int) = (Sum.inl (c : Int) : Key) then (Sum.inl (d : Int), V.bl true) else (Sum.inl (d : Int), V.bl true)) = _
    split <;> rfl
  · rw [decide_eq_false e, if_neg Bool.false_ne_true, if_neg e]
    unfold kvOf
    rw [List.map_append]
    rfl
theorem keys_kv (F : List Nat) : (kvOf F).map (·.1) = (ni F).map Sum.inl := by
  unfold kvOf ni
  rw [List.map_map, List.map_map]
  rfl
def sp_leads_from (_ : PySem.W.Frag) : Sp := fun vs H Q _ => ∃ (d : Addr) (k s : Nat) (L : List Of), vs = [.ref d, .int (s : Int)] ∧ BoardAt H d k L ∧ (∀ o ∈ L, OfOk k o) ∧ s < k ∧ k ≤ 4 ∧
  ∀ H' q, Same H H' → H' q = some (.lst ((ni (leadsL L k s)).map V.int)) → Q (.ref q) H'
/-- what stands within a round of the search -/
structure LdW (L : List Of) (s n j : Nat) (F : List Nat) : Prop where
  nd : F.Nodup
  sound : ∀ c ∈ F, Lead L s c
  all : ∀ c, Rn L s n c → c ∈ F
  now : ∀ (i : Nat) o, i < j → L[i]? = some o → 0 < o.y → Rn L s n o.a → o.b ∈ F
theorem LdW.next {L : List Of} {s n j : Nat} {F : List Nat} (w : LdW L s n j F) (h : L.length ≤ j) : LdW L s (n + 1) 0 F := by
  refine ⟨w.nd, w.sound, fun c hc => ?_, fun i o hi => absurd hi (Nat.not_lt_zero _)⟩
  rcases hc with hc | ⟨b, hb, o, ho, ea, eb, y0⟩
  · exact w.all c hc
  · obtain ⟨i, hi, e⟩ := List.getElem_of_mem ho
    rw [← eb]
    exact w.now i o (by omega) (by rw [List.getElem?_eq_getElem hi, e]) y0 (by rw [ea]; exact hb)
theorem LdW.skip {L : List Of} {s n j : Nat} {F : List Nat} {o : Of} (w : LdW L s n j F) (ho : L[j]? = some o) (h : ¬ (0 < o.y ∧ o.a ∈ F)) : LdW L s n (j + 1) F := by
  refine ⟨w.nd, w.sound, w.all, fun i o' hi e y0 r => ?_⟩
  by_cases q : i = j
  · subst q
    rw [ho] at e
    obtain rfl := Option.some.inj e
    exact (h ⟨y0, w.all _ r⟩).elim
  · exact w.now i o' (by omega) e y0 r
theorem LdW.put {L : List Of} {s n j : Nat} {F : List Nat} {o : Of} (w : LdW L s n j F) (ho : L[j]? = some o) (h1 : 0 < o.y) (h2 : o.a ∈ F) : LdW L s n (j + 1) (if o.b ∈ F then F else F ++ [o.b]) := by
  have sub : ∀ c, c ∈ F → c ∈ (if o.b ∈ F then F else F ++ [o.b]) := fun c hc => by
    split
    · exact hc
    · exact List.mem_append_left _ hc
  have mb : o.b ∈ (if o.b ∈ F then F else F ++ [o.b]) := by
    split
    · assumption
    · exact List.mem_append_right _ List.mem_cons_self
  refine ⟨?_, fun c hc => ?_, fun c hc => sub c (w.all c hc), fun i o' hi e y0 r => ?_⟩
  · split
    · exact w.nd
    · rename_i q
      rw [List.nodup_append]
      refine ⟨w.nd, by simp, fun a ha b hb => ?_⟩
      rw [List.mem_singleton.mp hb]
      rintro rfl
      exact q ha
  · have edge : Lead L s o.b := (w.sound _ h2).step ⟨o, List.mem_of_getElem? ho, rfl, rfl, h1⟩
    split at hc
    · exact w.sound c hc
    · rcases List.mem_append.mp hc with hc | hc
      · exact w.sound c hc
      · rw [List.mem_singleton.mp hc]
        exact edge
  · by_cases q : i = j
    · subst q
      rw [ho] at e
      obtain rfl := Option.some.inj e
      exact mb
    · exact sub _ (w.now i o' (by omega) e y0 r)
theorem LdW.len {L : List Of} {s n j k : Nat} {F : List Nat} (w : LdW L s n j F) (ok : ∀ o ∈ L, OfOk k o) (hs : s < k) : F.length ≤ k := by
  have := nd_len (m := List.range k) w.nd fun x hx => List.mem_range.mpr ((w.sound x hx).lt ok hs)
  rw [List.length_range] at this
  exact this
section
variable {P : Program} {w : World} {K : PySem.W.Frag} {mg : Str → Option Value} {base : Heap}
abbrev s_leads_from : Stmt := topS 7
abbrev N_leads_from : List Str := ["board", "kind", "found", "_", "a", "b", "y"]
theorem sc_leads_from : FnScope N_leads_from ["board", "kind"] (defScope s_leads_from) := ⟨rfl, rfl, rfl, by decide +kernel, rfl, by decide +kernel, by decide +kernel⟩
theorem ok_leads_from (T : Txt mg) (D : Df K mg "leads_from" s_leads_from ["board", "kind"]) : Cal P w K mg base "leads_from" ["board", "kind"] 1 (sp_leads_from K) := by
  refine D.cal sc_leads_from (fun vs H Q E h => ?_) (fun f cdv A outer s H vs Q E hr h => ?_)
  · obtain ⟨d, k, s, L, rfl, _⟩ := h
    rfl
  obtain ⟨d, k, s, L, rfl, B, ok, sk, k4, kk⟩ := h
  obtain ⟨t, qs, hd, ht, hL⟩ := id B
  refine ⟨_, (pss_cons (ps_set (i := 2) sc_leads_from.nd rfl (Or.inl rfl) (pe_disp (pps_cons (pv 1) pe_bl pps_nil) rfl rfl (fun z => nomatch z) (by decide)))
    (pss_cons (ps_for PassesOwn.never rfl (pi_range1 (by rfl) T.n_range (pa_cons (pe_ix ix_tup (pv 0) pe_int (fun _ _ => rfl)) pa_nil)) (pg_name (i := 3) sc_leads_from.nd rfl (Or.inl rfl))
      (pss_one (ps_for PassesOwn.never rfl (pi_tup (pe_ix ix_tup (pv 0) pe_int (fun _ _ => rfl))) (pg_tup (by rfl) (pgs_cons (pg_name (i := 4) sc_leads_from.nd rfl (Or.inl rfl)) (pgs_cons (pg_name (i := 3) sc_leads_from.nd rfl (Or.inl rfl)) (pgs_cons (pg_name (i := 5) sc_leads_from.nd rfl (Or.inl rfl)) (pgs_cons (pg_name (i := 6) sc_leads_from.nd rfl (Or.inl rfl)) pgs_nil)))))
      (pss_one (ps_if (PW.pt (pw_and (pt_cmpR op_gt (pv 6) pe_int (nomark _)) (pw_and1 (pt_cmp (pc_din (hu_of hr) (pv 4) (pv 2)) rfl)))) (pss_one (ps_dput (hu_of hr) (pv 2) (pv 5) pe_bl rfl)) pss_nil)))))
    (pss_one (ps_ret (pe_callB (call_sortedDI rfl) (by rfl) T.n_sorted (by decide +kernel) (pa_cons (pv 2) pa_nil)))))), ?_⟩
  refine fun D nD => ⟨_, rfl, upd_same, [(Sum.inl (s : Int), V.bl true)], rfl, (by show 1 ≤ 15; decide), ?_⟩
  have sD : Same H (upd (upd H D (.dK [])) D (.dK (mergeK [] [(Sum.inl (s : Int), V.bl true)]))) := fun b o e => by
    rw [upd_ne (ne_of_none e nD), upd_ne (ne_of_none e nD)]
    exact e
  refine ⟨_, rfl, _, _, _, _, rfl, rfl, SqT.of (sD _ _ hd), atI_nat (j := 0) rfl, _, rfl, (by omega), (by omega), ?_⟩
  refine for_range (lo := 0) (n := _) (fun n σ H' => ∃ (F : List Nat) (v3 v4 v5 v6 : Option V), σ = [some (.ref d), some (.int (s : Int)), some (.ref D), v3, v4, v5, v6] ∧ Same H H' ∧ H' D = some (.dK (kvOf F)) ∧ LdW L s n 0 F)
    ⟨[s], none, none, none, none, rfl, sD, upd_same, by simp, fun c hc => by rw [List.mem_singleton.mp hc]; exact .self, fun c hc => by rw [show c = s from hc]; exact List.mem_cons_self, fun i o hi => absurd hi (Nat.not_lt_zero _)⟩ ?_ ?_
  · rintro n σ H1 hn ⟨F, v3, v4, v5, v6, rfl, s1, hD, lw⟩
    refine ⟨_, rfl, _, _, _, _, rfl, rfl, SqT.of (s1 _ _ hd), atI_nat (j := 1) rfl, t, rfl, ⟨_, SqT.of (s1 _ _ ht)⟩, ?_⟩
    refine for_tup (K := K) (a := t) (xs := qs.map V.ref) (fun j σ H' => ∃ (F : List Nat) (v3 v4 v5 v6 : Option V), σ = [some (.ref d), some (.int (s : Int)), some (.ref D), v3, v4, v5, v6] ∧ Same H H' ∧ H' D = some (.dK (kvOf F)) ∧ LdW L s n j F)
      ⟨F, _, _, _, _, rfl, s1, hD, lw⟩ (fun j σ H' _ h => by obtain ⟨_, _, _, _, _, _, s', _⟩ := h; exact SqT.of (s' _ _ ht)) ?_ ?_
    · rintro j x σ H2 hx ⟨F, v3, v4, v5, v6, rfl, s2, hD, lw⟩
      rw [List.getElem?_map] at hx
      cases e : qs[j]? with
      | none => rw [e] at hx; cases hx
      | some q =>
        rw [e] at hx
        have ex : x = .ref q := (Option.some.inj hx).symm
        subst ex
        obtain ⟨o, ho, hq⟩ := hL.2 j q e
        have hq2 : H2 q = some (.tup [.int (o.a : Int), .int o.x, .int (o.b : Int), .int o.y]) := s2 _ _ hq
        refine ⟨q, _, rfl, SqT.of hq2, rfl, _, _, rfl, _, _, rfl, _, _, rfl, _, _, rfl, rfl, ?_⟩
        refine ⟨_, rfl, _, _, rfl, rfl, _, rfl, ?_⟩
        by_cases y0 : o.y > 0
        · refine iteP y0 ⟨_, rfl, _, rfl, D, _, rfl, DGet.k (k := Sum.inl (o.a : Int)) hD, _, congrArg V.bl (val_kv o.a F), ite3 (fun a0 => ?_) (fun a0 => ?_)⟩
          · have l4 := lw.len ok sk
            refine ⟨_, rfl, _, rfl, D, _, rfl, DPut.k (k := Sum.inl (o.b : Int)) hD ?_, ?_⟩
            · unfold kvOf
              rw [List.length_map]
              exact Nat.lt_of_le_of_lt (show F.length ≤ 4 by omega) (by decide)
            · rw [put_kv]
              refine ⟨_, _, _, _, _, rfl, fun b o' e' => ?_, upd_same, lw.put ho y0 a0⟩
              rw [upd_ne (ne_of_none e' nD)]
              exact s2 _ _ e'
          · exact ⟨F, _, _, _, _, rfl, s2, hD, lw.skip ho fun q => a0 q.2⟩
        · exact iteN y0 (iteF ⟨F, _, _, _, _, rfl, s2, hD, lw.skip ho fun q => y0 q.1⟩)
    · rintro σ H2 ⟨F, v3, v4, v5, v6, rfl, s2, hD, lw⟩
      refine ⟨F, _, _, _, _, rfl, s2, hD, lw.next ?_⟩
      rw [List.length_map, hL.1]
      exact Nat.le_refl _
  · rintro σ H1 ⟨F, v3, v4, v5, v6, rfl, s1, hD, lw⟩
    rw [Int.toNat_natCast] at lw
    refine ⟨_, rfl, D, kvOf F, ni F, rfl, .inl hD, keys_kv F, ?_, fun ys q pm pw nq => ?_⟩
    · have := lw.len ok sk
      unfold ni
      rw [List.length_map]
      omega
    · have sq := same_upd (o := .lst (ys.map V.int)) nq
      refine kk _ q (s1.trans sq) ?_
      rw [upd_same, ni_sort pm pw lw.nd (leads_lt L k s) fun c => ⟨fun hc => mem_leads.mpr ⟨(lw.sound c hc).lt ok sk, lw.sound c hc⟩, fun hc => lw.all c ((mem_leads.mp hc).2.to ok sk)⟩]
end
end Sm

set_option Elab.async false
set_option linter.all false
set_option maxRecDepth 100000
set_option maxHeartbeats 8000000
namespace Sm
open PySem PySem.Spec PyProof.Rows L2
open C8 (pss_cut tCut)
def sp_l_bad_kind (K : PySem.W.Frag) : Sp := fun vs H Q _ => ∃ (p l : Addr) (n : Int) (k : Nat), vs = [.ref p, .int (k : Int)] ∧ Deck H p l n ∧ 0 ≤ n ∧ n ≤ 900000 ∧ 1 ≤ k ∧ k ≤ 4 ∧
  ∀ H' x d, Fr p l H H' → Deck H' p l (n + 1) → DqN K H H' x d → Sml 3 300 d → inI d 0 ((k : Int) - 1) = false → Q x H'
def sp_l_reached (_ : PySem.W.Frag) : Sp := fun vs H Q _ => ∃ (d : Addr) (k s : Nat) (L : List Of), vs = [.ref d, .int (s : Int)] ∧ BoardAt H d k L ∧ (∀ o ∈ L, OfOk k o) ∧ s < k ∧ k ≤ 4 ∧
  ∀ H' q (F : List Nat), Same H H' → H' q = some (.lst ((ni F).map V.int)) → (∀ c, c ∈ F ↔ Lead L s c) → Q (.ref q) H'
theorem inI_hi {i hi : Int} (h : hi < i) : inI (.int i) 0 hi = false := by
  show (decide (0 ≤ i) && decide (i ≤ hi)) = false
  rw [decide_eq_false (show ¬ i ≤ hi by omega), Bool.and_false]
theorem sml_int {i : Int} (h : -1000000000000000000000000000000000000000000 ≤ i ∧ i ≤ 1000000000000000000000000000000000000000000) : Sml 3 300 (.int i) := by
  have b : i.natAbs < 2 ^ 143 := by omega
  have lg : i.natAbs.log2 < 143 := by
    rcases Nat.eq_zero_or_pos i.natAbs with z | z
    · rw [z]; decide
    · exact (Nat.log2_lt (by omega)).mpr b
  have lg2 : i.natAbs.log2 < 1920 := by omega
  refine ⟨by simp only [PyData.showable, decide_eq_true lg2], by show 0 ≤ 3; decide, ?_⟩
  simp only [PyData.shown]
  rw [PySem.ofString_length]
  have := PySem.int_text_length_le (a := i) (k := 143) (by decide) lg
  omega
theorem inV_int (a : Int) : ∀ T : List Int, inV (.int a) (T.map V.int) = decide (a ∈ T)
  | [] => rfl
  | b :: T => by
    have ih := inV_int a T
    unfold inV at ih ⊢
    rw [List.map_cons, List.any_cons, ih]
    show (decide (b = a) || decide (a ∈ T)) = _
    by_cases e : b = a
    · subst e
      simp
    · simp [e, Ne.symm e]
theorem flat_int : ∀ T : List Int, (T.map V.int).all flatV = true
  | [] => rfl
  | b :: T => by
    rw [List.map_cons, List.all_cons, flat_int T]
    rfl
section
variable {P : Program} {w : World} {K : PySem.W.Frag} {mg : Str → Option Value} {base : Heap}
abbrev s_l_bad_kind : Stmt := topS 14
abbrev N_l_bad_kind : List Str := ["_law_deck_here", "_law_kinds"]
theorem sc_l_bad_kind : FnScope N_l_bad_kind ["_law_deck_here", "_law_kinds"] (defScope s_l_bad_kind) := ⟨rfl, rfl, rfl, by decide +kernel, rfl, by decide +kernel, by decide +kernel⟩
theorem ok_l_bad_kind (T : Txt mg) (D : Df K mg "_law_bad_kind" s_l_bad_kind ["_law_deck_here", "_law_kinds"]) (C_l_one : Cal P w K mg base "_law_one" ["_law_deck_here", "_law_items"] 2 (sp_l_one K)) : Cal P w K mg base "_law_bad_kind" ["_law_deck_here", "_law_kinds"] 3 (sp_l_bad_kind K) := by
  obtain ⟨f_l_one, fd_l_one, G_l_one, m_l_one, k_l_one, b_l_one⟩ := C_l_one
  refine D.cal sc_l_bad_kind (fun vs H Q E h => ?_) (fun f cdv A outer s H vs Q E hr h => ?_)
  · obtain ⟨p, l, n, k, rfl, _⟩ := h
    rfl
  obtain ⟨p, l, n, kn, rfl, D, n0, n1, k1, k4, kk⟩ := h
  refine ⟨_, (pss_one (ps_ret (pe_call G_l_one (hr.mono (by decide)) (by rfl) m_l_one k_l_one b_l_one .nil pass0 (pa_cons (pv 0) (pa_cons (pe_lstN (pa_cons (pv 1) (pa_cons (pe_un un_neg pe_int) (pa_cons pe_bl (pa_cons pe_bl (pa_cons pe_non (pa_cons pe_str (pa_cons (pe_tup (pa_cons pe_int pa_nil)) (pa_cons (pe_lstN (pa_cons pe_int pa_nil)) (pa_cons (pe_op op_pow pe_int pe_int) (pa_cons (pe_op op_add (pv 1) pe_int) pa_nil))))))))))) pa_nil))))), ?_⟩
  refine ⟨_, rfl, _, rfl, _, rfl, (by show 1 ≤ sizeLine; decide), fun a3 na3 => ⟨(by show 1 ≤ sizeLine; decide), fun a4 na4 ne4 => ?_⟩⟩
  refine ⟨_, _, rfl, rfl, ⟨by decide, by decide, by decide⟩, _, rfl, _, _, rfl, rfl, (by show 10 ≤ sizeLine; decide), fun B nB neB => ?_⟩
  have w1 := same_upd (o := .tup [.int 0]) na3
  have w2 := same_upd (o := .lst [.int 0]) na4
  have w3 := same_upd (o := .lst [.int (kn : Int), .int (-1), .bl true, .bl false, .non, .str "0", .ref a3, .ref a4, .int (10 ^ Int.toNat 30), .int ((kn : Int) + 1)]) nB
  have y1 := w1.trans (w2.trans w3)
  have lne := (D.same (w1.trans w2)).lne nB
  refine ⟨p, l, B, n, _, rfl, D.same y1, n0, by omega, upd_same, lne.1, lne.2, (by show 0 < 10; decide), (by show 10 ≤ 1000; decide), fun x H' hx f D' => ?_⟩
  have c1 := (w2.trans w3) a3 (.tup [.int 0]) upd_same
  have c2 := w3 a4 (.lst [.int 0]) upd_same
  have m1 : H a3 = none := na3
  have m2 : H a4 = none := w1.free na4
  have d1 := f _ _ (D.lne m1).1 (D.lne m1).2 c1
  have d2 := f _ _ (D.lne m2).1 (D.lne m2).2 c2
  have k := fun x d => kk H' x d ((Same.fr (p := p) (l := l) y1).trans f) D'
  simp only [List.mem_cons, List.not_mem_nil, or_false] at hx
  rcases hx with rfl | rfl | rfl | rfl | rfl | rfl | rfl | rfl | rfl | rfl
  · exact k _ _ (fun _ _ => .int _) (sml_int (by omega)) (inI_hi (by omega))
  · exact k _ _ (fun _ _ => .int _) ⟨by decide +kernel, by decide +kernel, by decide +kernel⟩ (by unfold inI; rfl)
  · exact k _ _ (fun _ _ => .bl _) ⟨by decide +kernel, by decide +kernel, by decide +kernel⟩ rfl
  · exact k _ _ (fun _ _ => .bl _) ⟨by decide +kernel, by decide +kernel, by decide +kernel⟩ rfl
  · exact k _ _ (fun _ _ => .non) ⟨by decide +kernel, by decide +kernel, by decide +kernel⟩ rfl
  · exact k _ _ (fun _ _ => .str _) ⟨by decide +kernel, by decide +kernel, by decide +kernel⟩ rfl
  · exact k _ _ (fun H2 h => .tup (h _ _ m1 d1) (.cons (.int _) .nil)) ⟨by decide +kernel, by decide +kernel, by decide +kernel⟩ rfl
  · exact k _ _ (fun H2 h => .lst (h _ _ m2 d2) ne4 (.cons (.int _) .nil)) ⟨by decide +kernel, by decide +kernel, by decide +kernel⟩ rfl
  · exact k _ _ (fun _ _ => .int _) ⟨by decide +kernel, by decide +kernel, by decide +kernel⟩ (inI_hi (Int.lt_of_lt_of_le (show (kn : Int) - 1 < 5 by omega) (by decide +kernel)))
  · exact k _ _ (fun _ _ => .int _) (sml_int (by omega)) (inI_hi (by omega))
abbrev s_l_reached : Stmt := topS 15
abbrev N_l_reached : List Str := ["_law_board_here", "_law_a", "_law_found", "_law_turn", "_law_offer"]
theorem sc_l_reached : FnScope N_l_reached ["_law_board_here", "_law_a"] (defScope s_l_reached) := ⟨rfl, rfl, rfl, by decide +kernel, rfl, by decide +kernel, by decide +kernel⟩
theorem ok_l_reached (T : Txt mg) (D : Df K mg "_law_reached" s_l_reached ["_law_board_here", "_law_a"]) : Cal P w K mg base "_law_reached" ["_law_board_here", "_law_a"] 1 (sp_l_reached K) := by
  refine D.cal sc_l_reached (fun vs H Q E h => ?_) (fun f cdv A outer s H vs Q E hr h => ?_)
  · obtain ⟨d, k, s, L, rfl, _⟩ := h
    rfl
  obtain ⟨d, k, s, L, rfl, B, ok, sk, k4, kk⟩ := h
  obtain ⟨t, qs, hd, ht, hL⟩ := id B
  refine ⟨_, (pss_cons (ps_set (i := 2) sc_l_reached.nd rfl (Or.inl rfl) (pe_lst (pa_cons (pv 1) pa_nil)))
    (pss_cons (ps_for PassesOwn.never rfl (pi_range1 (by rfl) T.n_range (pa_cons (pe_ix ix_tup (pv 0) pe_int (fun _ _ => rfl)) pa_nil)) (pg_name (i := 3) sc_l_reached.nd rfl (Or.inl rfl))
      (pss_one (ps_for PassesOwn.never rfl (pi_tup (pe_ix ix_tup (pv 0) pe_int (fun _ _ => rfl))) (pg_name (i := 4) sc_l_reached.nd rfl (Or.inl rfl))
      (pss_one (ps_if (PW.pt (pw_and (pt_cmpR op_in_seq (pe_ix ix_tup (pv 4) pe_int (fun _ _ => rfl)) (pv 2) (by rfl)) (pw_and (pt_cmpR op_gt (pe_ix ix_tup (pv 4) pe_int (fun _ _ => rfl)) pe_int (nomark _)) (pw_and1 (pt_cmpR op_notIn_seq (pe_ix ix_tup (pv 4) pe_int (fun _ _ => rfl)) (pv 2) (by rfl)))))) (pss_one (ps_expr (pe_bm PySem.F.plainAttrs_list PySem.F.slot_list_append PySem.F.type_list_append mt_append (pv 2) (pa_cons (pe_ix ix_tup (pv 4) pe_int (fun _ _ => rfl)) pa_nil)))) pss_nil)))))
    (pss_one (ps_ret (pv 2))))), ?_⟩
  refine ⟨_, rfl, (by show 1 ≤ sizeLine; decide), fun U nU => ?_⟩
  have sU := same_upd (o := .lst [.int (s : Int)]) nU
  refine ⟨_, rfl, _, _, _, _, rfl, rfl, SqT.of (sU _ _ hd), atI_nat (j := 0) rfl, _, rfl, (by omega), (by omega), ?_⟩
  refine for_range (lo := 0) (n := _) (fun n σ H' => ∃ (F : List Nat) (v3 v4 : Option V), σ = [some (.ref d), some (.int (s : Int)), some (.ref U), v3, v4] ∧ Same H H' ∧ H' U = some (.lst ((ni F).map V.int)) ∧ LdW L s n 0 F)
    ⟨[s], none, none, rfl, sU, upd_same, by simp, fun c hc => by rw [List.mem_singleton.mp hc]; exact .self, fun c hc => by rw [show c = s from hc]; exact List.mem_cons_self, fun i o hi => absurd hi (Nat.not_lt_zero _)⟩ ?_ ?_
  · rintro n σ H1 hn ⟨F, v3, v4, rfl, s1, hU, lw⟩
    refine ⟨_, rfl, _, _, _, _, rfl, rfl, SqT.of (s1 _ _ hd), atI_nat (j := 1) rfl, t, rfl, ⟨_, SqT.of (s1 _ _ ht)⟩, ?_⟩
    refine for_tup (K := K) (a := t) (xs := qs.map V.ref) (fun j σ H' => ∃ (F : List Nat) (v3 v4 : Option V), σ = [some (.ref d), some (.int (s : Int)), some (.ref U), v3, v4] ∧ Same H H' ∧ H' U = some (.lst ((ni F).map V.int)) ∧ LdW L s n j F)
      ⟨F, _, _, rfl, s1, hU, lw⟩ (fun j σ H' _ h => by obtain ⟨_, _, _, _, s', _⟩ := h; exact SqT.of (s' _ _ ht)) ?_ ?_
    · rintro j x σ H2 hx ⟨F, v3', v4', rfl, s2, hU, lw⟩
      rw [List.getElem?_map] at hx
      cases e : qs[j]? with
      | none => rw [e] at hx; cases hx
      | some q =>
        rw [e] at hx
        have ex : x = .ref q := (Option.some.inj hx).symm
        subst ex
        obtain ⟨o, ho, hq⟩ := hL.2 j q e
        have hq2 : H2 q = some (.tup [.int (o.a : Int), .int o.x, .int (o.b : Int), .int o.y]) := s2 _ _ hq
        have skip : ¬ (0 < o.y ∧ o.a ∈ F) → ∃ (F : List Nat) (v3 v4 : Option V), [some (.ref d), some (.int (s : Int)), some (.ref U), v3', some (.ref q)] = [some (.ref d), some (.int (s : Int)), some (.ref U), v3, v4] ∧ Same H H2 ∧ H2 U = some (.lst ((ni F).map V.int)) ∧ LdW L s n (j + 1) F := fun h => ⟨F, v3', _, rfl, s2, hU, lw.skip ho h⟩
        refine ⟨_, rfl, _, _, _, _, rfl, rfl, SqT.of hq2, atI_nat (j := 0) rfl, _, rfl, U, _, rfl, .inl (SqL.of hU), rfl, flat_int _, _, congrArg V.bl (inV_int _ _), ?_⟩
        by_cases a0 : (o.a : Int) ∈ ni F
        · refine iteP a0 ⟨_, rfl, _, _, _, _, rfl, rfl, SqT.of hq2, atI_nat (j := 3) rfl, _, _, rfl, rfl, _, rfl, ?_⟩
          by_cases y0 : o.y > 0
          · refine iteP y0 ⟨_, rfl, _, _, _, _, rfl, rfl, SqT.of hq2, atI_nat (j := 2) rfl, _, rfl, U, _, rfl, .inl (SqL.of hU), rfl, flat_int _, _, congrArg V.bl (congrArg not (inV_int _ _)), ?_⟩
            by_cases b0 : (o.b : Int) ∈ ni F
            · rw [decide_eq_true b0]
              exact iteF ⟨F, v3', _, rfl, s2, hU, by have := lw.put ho y0 (mem_ni.mp a0); rw [if_pos (mem_ni.mp b0)] at this; exact this⟩
            · rw [decide_eq_false b0]
              have l4 := lw.len ok sk
              refine iteT ⟨_, rfl, .inl ⟨rfl, _, SqL.of hU⟩, _, rfl, _, _, _, _, rfl, rfl, SqT.of hq2, atI_nat (j := 2) rfl, U, _, _, rfl, rfl, hU, ?_, F ++ [o.b], v3', _, rfl, fun b o' e' => ?_, ?_, ?_⟩
              · unfold ni
                rw [List.length_map, List.length_map]
                exact Nat.lt_of_le_of_lt (show F.length ≤ 4 by omega) (by decide)
              · rw [upd_ne (ne_of_none e' nU)]
                exact s2 _ _ e'
              · rw [upd_same]
                unfold ni
                rw [List.map_append, List.map_append]
                rfl
              · have := lw.put ho y0 (mem_ni.mp a0)
                rw [if_neg fun z => b0 (mem_ni.mpr z)] at this
                exact this
          · exact iteN y0 (iteF (skip fun q => y0 q.1))
        · exact iteN a0 (iteF (skip fun q => a0 (mem_ni.mpr q.2)))
    · rintro σ H2 ⟨F, v3, v4, rfl, s2, hU, lw⟩
      refine ⟨F, _, _, rfl, s2, hU, lw.next ?_⟩
      rw [List.length_map, hL.1]
      exact Nat.le_refl _
  · rintro σ H1 ⟨F, v3, v4, rfl, s1, hU, lw⟩
    rw [Int.toNat_natCast] at lw
    exact ⟨_, rfl, kk _ U F s1 hU fun c => ⟨lw.sound c, fun h => lw.all c (h.to ok sk)⟩⟩
end
end Sm

set_option Elab.async false
set_option linter.all false
set_option maxRecDepth 100000
set_option maxHeartbeats 8000000
namespace Sm
open PySem PySem.Spec PyProof.Rows L2
open C8 (pss_cut tCut)
abbrev s_init : Stmt := inClass (topS 4) 0
abbrev N_init : List Str := ["self", "kind"]
theorem sc_init : FnScope N_init ["self", "kind"] (defScope s_init) := ⟨rfl, rfl, rfl, by decide +kernel, rfl, by decide +kernel, by decide +kernel⟩
/-- what the written part says of the class NoKind -/
structure Txn (K : PySem.W.Frag) (mg : Str → Option Value) (cN fB : Addr) : Prop where
  gNoKind : mg "NoKind" = some (.ref cN)
  oex : OexL K cN
  noE : PySem.W.findIn K (.ref cN) "kind" = some none
  iC : PySem.W.findIn K (.ref cN) "__init__" = some (some (.ref fB))
  tI : PySem.W.typeIn K (.ref fB) = some (.type "function")
  xf : XfC K cN
  ec : ExcC K cN
  te : PySem.W.exmOne K (.ref cN) (.ref cN) = some true
  k1 : PySem.W.kitOne K (.ref cN) (.type "LookupError") = some true
  k2 : PySem.W.kitOne K (.ref cN) (.type "ValueError") = some false
  fI : ∃ fd, Fun K "__init__" "NoKind.__init__" s_init fB fd ∧ Binds K fd ["self", "kind"] []
def CalX (P : Program) (w : World) (K : PySem.W.Frag) (mg : Str → Option Value) (base : Heap) (x : Str) (ps : List Str) (k : Nat) (sp : Sp) : Prop :=
  ∃ (f : Addr) (fd : FuncData), FnOk P w K mg base (L2.CX P w) k f fd ps sp ∧ mg x = some (.ref f) ∧ PySem.W.keepIn K (.ref f) = true ∧ Binds K fd ps []
/-- what a call of leads says: an answer, or the first value that is no kind -/
def sp_leadsX (K : PySem.W.Frag) (cN : Addr) : Sp := fun vs H Q E => ∃ (d : Addr) (k : Nat) (L : List Of) (v1 v2 : V) (d1 d2 : PyData), vs = [.ref d, v1, v2] ∧ BoardAt H d k L ∧ (∀ o ∈ L, OfOk k o) ∧ k ≤ 4 ∧ Dq K H v1 d1 ∧ Dq K H v2 d2 ∧
  (inI d1 0 ((k : Int) - 1) = false → ∀ H' x, Same H H' → H' x = some (.xd [(("kind" : Str), v1)]) → E (.ref cN) (some x) H') ∧
  (inI d1 0 ((k : Int) - 1) = true → inI d2 0 ((k : Int) - 1) = false → ∀ H' x, Same H H' → H' x = some (.xd [(("kind" : Str), v2)]) → E (.ref cN) (some x) H') ∧
  (∀ a c : Nat, a < k → c < k → d1 = .int (a : Int) → d2 = .int (c : Int) → ∀ H', Same H H' → Q (.bl (@decide (Lead L a c) (Classical.propDecidable _))) H')
/-- the same where both are kinds -/
def sp_leads (_ : PySem.W.Frag) : Sp := fun vs H Q _ => ∃ (d : Addr) (k : Nat) (L : List Of) (a c : Nat), vs = [.ref d, .int (a : Int), .int (c : Int)] ∧ BoardAt H d k L ∧ (∀ o ∈ L, OfOk k o) ∧ k ≤ 4 ∧ a < k ∧ c < k ∧ ∀ H', Same H H' → Q (.bl (@decide (Lead L a c) (Classical.propDecidable _))) H'
theorem inI_true {d : PyData} {k : Nat} (h : inI d 0 ((k : Int) - 1) = true) : ∃ a : Nat, a < k ∧ d = .int (a : Int) := by
  cases d with
  | int i =>
    have h : (decide (0 ≤ i) && decide (i ≤ (k : Int) - 1)) = true := h
    rw [Bool.and_eq_true, decide_eq_true_iff, decide_eq_true_iff] at h
    exact ⟨i.toNat, by omega, by rw [Int.toNat_of_nonneg h.1]⟩
  | _ => cases h
theorem inI_of {a k : Nat} (h : a < k) : inI (.int (a : Int)) 0 ((k : Int) - 1) = true := by
  show (decide (0 ≤ (a : Int)) && decide ((a : Int) ≤ (k : Int) - 1)) = true
  rw [decide_eq_true (by omega), decide_eq_true (by omega)]
  rfl
section
variable {P : Program} {w : World} {K : PySem.W.Frag} {mg : Str → Option Value} {base : Heap} {cN fB : Addr}
theorem ok_init {fd : FuncData} (F : Fun K "__init__" "NoKind.__init__" s_init fB fd) : FnOk P w K mg base CX0 1 fB fd ["self", "kind"] (sp_initL K "kind") := by
  refine F.ok sc_init (fun vs H Q E h => ?_) (fun cdv A outer s H vs Q E hr h => ?_)
  · obtain ⟨a, C, v, rfl, _⟩ := h
    rfl
  obtain ⟨a, C, v, rfl, T, no, ha, k⟩ := h
  refine ⟨_, pss_one (ps_osL (pv 0) (pv 1)), ?_⟩
  exact ⟨_, rfl, _, rfl, a, C, rfl, T, no, ha, k⟩
abbrev s_leads : Stmt := topS 6
abbrev N_leads : List Str := ["board", "one", "other", "kind"]
theorem sc_leads : FnScope N_leads ["board", "one", "other"] (defScope s_leads) := ⟨rfl, rfl, rfl, by decide +kernel, rfl, by decide +kernel, by decide +kernel⟩
theorem ok_leadsX (T : Txt mg) (XC : Txn K mg cN fB) (D : Df K mg "leads" s_leads ["board", "one", "other"]) (C_leads_from : Cal P w K mg base "leads_from" ["board", "kind"] 1 (sp_leads_from K)) (C_is_within : Cal P w K mg base "is_within" ["value", "low", "high"] 2 (sp_is_within K)) : CalX P w K mg base "leads" ["board", "one", "other"] 3 (sp_leadsX K cN) := by
  obtain ⟨f_leads_from, fd_leads_from, G_leads_from, m_leads_from, k_leads_from, b_leads_from⟩ := C_leads_from
  obtain ⟨f_is_within, fd_is_within, G_is_within, m_is_within, k_is_within, b_is_within⟩ := C_is_within
  obtain ⟨fdI, FI, b_init⟩ := XC.fI
  have G_init : FnOk P w K mg base CX0 1 fB fdI ["self", "kind"] (sp_initL K "kind") := ok_init FI
  obtain ⟨f, fd, F, m, b⟩ := D
  refine ⟨f, fd, F.okX sc_leads (fun vs H Q E h => ?_) (fun cdv A outer s H vs Q E hr h => ?_), m, F.kp, b⟩
  · obtain ⟨d, k, L, v1, v2, d1, d2, rfl, _⟩ := h
    rfl
  obtain ⟨d, k, L, v1, v2, d1, d2, rfl, B, ok, k4, q1, q2, e1, e2, kk⟩ := h
  obtain ⟨t, qs, hd, ht, hL⟩ := id B
  refine ⟨_, (pss_cons (ps_for (passes_of rfl) rfl (pi_tup (pe_tup (pa_cons (pv 1) (pa_cons (pv 2) pa_nil)))) (pg_name (i := 3) sc_leads.nd rfl (Or.inl rfl))
      (pss_one (ps_if (pt_not (pt_val (pe_call G_is_within (hr.mono (by decide)) (by rfl) m_is_within k_is_within b_is_within .nil pass0 (pa_cons (pv 3) (pa_cons pe_int (pa_cons (pe_op op_sub (pe_ix ix_tup (pv 0) pe_int (fun _ _ => rfl)) pe_int) pa_nil)))))) (pss_one (ps_raise rfl (takes_of rfl rfl rfl rfl) (pmk_oexL XC.oex XC.iC XC.tI G_init (hr.mono (by decide)) b_init pass0 (by rfl) XC.gNoKind (pa_cons (pv 3) pa_nil)))) pss_nil)))
    (pss_one (ps_ret (pe_cmpR op_in_seq (pv 2) (pe_call G_leads_from (hr.mono (by decide)) (by rfl) m_leads_from k_leads_from b_leads_from .nil pass0 (pa_cons (pv 0) (pa_cons (pv 1) pa_nil))) (by rfl))))), ?_⟩
  refine ⟨_, rfl, _, rfl, (by show 2 ≤ sizeLine; decide), fun tp ntp => ?_⟩
  have st := same_upd (o := .tup [v1, v2]) ntp
  refine ⟨tp, rfl, ⟨_, SqT.of upd_same⟩, ?_⟩
  refine for_tup (K := K) (a := tp) (xs := [v1, v2]) (fun i σ H' => ∃ v3 : Option V, H' = upd H tp (.tup [v1, v2]) ∧ σ = [some (.ref d), some v1, some v2, v3] ∧ (1 ≤ i → inI d1 0 ((k : Int) - 1) = true) ∧ (2 ≤ i → inI d2 0 ((k : Int) - 1) = true))
    ⟨none, rfl, rfl, fun h => absurd h (by decide), fun h => absurd h (by decide)⟩ (fun i σ H' _ h => by obtain ⟨_, rfl, _⟩ := h; exact SqT.of upd_same) ?_ ?_
  · rintro i x σ H2 hx ⟨v3, rfl, rfl, c1, c2⟩
    obtain ⟨dx, hdx, hE, hN⟩ : ∃ dx, Dq K H x dx ∧ (inI dx 0 ((k : Int) - 1) = false → ∀ H' y, Same H H' → H' y = some (.xd [(("kind" : Str), x)]) → E (.ref cN) (some y) H') ∧ (inI dx 0 ((k : Int) - 1) = true → (1 ≤ i + 1 → inI d1 0 ((k : Int) - 1) = true) ∧ (2 ≤ i + 1 → inI d2 0 ((k : Int) - 1) = true)) := by
      match i, hx with
      | 0, hx => cases hx; exact ⟨d1, q1, e1, fun h => ⟨fun _ => h, fun h => absurd h (by decide)⟩⟩
      | 1, hx => cases hx; exact ⟨d2, q2, e2 (c1 (Nat.le_refl _)), fun h => ⟨fun _ => c1 (Nat.le_refl _), fun _ => h⟩⟩
    refine ⟨_, rfl, _, rfl, _, _, _, _, rfl, rfl, SqT.of (st _ _ hd), atI_nat (j := 0) rfl, _, _, rfl, rfl, x, dx, 0, (k : Int) - 1, rfl, hdx.same st, ?_⟩
    cases e : inI dx 0 ((k : Int) - 1) with
    | true => exact ⟨_, rfl, iteF ⟨_, rfl, rfl, hN e⟩⟩
    | false =>
      refine ⟨_, rfl, iteT ?_⟩
      refine xc_mkL XC.oex XC.noE ⟨_, rfl, x, rfl, fun y H7 s7 hy => hE e H7 y (st.trans s7) hy⟩ (fun h z => ?_)
      obtain ⟨v, e, q⟩ := z
      exact ⟨v, e, h _ _ q⟩
  · rintro σ H2 ⟨v3, rfl, rfl, c1, c2⟩
    obtain ⟨a, ak, rfl⟩ := inI_true (c1 (Nat.succ_le_succ (Nat.zero_le _)))
    obtain ⟨c, ck, rfl⟩ := inI_true (c2 (Nat.le_refl _))
    cases q1
    cases q2
    refine ⟨_, rfl, _, rfl, _, rfl, d, k, a, L, rfl, B.same st, ok, ak, k4, fun H3 q s3 hq => ?_⟩
    refine ⟨q, _, rfl, .inl (SqL.of hq), rfl, flat_int _, ?_⟩
    rw [inV_int]
    have z := kk a c ak ck rfl rfl H3 (st.trans s3)
    have y : decide ((c : Int) ∈ ni (leadsL L k a)) = @decide (Lead L a c) (Classical.propDecidable _) := by
      by_cases h : Lead L a c
      · rw [cdec.mpr h, decide_eq_true (mem_ni.mpr (mem_leads.mpr ⟨ck, h⟩))]
      · rw [cdecf.mpr h, decide_eq_false fun q => h (mem_leads.mp (mem_ni.mp q)).2]
    rw [y]
    exact z
theorem ok_leads0 (C : CalX P w K mg base "leads" ["board", "one", "other"] 3 (sp_leadsX K cN)) : Cal P w K mg base "leads" ["board", "one", "other"] 3 (sp_leads K) := by
  obtain ⟨f, fd, F, m, kp, b⟩ := C
  refine ⟨f, fd, ⟨fun vs H Q E h => ?_, fun A outer s H args us vs Q E hr e0 hb hv h => ?_⟩, m, kp, b⟩
  · obtain ⟨d, k, L, a, c, rfl, _⟩ := h
    rfl
  obtain ⟨d, k, L, a, c, rfl, B, ok, k4, ak, ck, kk⟩ := h
  refine codeAny_mono (F.run A outer s H args us _ Q E0 hr e0 hb hv ⟨d, k, L, _, _, _, _, rfl, B, ok, k4, .int _, .int _, fun z => absurd z (by rw [inI_of ak]; exact Bool.noConfusion), fun _ z => absurd z (by rw [inI_of ck]; exact Bool.noConfusion), fun a' c' _ _ e1 e2 H' s' => ?_⟩) ?_
  · rw [← Int.ofNat.inj (PyData.int.inj e1), ← Int.ofNat.inj (PyData.int.inj e2)]
    exact kk H' s'
  rintro (e | fl) s' got
  · obtain ⟨_, _, _, _, _, _, _, _, _, _, _, _, hE⟩ := got
    exact hE.elim
  match fl, got with
  | .next, got => exact got.elim
  | .brk, got => exact got.elim
  | .cont, got => exact got.elim
  | .ret u, got => exact got
end
end Sm

set_option Elab.async false
set_option linter.all false
set_option maxRecDepth 100000
set_option maxHeartbeats 16000000
namespace Sm
open PySem PySem.Spec PyProof.Rows L2 LamX
open C8 (pss_cut tCut)
abbrev s_l_no_kind : Stmt := topS 13
abbrev N_l_no_kind : List Str := ["_law_call", "_law_value", "error", "_law_single"]
theorem sc_l_no_kind : FnScope N_l_no_kind ["_law_call", "_law_value"] (defScope s_l_no_kind) := ⟨rfl, rfl, rfl, by decide +kernel, rfl, by decide +kernel, by decide +kernel⟩
/-- the call raises NoKind with the very value -/
def TNk (K : PySem.W.Frag) (cN : Addr) (v : V) : (XK → Hp → VK → Prop) → Hp → VK → Prop := fun tl H Q => ∃ dv, Sml 3 300 dv ∧ Dq K H v dv ∧ ∀ (out : XK) (Q' : VK), (∀ x H', Same H H' → H' x = some (.xd [(("kind" : Str), v)]) → (∀ H2, Same H H2 → Q (.bl true) H2) → out (.ref cN) (some x) H') → tl out H Q'
theorem nk_gives {X : Cx} {q : Str} {cN fB : Addr} (T : Txt X.mg) (XC : Txn X.K X.mg cN fB) (gu : X.A.guards = some []) (un : X.A.units + 200 < cLine) (g : Addr) (cdg : Value) : Gives2 X N_l_no_kind "_law_no_kind" (defScope s_l_no_kind) g cdg (defBody s_l_no_kind) "_law_call" q (TNk X.K cN) := by
  rintro f c' s H v Q tl act known ⟨dv, sm, dq, told⟩
  refine ⟨_, pss_cons (ps_act_as (i := 2) (CS := cN) (by rfl) XC.gNoKind (by decide) sc_l_no_kind.nd rfl (by rfl) act (fun a oe cls d pn hz hf => (pss_cons (ps_set (i := 3) sc_l_no_kind.nd rfl (Or.inl rfl) (pe_and (pe_callB (show CallR _ (.builtin "isinstance") (rIsX X.K cls d a) from call_isX hz hf) (by rfl) T.n_isinstance (by decide +kernel) (pa_cons (pv 2) (pa_cons (pe_bltn (v := .ty "LookupError") (by rfl) T.n_LookupError (by decide +kernel) rfl) pa_nil))) (pe_one (pe_not (pe_callB (show CallR _ (.builtin "isinstance") (rIsX X.K cls d a) from call_isX hz hf) (by rfl) T.n_isinstance (by decide +kernel) (pa_cons (pv 2) (pa_cons (pe_bltn (v := .ty "ValueError") (by rfl) T.n_ValueError (by decide +kernel) rfl) pa_nil)))))))
    (pss_one (ps_ret (pe_and (pv 3) (pe_one (pe_cmpR op_eq (pe_callB (show CallR _ (.builtin "repr") (rReprQ X.K) from call_reprU gu (by show X.A.units + 3 + 100 < cLine; omega)) (by rfl) T.n_repr (by decide +kernel) (pa_cons (pe_xf XC.xf XC.noE hz hf (pv 2)) pa_nil)) (pe_callB (show CallR _ (.builtin "repr") (rReprQ X.K) from call_reprU gu (by show X.A.units + 3 + 100 < cLine; omega)) (by rfl) T.n_repr (by decide +kernel) (pa_cons (pv 1) pa_nil)) (nomark _)))))))))
    (pss_one (ps_ret pe_bl)), ?_⟩
  refine ⟨rfl, known, told _ _ fun x H' s' hx kQ => ?_⟩
  refine ⟨true, XC.te, fun _ a na => ?_, fun z => nomatch z⟩
  have dd := dq.same s'
  have dep : dv.depth ≤ 60 := by have := sm.dep; omega
  have len : dv.shown.length ≤ sizeLine := by have := sm.len; rw [sizeLine_eq]; omega
  refine ⟨_, rfl, cN, x, _, rfl, rfl, hx, XC.ec, .inl ⟨_, _, true, rfl, .ty _, XC.k1, _, rfl, iteT ?_⟩⟩
  refine ⟨_, rfl, cN, x, _, rfl, rfl, hx, XC.ec, .inl ⟨_, _, false, rfl, .ty _, XC.k2, _, rfl, ?_⟩⟩
  refine ⟨_, rfl, _, rfl, iteT ?_⟩
  refine ⟨_, rfl, rfl, rfl, x, _, v, rfl, hx, rfl, ?_⟩
  refine ⟨v, dv, rfl, dd, sm.sh, dep, len, _, rfl, v, dv, rfl, dd, sm.sh, dep, len, rfl, ?_⟩
  rw [decide_eq_true rfl]
  exact kQ H' s'
end Sm

set_option Elab.async false
set_option linter.all false
set_option maxRecDepth 100000
set_option maxHeartbeats 16000000
namespace Sm
open PySem PySem.Spec PyProof.Rows L2 LamX
open C8 (pss_cut tCut)
/-! ### what stands while tables grow -/
theorem extTup {H H' : Hp} (e : ExtN H H') {b : Addr} {xs : List V} (h : H b = some (.tup xs)) : H' b = some (.tup xs) := e _ _ h fun ps z => by cases z
theorem extLst {H H' : Hp} (e : ExtN H H') {b : Addr} {xs : List V} (h : H b = some (.lst xs)) : H' b = some (.lst xs) := e _ _ h fun ps z => by cases z
theorem BoardAt.ext {H H' : Hp} {d : Addr} {k : Nat} {L : List Of} (h : BoardAt H d k L) (e : ExtN H H') : BoardAt H' d k L := by
  obtain ⟨t, qs, h1, h2, h3⟩ := h
  exact ⟨t, qs, extTup e h1, extTup e h2, h3.1, fun i q g => by obtain ⟨o, a, b⟩ := h3.2 i q g; exact ⟨o, a, extTup e b⟩⟩
theorem Deck.ext {H H' : Hp} {p l : Addr} {n : Int} (D : Deck H p l n) (e : ExtN H H') : Deck H' p l n := by
  obtain ⟨cells, h1, h2⟩ := D.hl
  exact ⟨extLst e D.hp, cells, extLst e h1, h2⟩
theorem Tabs.fr {H H' : Hp} {p l : Addr} {n : Int} {TT : List (Addr × Str)} (t : Tabs TT H) (f : Fr p l H H') (D : Deck H p l n) : Tabs TT H' := by
  obtain ⟨cells, hl, _⟩ := D.hl
  have hp := D.hp
  intro x hx
  obtain ⟨ps, h1, h2, h3⟩ := t x hx
  have n1 : x.1 ≠ p := fun e => by
    rw [e, hp] at h1
    cases h1
  have n2 : x.1 ≠ l := fun e => by
    rw [e, hl] at h1
    cases h1
  refine ⟨ps, f _ _ n1 n2 h1, h2, fun pos cv hc => ?_⟩
  obtain ⟨c, rfl, hcd⟩ := h3 pos cv hc
  refine ⟨c, rfl, f _ _ (fun e => ?_) (fun e => ?_) hcd⟩
  · rw [e, hp] at hcd
    cases hcd
  · rw [e, hl] at hcd
    cases hcd
/-- all but the deck and the tables stay -/
def FrN (p l : Addr) (H H' : Hp) : Prop := ∀ b o, b ≠ p → b ≠ l → H b = some o → (∀ ps, o ≠ .tbl ps) → H' b = some o
theorem FrN.trans {p l : Addr} {H H1 H2 : Hp} (a : FrN p l H H1) (b : FrN p l H1 H2) : FrN p l H H2 := fun c o h1 h2 h n => b c o h1 h2 (a c o h1 h2 h n) n
theorem FrN.ext {p l : Addr} {H H' : Hp} (e : ExtN H H') : FrN p l H H' := fun b o _ _ h n => e b o h n
theorem FrN.of {p l : Addr} {H H' : Hp} (e : Fr p l H H') : FrN p l H H' := fun b o h1 h2 h _ => e b o h1 h2 h
theorem FrN.tup {p l b : Addr} {n : Int} {H H' : Hp} {xs : List V} (f : FrN p l H H') (D : Deck H p l n) (h : H b = some (.tup xs)) : H' b = some (.tup xs) := by
  obtain ⟨cells, hl, _⟩ := D.hl
  have hp := D.hp
  refine f _ _ (fun e => ?_) (fun e => ?_) h fun ps z => by cases z
  · rw [e, hp] at h; cases h
  · rw [e, hl] at h; cases h
theorem BoardAt.frN {H H' : Hp} {d a l : Addr} {n : Int} {k : Nat} {L : List Of} (h : BoardAt H d k L) (f : FrN a l H H') (D : Deck H a l n) : BoardAt H' d k L := by
  obtain ⟨t, qs, h1, h2, h3⟩ := h
  exact ⟨t, qs, f.tup D h1, f.tup D h2, h3.1, fun i q g => by obtain ⟨o, a, b⟩ := h3.2 i q g; exact ⟨o, a, f.tup D b⟩⟩
/-! data of any kind does not stand on tables -/
mutual
theorem Dq.ext {K : PySem.W.Frag} {H H' : Hp} (e : ExtN H H') : ∀ {d : PyData} {v : V}, Dq K H v d → Dq K H' v d
  | _, _, .non => .non
  | _, _, .bl b => .bl b
  | _, _, .int i => .int i
  | _, _, .str x => .str x
  | _, _, .lst hs ne ha => .lst (extLst e hs) ne (Dq.extAll e ha)
  | _, _, .tup hs ha => .tup (extTup e hs) (Dq.extAll e ha)
  | _, _, .dic kvs hk => .dic kvs (e _ _ hk fun ps z => by cases z)
theorem Dq.extAll {K : PySem.W.Frag} {H H' : Hp} (e : ExtN H H') : ∀ {ds : List PyData} {vs : List V}, DqAll K H vs ds → DqAll K H' vs ds
  | _, _, .nil => .nil
  | _, _, .cons h1 h2 => .cons (Dq.ext e h1) (Dq.extAll e h2)
end
theorem take_ni {l : List Nat} {j : Nat} {x : V} (h : ((ni l).map V.int)[j]? = some x) : ∃ c : Nat, l[j]? = some c ∧ x = .int (c : Int) := by
  rw [List.getElem?_map, List.getElem?_map] at h
  cases e : l[j]? with
  | none => rw [e] at h; cases h
  | some c =>
    rw [e] at h
    exact ⟨c, rfl, (Option.some.inj h).symm⟩
theorem rg_ni (k : Nat) : rgV 0 (k : Int) = (ni (List.range k)).map V.int := by
  unfold rgV ni
  rw [List.map_map, show (((k : Nat) : Int) - 0).toNat = k by omega]
  refine List.map_congr_left fun i _ => ?_
  show V.int (0 + (i : Int)) = V.int (i : Int)
  rw [Int.zero_add]
def blD (bs : List Bool) : PyData := .list (bs.map PyData.bool)
theorem dp_bls {K : PySem.W.Frag} {H : Hp} : ∀ bs : List Bool, DpAll K H (bs.map V.bl) (bs.map PyData.bool)
  | [] => .nil
  | b :: bs => .cons (.bl b) (dp_bls bs)
theorem bls_lay : ∀ bs : List Bool, PyData.canLayAll0 (bs.map PyData.bool) = true ∧ PyData.depthAll (bs.map PyData.bool) ≤ 1
  | [] => ⟨rfl, Nat.zero_le _⟩
  | b :: bs => by
    obtain ⟨h1, h2⟩ := bls_lay bs
    simp only [List.map_cons, PyData.canLayAll0, PyData.canLay0, PyData.depthAll, PyData.depth, h1, Bool.and_self, true_and]
    omega
theorem blD_shaped (bs : List Bool) : SeqAt.shaped (blD bs) = true := by
  obtain ⟨h1, h2⟩ := bls_lay bs
  have e : (blD bs).depth ≤ 64 := by
    unfold blD
    simp only [PyData.depth]
    omega
  have l : (blD bs).canLay0 = true := by
    unfold blD
    simp only [PyData.canLay0, h1]
  unfold SeqAt.shaped
  rw [l, decide_eq_true e]
  rfl
theorem blD_eqv (bs : List Bool) : PyData.eqv (blD bs) (blD bs) = true := SeqAt.eqv_refl _ (SeqAt.canLay_of_shaped (blD_shaped bs))
abbrev lamP : Arguments := { posonlyargs := [], args := [], vararg := none, kwonlyargs := [], kw_defaults := [], kwarg := none, defaults := [] }
section
variable {P : Program} {w : World} {K : PySem.W.Frag} {mg : Str → Option Value} {base : Heap} {cN fB c Pt : Addr} {TT : List (Addr × Str)}
abbrev s_l_right : Stmt := topS 16
abbrev N_l_right : List Str := ["_law_deck_here", "_law_board_here", "_law_kinds", "_law_a", "_law_due", "_law_wrong", "_law_other", "_law_c"]
theorem sc_l_right : FnScope N_l_right ["_law_deck_here", "_law_board_here"] (defScope s_l_right) := ⟨rfl, rfl, rfl, by decide +kernel, rfl, by decide +kernel, by decide +kernel⟩
abbrev X_l_right (P : Program) (w : World) (K : PySem.W.Frag) (mg : Str → Option Value) (base : Heap) (f c : Addr) (A : Around) (outer : List Env) (s : Shared) (H : Hp) (E : XK) : Cx := (cxOf CX0 P w K mg base N_l_right "_law_right" (defScope s_l_right) f (.ref c) A outer s H E).nox
abbrev q_l_right : Str := ("_law_right" : Str) ++ (".<locals>." : Str) ++ ("<lambda>" : Str)
theorem pe_nk {f : Addr} {A : Around} {outer : List Env} {s : Shared} {H : Hp} {E : XK} {e0 e1 e2 : Expr} {ta : TA} {j : Nat} {y : Str} {p1 p2 p5 p6 p7 py : Pos} (T : Txt mg) (XC : Txn K mg cN fB) (D : Df K mg "_law_no_kind" s_l_no_kind ["_law_call", "_law_value"]) (C : CalX P w K mg base "leads" ["board", "one", "other"] 3 (sp_leadsX K cN))
    (gu : A.guards = some []) (TB : TabB base mg c Pt) (hmT : (Pt, q_l_right) ∈ TT) (hu : ∀ p ∈ TT, p.1 = Pt → p.2 = q_l_right) (hr : Room 5 (X_l_right P w K mg base f c A outer s H E).A)
    {sc : Scope} (hL : lamSB (defScope s_l_right) sc = true) (hgl : sc.names.lookup ("leads" : Str) = some NameKind.globalImplicit) (ha : ∀ (A' : Around) (outer' : List Env) (s' : Shared) (H' : Hp) (E' : XK) (f' c' : Addr), Room 3 (A'.deeper (lamEnv (X_l_right P w K mg base f c A outer s H E) sc s'.heap.objs.size f' c')) → PA (lamCx (X_l_right P w K mg base f c A outer s H E) A' outer' s' H' E' sc f' c') [e0, e1, e2] ta)
    (named : N_l_right[j]? = some y) (seen : Vis (defScope s_l_right) y) (he : ∀ env : Env, starEach (e0 :: [e1, e2]) env = (false, eval e0 env) :: starEach [e1, e2] env := by intro _; rfl) (hpl : ∀ (pos : Pos) (env : Env), (backTo pos (starEach [e1, e2] env)).any (·.1) = false := by intro _ _; rfl) (hyd : (y == ("__debug__" : Str)) = false := by decide) (hycd : (y == ("__classdict__" : Str)) = false := by decide) :
    PE (X_l_right P w K mg base f c A outer s H E) (.Call (.Name "_law_no_kind" p1) [.Lambda lamP (.Call (.Name "leads" p2) [e0, e1, e2] [] p5) sc p6, .Name y py] [] p7) (tLam2 TT (TNk K cN) (fun E => tCallS (sp_leadsX K cN) (fun _ => E) ta) j) := by
  obtain ⟨g, fd, F, m, bd⟩ := D
  obtain ⟨oc, od, kV, doc, pm, an, cdv, ct, osl, rfl, look, coded⟩ := F.ex
  obtain ⟨fb, fdb, G, mb, kb, bb⟩ := C
  refine pe_lamcall2 (T := TT) (k := 3) (Ng := N_l_no_kind) rfl m F.kp look coded bd sc_l_no_kind rfl (by first | exact Or.inl rfl | exact Or.inr (Or.inl rfl) | exact Or.inr (Or.inr rfl)) (nk_gives T XC gu (by have := hr.un; omega) g cdv) TB rfl hmT hu hr (lamS_by hL) rfl (fun _ _ _ _ _ => rfl) (fun A' outer' s' H' E' f' c' hr' => ?_) named seen (hyd := hyd) (hycd := hycd)
  exact pe_callS G hr' hgl mb kb bb (fun σ => passAt (takes_of rfl rfl rfl rfl) σ) (ha A' outer' s' H' E' f' c' hr') (he := he _) (hpl := hpl _ _)
def sp_l_right (K : PySem.W.Frag) (TT : List (Addr × Str)) : Sp := fun vs H Q _ => ∃ (p l d : Addr) (n : Int) (k : Nat) (L : List Of), vs = [.ref p, .ref d] ∧ Deck H p l n ∧ 0 ≤ n ∧ n ≤ 800000 ∧ BoardAt H d k L ∧ (∀ o ∈ L, OfOk k o) ∧ 1 ≤ k ∧ k ≤ 4 ∧ Tabs TT H ∧
  ∀ H' n', FrN p l H H' → Deck H' p l n' → n ≤ n' → n' ≤ n + 20 → Tabs TT H' → Q (.bl true) H'
/-- the law's word of a call of leads that must raise NoKind with v -/
theorem nk_told {ta : TA} {σ : L2.St} {H : Hp} {Q : VK} {d : Addr} {k j : Nat} {L : List Of} {v v1 v2 : V} {dv d1 d2 : PyData} (tb : Tabs TT H) (hv : σ[j]? = some (some v)) (q : Dq K H v dv) (sm : Sml 3 300 dv) (hta : ∀ (H1 : Hp) (Q2 : List V → Hp → Prop), Q2 [.ref d, v1, v2] H1 → ta σ H1 Q2)
    (B : BoardAt H d k L) (ok : ∀ o ∈ L, OfOk k o) (k4 : k ≤ 4) (q1 : Dq K H v1 d1) (q2 : Dq K H v2 d2) (bad : (inI d1 0 ((k : Int) - 1) = false ∧ v1 = v) ∨ (inI d1 0 ((k : Int) - 1) = true ∧ inI d2 0 ((k : Int) - 1) = false ∧ v2 = v))
    (kQ : ∀ H', ExtN H H' → Tabs TT H' → Q (.bl true) H') : tLam2 TT (TNk K cN) (fun E => tCallS (sp_leadsX K cN) (fun _ => E) ta) j σ H Q := by
  refine ⟨tb, v, hv, fun H1 e1 t1 => ⟨dv, sm, q.ext e1, fun out Q' acc => ?_⟩⟩
  refine hta H1 _ ⟨d, k, L, v1, v2, d1, d2, rfl, B.ext e1, ok, k4, q1.ext e1, q2.ext e1, fun z H' y s hy => ?_, fun z1 z2 H' y s hy => ?_, fun a c ak ck z1 z2 => ?_⟩
  · rcases bad with ⟨_, rfl⟩ | ⟨z1, _⟩
    · exact acc y H' s hy fun H2 s2 => kQ H2 (e1.trans (ExtN.of s2)) (t1.ext s2)
    · rw [z1] at z; cases z
  · rcases bad with ⟨z, _⟩ | ⟨_, _, rfl⟩
    · rw [z] at z1; cases z1
    · exact acc y H' s hy fun H2 s2 => kQ H2 (e1.trans (ExtN.of s2)) (t1.ext s2)
  · rcases bad with ⟨z, _⟩ | ⟨_, z, _⟩
    · rw [z1, inI_of ak] at z; cases z
    · rw [z2, inI_of ck] at z; cases z
theorem ok_l_rightC {f : Addr} {fd : FuncData} (T : Txt mg) (XC : Txn K mg cN fB) (F : Fun K "_law_right" "_law_right" s_l_right f fd) (code : fd.code = .ref c) (TB : TabB base mg c Pt) (hmT : (Pt, q_l_right) ∈ TT) (hu : ∀ p ∈ TT, p.1 = Pt → p.2 = q_l_right) (D_l_no_kind : Df K mg "_law_no_kind" s_l_no_kind ["_law_call", "_law_value"])
    (X_leads : CalX P w K mg base "leads" ["board", "one", "other"] 3 (sp_leadsX K cN)) (C_l_bad_kind : Cal P w K mg base "_law_bad_kind" ["_law_deck_here", "_law_kinds"] 3 (sp_l_bad_kind K)) (C_l_draw : Cal P w K mg base "_law_draw" ["_law_deck_here", "_law_many"] 1 (sp_l_draw K)) (C_l_reached : Cal P w K mg base "_law_reached" ["_law_board_here", "_law_a"] 1 (sp_l_reached K)) :
    FnG P w K mg base 6 f fd ["_law_deck_here", "_law_board_here"] (sp_l_right K TT) := by
  obtain ⟨f_l_bad_kind, fd_l_bad_kind, G_l_bad_kind, m_l_bad_kind, k_l_bad_kind, b_l_bad_kind⟩ := C_l_bad_kind
  obtain ⟨f_l_draw, fd_l_draw, G_l_draw, m_l_draw, k_l_draw, b_l_draw⟩ := C_l_draw
  obtain ⟨f_l_reached, fd_l_reached, G_l_reached, m_l_reached, k_l_reached, b_l_reached⟩ := C_l_reached
  obtain ⟨f_leads, fd_leads, G_leads, m_leads, k_leads, b_leads⟩ := ok_leads0 X_leads
  refine FnG.bodyC F code sc_l_right (fun vs H Q E h => ?_) (fun A outer s H vs Q E gu hr h => ?_)
  · obtain ⟨p, l, d, n, k, L, rfl, _⟩ := h
    rfl
  obtain ⟨p, l, d, n, k, L, rfl, D, n0, n1, B, ok, k1, k4, tb, kk⟩ := h
  obtain ⟨t, qs, hd, ht, hL⟩ := id B
  refine ⟨_, (pss_cons (ps_set (i := 2) sc_l_right.nd rfl (Or.inl rfl) (pe_listRg rfl (by rfl) T.n_list (prg_1 (by rfl) T.n_range (pe_ix ix_tup (pv 1) pe_int (fun _ _ => rfl)))))
    (pss_cons (ps_for PassesOwn.never rfl (pi_list (pv 2)) (pg_name (i := 3) sc_l_right.nd rfl (Or.inr rfl))
      (pss_cons (ps_set (i := 4) sc_l_right.nd rfl (Or.inr rfl) (pe_call G_l_reached (hr.mono (by decide)) (by rfl) m_l_reached k_l_reached b_l_reached .nil pass0 (pa_cons (pv 1) (pa_cons (pv 3) pa_nil))))
    (pss_cons (ps_if (pt_cmpR (op_neD hr.units) (pe_lc (own := [("_law_c", 7)]) (g := gName 7) (tt := tYes) rfl sc_l_right.nd (pi_list (pv 2)) (blkOk_by (own := [("_law_c", 7)]) (N := N_l_right) (sc := defScope s_l_right) (by decide +kernel)) (fun _ _ _ _ _ => pg_name (i := 7) sc_l_right.nd rfl (Or.inl rfl)) (fun _ _ _ _ _ => pts_nil) (fun _ _ _ _ _ => (pe_call G_leads (hr.mono (by decide)) (by rfl) m_leads k_leads b_leads .nil pass0 (pa_cons (pv 1) (pa_cons (pv 3) (pa_cons (pv 7) pa_nil)))))) (pe_lc (own := [("_law_c", 7)]) (g := gName 7) (tt := tYes) rfl sc_l_right.nd (pi_list (pv 2)) (blkOk_by (own := [("_law_c", 7)]) (N := N_l_right) (sc := defScope s_l_right) (by decide +kernel)) (fun _ _ _ _ _ => pg_name (i := 7) sc_l_right.nd rfl (Or.inl rfl)) (fun _ _ _ _ _ => pts_nil) (fun _ _ _ _ _ => (pe_cmpR (show OpR _ _ (rIn K false) from op_in_seq) (pv 7) (pv 4) (by rfl)))) (nomark _)) (pss_one (ps_ret pe_bl)) pss_nil)
    (pss_one (ps_if (pt_not (pt_val (pe_callB (cr_all rfl) (by rfl) T.n_all (by decide +kernel) (pa_cons (pe_lc (own := [("_law_c", 7)]) (g := gName 7) (tt := tYes) rfl sc_l_right.nd (pi_list (pv 2)) (blkOk_by (own := [("_law_c", 7)]) (N := N_l_right) (sc := defScope s_l_right) (by decide +kernel)) (fun _ _ _ _ _ => pg_name (i := 7) sc_l_right.nd rfl (Or.inl rfl)) (fun _ _ _ _ _ => pts_nil) (fun _ _ _ _ _ => (pe_callB (show CallR _ (.builtin "isinstance") (rIsQ K) from call_isQ) (by rfl) T.n_isinstance (by decide +kernel) (pa_cons (pe_call G_leads (hr.mono (by decide)) (by rfl) m_leads k_leads b_leads .nil pass0 (pa_cons (pv 1) (pa_cons (pv 3) (pa_cons (pv 7) pa_nil)))) (pa_cons (pe_bltn (v := .ty "bool") (by rfl) T.n_bool (by decide +kernel) rfl) pa_nil))))) pa_nil)))) (pss_one (ps_ret pe_bl)) pss_nil)))))
    (pss_cons (ps_asg (pe_tup (pa_cons (pe_call G_l_draw (hr.mono (by decide)) (by rfl) m_l_draw k_l_draw b_l_draw .nil pass0 (pa_cons (pv 0) (pa_cons (pe_ix ix_tup (pv 1) pe_int (fun _ _ => rfl)) pa_nil))) (pa_cons (pe_call G_l_bad_kind (hr.mono (by decide)) (by rfl) m_l_bad_kind k_l_bad_kind b_l_bad_kind .nil pass0 (pa_cons (pv 0) (pa_cons (pe_ix ix_tup (pv 1) pe_int (fun _ _ => rfl)) pa_nil))) (pa_cons (pe_call G_l_bad_kind (hr.mono (by decide)) (by rfl) m_l_bad_kind k_l_bad_kind b_l_bad_kind .nil pass0 (pa_cons (pv 0) (pa_cons (pe_ix ix_tup (pv 1) pe_int (fun _ _ => rfl)) pa_nil))) pa_nil)))) (pg_tup (by rfl) (pgs_cons (pg_name (i := 3) sc_l_right.nd rfl (Or.inr rfl)) (pgs_cons (pg_name (i := 5) sc_l_right.nd rfl (Or.inr rfl)) (pgs_cons (pg_name (i := 6) sc_l_right.nd rfl (Or.inr rfl)) pgs_nil)))))
    (pss_cons (ps_if (pt_not (pt_val (pe_nk (j := 5) T XC D_l_no_kind X_leads gu TB hmT hu (hr.mono (by decide)) (by decide +kernel) rfl (fun _ _ _ _ _ _ _ hr => (pa_cons (pv 1) (pa_cons (pv 5) (pa_cons (pv 3) pa_nil)))) rfl (by first | exact Or.inl rfl | exact Or.inr (Or.inl rfl) | exact Or.inr (Or.inr rfl))))) (pss_one (ps_ret pe_bl)) pss_nil)
    (pss_cons (ps_if (pt_not (pt_val (pe_nk (j := 5) T XC D_l_no_kind X_leads gu TB hmT hu (hr.mono (by decide)) (by decide +kernel) rfl (fun _ _ _ _ _ _ _ hr => (pa_cons (pv 1) (pa_cons (pv 3) (pa_cons (pv 5) pa_nil)))) rfl (by first | exact Or.inl rfl | exact Or.inr (Or.inl rfl) | exact Or.inr (Or.inr rfl))))) (pss_one (ps_ret pe_bl)) pss_nil)
    (pss_one (ps_ret (pe_nk (j := 5) T XC D_l_no_kind X_leads gu TB hmT hu (hr.mono (by decide)) (by decide +kernel) rfl (fun _ _ _ _ _ _ _ hr => (pa_cons (pv 1) (pa_cons (pv 5) (pa_cons (pv 6) pa_nil)))) rfl (by first | exact Or.inl rfl | exact Or.inr (Or.inl rfl) | exact Or.inr (Or.inr rfl)))))))))), ?_⟩
  refine ⟨_, rfl, _, _, _, _, rfl, rfl, SqT.of hd, atI_nat (j := 0) rfl, _, rfl, RgOk.of_le (by decide) (by omega) (by decide) (by omega), fun A0 nA => ?_⟩
  have sA := same_upd (o := .lst (rgV 0 (k : Int))) nA
  have hA : upd H A0 (.lst (rgV 0 (k : Int))) A0 = some (.lst ((ni (List.range k)).map V.int)) := by rw [upd_same, rg_ni]
  generalize upd H A0 (.lst (rgV 0 (k : Int))) = H1 at sA hA ⊢
  have lk : ((ni (List.range k)).map V.int).length = k := by unfold ni; rw [List.length_map, List.length_map, List.length_range]
  refine ⟨_, rfl, A0, rfl, ⟨_, SqL.of hA⟩, ?_⟩
  refine for_list (K := K) (a := A0) (xs := (ni (List.range k)).map V.int) (fun j σ H' => ∃ v3 v4 : Option V, σ = [some (.ref p), some (.ref d), some (.ref A0), v3, v4, none, none, none] ∧ Same H1 H')
    ⟨none, none, rfl, Same.refl _⟩ (fun j σ H' _ h => by obtain ⟨_, _, _, s'⟩ := h; exact SqL.of (s' _ _ hA)) ?_ ?_
  · rintro j x σ H2 hx ⟨v3, v4, rfl, s2⟩
    obtain ⟨a, ha, rfl⟩ := take_ni hx
    have ak : a < k := List.mem_range.mp (List.mem_of_getElem? ha)
    refine ⟨_, rfl, _, rfl, d, k, a, L, rfl, (B.same sA).same s2, ok, ak, k4, fun H3 q F s3 hq hF => ?_⟩
    have B3 := ((B.same sA).same s2).same s3
    have hA3 := s3 _ _ (s2 _ _ hA)
    refine ⟨_, rfl, A0, rfl, ⟨_, SqL.of hA3⟩, fun U1 nU1 => ?_⟩
    refine lc_mL (fun c => .bl (@decide (Lead L a c) (Classical.propDecidable _))) hA3 nU1 (by omega) ?_ gName_mono ?_
    · intro i x H4 hx s4 R hR
      obtain ⟨c, hc, rfl⟩ := take_ni hx
      obtain ⟨ci, rfl⟩ := List.getElem?_eq_some_iff.mp hc
      rw [List.length_range] at ci
      rw [List.getElem_range] at *
      exact ⟨rfl, _, rfl, _, rfl, _, rfl, d, k, L, a, i, rfl, B3.same s4, ok, k4, ak, ci, fun H5 s5 => hR H5 s5⟩
    intro H4 s4 hU1
    rw [lk] at hU1
    refine ⟨_, rfl, A0, rfl, ⟨_, SqL.of (s4 _ _ hA3)⟩, fun U2 nU2 => ?_⟩
    refine lc_mL (fun c => .bl (decide ((c : Int) ∈ ni F))) (s4 _ _ hA3) nU2 (by omega) ?_ gName_mono ?_
    · intro i x H5 hx s5 R hR
      obtain ⟨c, hc, rfl⟩ := take_ni hx
      obtain ⟨ci, rfl⟩ := List.getElem?_eq_some_iff.mp hc
      rw [List.getElem_range] at *
      exact ⟨rfl, _, rfl, _, rfl, q, _, rfl, .inl (SqL.of (s5 _ _ (s4 _ _ hq))), rfl, flat_int _, by rw [inV_int]; exact hR H5 (Same.refl _)⟩
    intro H5 s5 hU2
    rw [lk] at hU2
    have same : (List.range k).map (fun (c : Nat) => V.bl (decide ((c : Int) ∈ ni F))) = (List.range k).map fun c => V.bl (@decide (Lead L a c) (Classical.propDecidable _)) := List.map_congr_left fun c _ => by
      by_cases h : Lead L a c
      · rw [cdec.mpr h, decide_eq_true (mem_ni.mpr ((hF c).mpr h))]
      · rw [cdecf.mpr h, decide_eq_false fun z => h ((hF c).mp (mem_ni.mp z))]
    rw [same] at hU2
    obtain ⟨bs, hbs⟩ : ∃ bs : List Bool, (List.range k).map (fun c => V.bl (@decide (Lead L a c) (Classical.propDecidable _))) = bs.map V.bl := ⟨(List.range k).map fun c => @decide (Lead L a c) (Classical.propDecidable _), by rw [List.map_map]; rfl⟩
    rw [hbs] at hU1 hU2
    refine ⟨blD bs, blD bs, .lst (SqL.of (s5 _ _ hU1)) (dp_bls bs), .lst (SqL.of hU2) (dp_bls bs), blD_shaped bs, blD_shaped bs, ?_⟩
    rw [blD_eqv]
    refine ⟨_, rfl, iteF ?_⟩
    have B5 := (B3.same s4).same s5
    have hA5 := s5 _ _ (s4 _ _ hA3)
    refine ⟨_, rfl, A0, rfl, ⟨_, SqL.of hA5⟩, fun U3 nU3 => ?_⟩
    refine lc_mL (fun _ => .bl true) hA5 nU3 (by omega) ?_ gName_mono ?_
    · intro i x H6 hx s6 R hR
      obtain ⟨c, hc, rfl⟩ := take_ni hx
      obtain ⟨ci, rfl⟩ := List.getElem?_eq_some_iff.mp hc
      rw [List.length_range] at ci
      rw [List.getElem_range] at *
      exact ⟨rfl, _, rfl, _, rfl, _, rfl, d, k, L, a, i, rfl, B5.same s6, ok, k4, ak, ci, fun H7 s7 => ⟨_, .bool _, "bool", rfl, .bl _, .inr (.inl rfl), hR H7 s7⟩⟩
    intro H6 s6 hU3
    rw [lk] at hU3
    have all1 : (List.range k).map (fun _ => V.bl true) = (List.replicate k true).map V.bl := by rw [List.map_replicate, List.map_const', List.length_range]
    rw [all1] at hU3
    refine ⟨U3, _, rfl, SqL.of hU3, _, rfl, ?_⟩
    rw [show (List.replicate k true).all id = true by simp]
    exact iteF ⟨_, _, rfl, s2.trans (s3.trans (s4.trans (s5.trans s6)))⟩
  · rintro σ H2 ⟨v3, v4, rfl, s2⟩
    have D2 := (D.same sA).same s2
    have B2 := (B.same sA).same s2
    refine ⟨_, rfl, _, rfl, _, _, _, _, rfl, rfl, SqT.of (s2 _ _ (sA _ _ hd)), atI_nat (j := 0) rfl, p, l, n, _, rfl, D2, n0, by omega, by omega, by omega, fun ra H3 r0 r1 f3 D3 => ?_⟩
    have B3 := B2.fr f3 D2
    have hd3 := f3.tup D2 (s2 _ _ (sA _ _ hd))
    refine ⟨_, rfl, _, rfl, _, _, _, _, rfl, rfl, SqT.of hd3, atI_nat (j := 0) rfl, p, l, n + 1, k, rfl, D3, by omega, by omega, k1, k4, fun H4 x1 e1 f4 D4 q1 m1 bad1 => ?_⟩
    have B4 := B3.fr f4 D3
    have hd4 := f4.tup D3 hd3
    refine ⟨_, rfl, _, rfl, _, _, _, _, rfl, rfl, SqT.of hd4, atI_nat (j := 0) rfl, p, l, n + 1 + 1, k, rfl, D4, by omega, by omega, k1, k4, fun H5 x2 e2 f5 D5 q2 m2 bad2 => ?_⟩
    have B5 := B4.fr f5 D4
    refine ⟨(by show 3 ≤ sizeLine; decide), fun tp ntp => ?_⟩
    have st := same_upd (o := .tup [.int ra, x1, x2]) ntp
    refine ⟨tp, _, rfl, SqT.of upd_same, rfl, _, _, rfl, _, _, rfl, _, _, rfl, rfl, ?_⟩
    have dq1 : Dq K (upd H5 tp (.tup [.int ra, x1, x2])) x1 e1 := q1 _ fun b o hb ho => st _ _ (f5 _ _ (D3.lne hb).1 (D3.lne hb).2 ho)
    have dq2 : Dq K (upd H5 tp (.tup [.int ra, x1, x2])) x2 e2 := q2 _ fun b o hb ho => st _ _ ho
    have tb6 : Tabs TT (upd H5 tp (.tup [.int ra, x1, x2])) := LamX.Tabs.ext (Tabs.fr (Tabs.fr (Tabs.fr (LamX.Tabs.ext (LamX.Tabs.ext tb sA) s2) f3 D2) f4 D3) f5 D4) st
    have B6 := B5.same st
    have D6 := D5.same st
    have fr6 : FrN p l H (upd H5 tp (.tup [.int ra, x1, x2])) := FrN.of (((Same.fr (sA.trans s2)).trans f3).trans (f4.trans (f5.trans (Same.fr st))))
    generalize upd H5 tp (.tup [.int ra, x1, x2]) = H6 at dq1 dq2 tb6 B6 D6 fr6 ⊢
    obtain ⟨a, rfl⟩ : ∃ a : Nat, ra = (a : Int) := ⟨ra.toNat, by omega⟩
    have ak : a < k := by omega
    refine nk_told (d := d) (k := k) (L := L) tb6 rfl dq1 m1 (fun H1 Q2 h => ⟨_, rfl, _, rfl, _, rfl, h⟩) B6 ok k4 dq1 (.int _) (.inl ⟨bad1, rfl⟩) fun H7 g7 t7 => ?_
    refine ⟨_, rfl, iteF ?_⟩
    refine nk_told (d := d) (k := k) (L := L) t7 rfl (dq1.ext g7) m1 (fun H1 Q2 h => ⟨_, rfl, _, rfl, _, rfl, h⟩) (B6.ext g7) ok k4 (.int _) (dq1.ext g7) (.inr ⟨inI_of ak, bad1, rfl⟩) fun H8 g8 t8 => ?_
    refine ⟨_, rfl, iteF ?_⟩
    have g68 := g7.trans g8
    refine nk_told (d := d) (k := k) (L := L) t8 rfl (dq1.ext g68) m1 (fun H1 Q2 h => ⟨_, rfl, _, rfl, _, rfl, h⟩) (B6.ext g68) ok k4 (dq1.ext g68) (dq2.ext g68) (.inl ⟨bad1, rfl⟩) fun H9 g9 t9 => ?_
    exact kk H9 _ (fr6.trans (FrN.ext (g68.trans g9))) (D6.ext (g68.trans g9)) (by omega) (by omega) t9
end
end Sm

set_option Elab.async false
set_option linter.all false
set_option maxRecDepth 100000
set_option maxHeartbeats 16000000
namespace Sm
open PySem PySem.Spec PyProof.Rows L2 LamX
open C8 (pss_cut tCut)
def sp_lawT (K : PySem.W.Frag) (TT : List (Addr × Str)) : Sp := fun vs H Q _ => ∃ (a : Addr) (ns : List Int), vs = [.ref a] ∧ SqL K H a (ns.map V.int) ∧ ns.length ≤ 63 ∧ Tabs TT H ∧ ∀ H', Q (.bl true) H'
/-- a board that is asked -/
def Bd (H : Hp) (d : Addr) : Prop := ∃ (k : Nat) (L : List Of), BoardAt H d k L ∧ (∀ o ∈ L, OfOk k o) ∧ 1 ≤ k ∧ k ≤ 4
theorem Bd.same {H H' : Hp} {d : Addr} (b : Bd H d) (s : Same H H') : Bd H' d := by
  obtain ⟨k, L, h, r⟩ := b
  exact ⟨k, L, h.same s, r⟩
theorem Bd.frN {H H' : Hp} {d p l : Addr} {n : Int} (b : Bd H d) (f : FrN p l H H') (D : Deck H p l n) : Bd H' d := by
  obtain ⟨k, L, h, r⟩ := b
  exact ⟨k, L, h.frN f D, r⟩
theorem Bd.updL {H : Hp} {U d : Addr} {xs ys : List V} (b : Bd H d) (hU : H U = some (.lst xs)) : Bd (upd H U (.lst ys)) d := by
  obtain ⟨k, L, ⟨t, qs, h1, h2, h3⟩, r⟩ := b
  refine ⟨k, L, ⟨t, qs, ?_, ?_, h3.updL hU⟩, r⟩
  · rw [upd_ne (ne_of h1 hU (by intro q; cases q))]; exact h1
  · rw [upd_ne (ne_of h2 hU (by intro q; cases q))]; exact h2
theorem tabs_updL {TT : List (Addr × Str)} {H : Hp} {U : Addr} {xs ys : List V} (t : Tabs TT H) (hU : H U = some (.lst xs)) : Tabs TT (upd H U (.lst ys)) := by
  intro x hx
  obtain ⟨ps, h1, h2, h3⟩ := t x hx
  refine ⟨ps, ?_, h2, fun pos cv hc => ?_⟩
  · rw [upd_ne (ne_of h1 hU (by intro q; cases q))]; exact h1
  · obtain ⟨c, rfl, hcd⟩ := h3 pos cv hc
    exact ⟨c, rfl, by rw [upd_ne (ne_of hcd hU (by intro q; cases q))]; exact hcd⟩
theorem offs3 {H : Hp} {q1 q2 q3 : Addr} {o1 o2 o3 : Of} (h1 : OffAt H q1 o1) (h2 : OffAt H q2 o2) (h3 : OffAt H q3 o3) : OffsAt H [q1, q2, q3] [o1, o2, o3] := by
  refine ⟨rfl, fun i q e => ?_⟩
  match i, e with
  | 0, e => cases e; exact ⟨o1, rfl, h1⟩
  | 1, e => cases e; exact ⟨o2, rfl, h2⟩
  | 2, e => cases e; exact ⟨o3, rfl, h3⟩
section
variable {P : Program} {w : World} {K : PySem.W.Frag} {mg : Str → Option Value} {base : Heap} {TT : List (Addr × Str)}
abbrev s_law : Stmt := topS 17
abbrev N_law : List Str := ["_law_script", "_law_deck_here", "_law_boards", "_law_turn", "_law_kinds", "_law_offers", "_law_board_here"]
theorem sc_law : FnScope N_law ["_law_script"] (defScope s_law) := ⟨rfl, rfl, rfl, by decide +kernel, rfl, by decide +kernel, by decide +kernel⟩
theorem ok_lawC {f f_l_right : Addr} {fd fd_l_right : FuncData} (T : Txt mg) (F : Fun K "law" "law" s_law f fd) (C_l_deck : Cal P w K mg base "_law_deck" ["_law_script"] 1 (sp_l_deck K)) (C_l_draw : Cal P w K mg base "_law_draw" ["_law_deck_here", "_law_many"] 1 (sp_l_draw K)) (C_l_board : Cal P w K mg base "_law_board" ["_law_deck_here", "_law_kinds", "_law_many", "_law_upto"] 2 (sp_l_board K))
    (G_l_right : FnG P w K mg base 6 f_l_right fd_l_right ["_law_deck_here", "_law_board_here"] (sp_l_right K TT)) (m_l_right : mg "_law_right" = some (.ref f_l_right)) (k_l_right : PySem.W.keepIn K (.ref f_l_right) = true) (b_l_right : L2.Binds K fd_l_right ["_law_deck_here", "_law_board_here"] []) : FnG P w K mg base 7 f fd ["_law_script"] (sp_lawT K TT) := by
  obtain ⟨f_l_deck, fd_l_deck, G_l_deck, m_l_deck, k_l_deck, b_l_deck⟩ := C_l_deck
  obtain ⟨f_l_draw, fd_l_draw, G_l_draw, m_l_draw, k_l_draw, b_l_draw⟩ := C_l_draw
  obtain ⟨f_l_board, fd_l_board, G_l_board, m_l_board, k_l_board, b_l_board⟩ := C_l_board
  refine FnG.body F sc_law (fun vs H Q E h => ?_) (fun cdv A outer s H vs Q E gu hr h => ?_)
  · obtain ⟨a, ns, rfl, _⟩ := h
    rfl
  obtain ⟨a, ns, rfl, hS, hlen, tb, kk⟩ := h
  refine ⟨_, (pss_cons (ps_set (i := 1) sc_law.nd rfl (Or.inr rfl) (pe_call G_l_deck (hr.mono (by decide)) (by rfl) m_l_deck k_l_deck b_l_deck .nil pass0 (pa_cons (pv 0) pa_nil)))
    (pss_cons (ps_set (i := 2) sc_law.nd rfl (Or.inl rfl) (pe_lst (pa_cons (pe_tup (pa_cons pe_int (pa_cons (pe_tup pa_nil) pa_nil))) (pa_cons (pe_tup (pa_cons pe_int (pa_cons (pe_tup (pa_cons (pe_tup (pa_cons pe_int (pa_cons pe_int (pa_cons pe_int (pa_cons pe_int pa_nil))))) (pa_cons (pe_tup (pa_cons pe_int (pa_cons pe_int (pa_cons pe_int (pa_cons pe_int pa_nil))))) (pa_cons (pe_tup (pa_cons pe_int (pa_cons pe_int (pa_cons pe_int (pa_cons pe_int pa_nil))))) pa_nil)))) pa_nil))) pa_nil))))
    (pss_cons (ps_expr (pe_bm PySem.F.plainAttrs_list PySem.F.slot_list_append PySem.F.type_list_append mt_append (pv 2) (pa_cons (pe_tup (pa_cons pe_int (pa_cons (pe_tup (pa_cons (pe_tup (pa_cons pe_int (pa_cons pe_int (pa_cons pe_int (pa_cons pe_int pa_nil))))) (pa_cons (pe_tup (pa_cons pe_int (pa_cons pe_int (pa_cons pe_int (pa_cons pe_int pa_nil))))) (pa_cons (pe_tup (pa_cons pe_int (pa_cons pe_int (pa_cons pe_int (pa_cons pe_int pa_nil))))) pa_nil)))) pa_nil))) pa_nil)))
    (pss_cons (ps_for PassesOwn.never rfl (pi_range1 (by rfl) T.n_range (pa_cons pe_int pa_nil)) (pg_name (i := 3) sc_law.nd rfl (Or.inl rfl))
      (pss_cons (ps_asg (pe_call G_l_board (hr.mono (by decide)) (by rfl) m_l_board k_l_board b_l_board .nil pass0 (pa_cons (pv 1) (pa_cons (pe_op op_add pe_int (pe_op op_modN (pe_callTy call_int1 (by rfl) T.n_int (by decide +kernel) (pa_cons (pv 3) pa_nil)) pe_int)) (pa_cons (pe_op op_add pe_int (pe_call G_l_draw (hr.mono (by decide)) (by rfl) m_l_draw k_l_draw b_l_draw .nil pass0 (pa_cons (pv 1) (pa_cons pe_int pa_nil)))) (pa_cons pe_int pa_nil))))) (pg_tup (by rfl) (pgs_cons (pg_name (i := 4) sc_law.nd rfl (Or.inl rfl)) (pgs_cons (pg_name (i := 5) sc_law.nd rfl (Or.inl rfl)) pgs_nil))))
    (pss_one (ps_expr (pe_bm PySem.F.plainAttrs_list PySem.F.slot_list_append PySem.F.type_list_append mt_append (pv 2) (pa_cons (pe_tup (pa_cons (pv 4) (pa_cons (pv 5) pa_nil))) pa_nil))))))
    (pss_one (ps_ret (pe_callB (cr_all rfl) (by rfl) T.n_all (by decide +kernel) (pa_cons (pe_lc (own := [("_law_board_here", 6)]) (g := gName 6) (tt := tYes) rfl sc_law.nd (pi_list (pv 2)) (blkOk_by (own := [("_law_board_here", 6)]) (N := N_law) (sc := defScope s_law) (by decide +kernel)) (fun _ _ _ _ _ => pg_name (i := 6) sc_law.nd rfl (Or.inl rfl)) (fun _ _ _ _ _ => pts_nil) (fun _ _ _ _ _ => (pe_callG G_l_right gu (hr.mono (by decide)) (by rfl) m_l_right k_l_right b_l_right (pa_cons (pv 1) (pa_cons (pv 6) pa_nil))))) pa_nil)))))))), ?_⟩
  refine ⟨_, rfl, a, ns, rfl, hS, hlen, fun H1 p l s1 D1 => ?_⟩
  have tb1 : Tabs TT H1 := LamX.Tabs.ext tb s1
  have le2 : 2 ≤ sizeLine := by decide
  have le3 : 3 ≤ sizeLine := by decide
  have le4 : 4 ≤ sizeLine := by decide
  refine ⟨(by show 0 ≤ sizeLine; decide), fun b1 nb1 => ⟨le2, fun b2 nb2 => ⟨le4, fun c1 nc1 => ⟨le4, fun c2 nc2 => ⟨le4, fun c3 nc3 => ⟨le3, fun c4 nc4 => ⟨le2, fun c5 nc5 => ⟨le2, fun U nU => ?_⟩⟩⟩⟩⟩⟩⟩⟩
  have w1 := same_upd (o := .tup []) nb1
  have w2 := same_upd (o := .tup [.int 1, .ref b1]) nb2
  have w3 := same_upd (o := .tup [.int 0, .int 1, .int 1, .int 0]) nc1
  have w4 := same_upd (o := .tup [.int 1, .int 1, .int 2, .int 3]) nc2
  have w5 := same_upd (o := .tup [.int 2, .int 30, .int 3, .int 1]) nc3
  have w6 := same_upd (o := .tup [.ref c1, .ref c2, .ref c3]) nc4
  have w7 := same_upd (o := .tup [.int 4, .ref c4]) nc5
  have w8 := same_upd (o := .lst [.ref b2, .ref c5]) nU
  have y7 := w7.trans w8
  have y6 := w6.trans y7
  have y5 := w5.trans y6
  have y4 := w4.trans y5
  have y3 := w3.trans y4
  have y2 := w2.trans y3
  have y1 := w1.trans y2
  have lneU := (D1.same (w1.trans (w2.trans (w3.trans (w4.trans (w5.trans (w6.trans w7))))))).lne nU
  have D2 := D1.same y1
  have tb2 := LamX.Tabs.ext tb1 y1
  have bd1 : Bd _ b2 := ⟨1, [], ⟨b1, [], y3 b2 (.tup [.int 1, .ref b1]) upd_same, y2 b1 (.tup []) upd_same, rfl, (fun i q e => by cases e)⟩, (fun o ho => by cases ho), Nat.le_refl _, by decide⟩
  have bd2 : Bd _ c5 := ⟨4, [⟨0, 1, 1, 0⟩, ⟨1, 1, 2, 3⟩, ⟨2, 30, 3, 1⟩], ⟨c4, [c1, c2, c3], w8 c5 (.tup [.int 4, .ref c4]) upd_same, y7 c4 (.tup [.ref c1, .ref c2, .ref c3]) upd_same, offs3 (y4 c1 (.tup [.int 0, .int 1, .int 1, .int 0]) upd_same) (y5 c2 (.tup [.int 1, .int 1, .int 2, .int 3]) upd_same) (y6 c3 (.tup [.int 2, .int 30, .int 3, .int 1]) upd_same)⟩,
    fun o ho => by
      simp only [List.mem_cons, List.not_mem_nil, or_false] at ho
      rcases ho with rfl | rfl | rfl <;> exact ⟨by decide, by decide, by decide, by decide, by decide, by decide, by decide⟩, by decide, by decide⟩
  have hU : upd (upd (upd (upd (upd (upd (upd (upd H1 b1 (.tup [])) b2 (.tup [.int 1, .ref b1])) c1 (.tup [.int 0, .int 1, .int 1, .int 0])) c2 (.tup [.int 1, .int 1, .int 2, .int 3])) c3 (.tup [.int 2, .int 30, .int 3, .int 1])) c4 (.tup [.ref c1, .ref c2, .ref c3])) c5 (.tup [.int 4, .ref c4])) U (.lst [.ref b2, .ref c5]) U = some (.lst (([b2, c5] : List Addr).map V.ref)) := upd_same
  generalize upd (upd (upd (upd (upd (upd (upd (upd H1 b1 (.tup [])) b2 (.tup [.int 1, .ref b1])) c1 (.tup [.int 0, .int 1, .int 1, .int 0])) c2 (.tup [.int 1, .int 1, .int 2, .int 3])) c3 (.tup [.int 2, .int 30, .int 3, .int 1])) c4 (.tup [.ref c1, .ref c2, .ref c3])) c5 (.tup [.int 4, .ref c4])) U (.lst [.ref b2, .ref c5]) = H2 at D2 tb2 bd1 bd2 hU ⊢
  clear y1 y2 y3 y4 y5 y6 y7 w1 w2 w3 w4 w5 w6 w7 w8
  refine ⟨_, rfl, .inl ⟨rfl, _, SqL.of hU⟩, le4, fun e1 ne1 => ⟨le4, fun e2 ne2 => ⟨le4, fun e3 ne3 => ⟨le3, fun e4 ne4 => ⟨le2, fun e5 ne5 => ?_⟩⟩⟩⟩⟩
  have v1 := same_upd (o := .tup [.int 0, .int 2, .int 1, .int 1]) ne1
  have v2 := same_upd (o := .tup [.int 2, .int 1, .int 3, .int 1]) ne2
  have v3 := same_upd (o := .tup [.int 3, .int 1, .int 0, .int 1]) ne3
  have v4 := same_upd (o := .tup [.ref e1, .ref e2, .ref e3]) ne4
  have v5 := same_upd (o := .tup [.int 4, .ref e4]) ne5
  have z4 := v4.trans v5
  have z3 := v3.trans z4
  have z2 := v2.trans z3
  have z1 := v1.trans z2
  have D3 := D2.same z1
  have tb3 := LamX.Tabs.ext tb2 z1
  have bd3 : Bd _ e5 := ⟨4, [⟨0, 2, 1, 1⟩, ⟨2, 1, 3, 1⟩, ⟨3, 1, 0, 1⟩], ⟨e4, [e1, e2, e3], upd_same, v5 e4 (.tup [.ref e1, .ref e2, .ref e3]) upd_same, offs3 (z2 e1 (.tup [.int 0, .int 2, .int 1, .int 1]) upd_same) (z3 e2 (.tup [.int 2, .int 1, .int 3, .int 1]) upd_same) (z4 e3 (.tup [.int 3, .int 1, .int 0, .int 1]) upd_same)⟩,
    fun o ho => by
      simp only [List.mem_cons, List.not_mem_nil, or_false] at ho
      rcases ho with rfl | rfl | rfl <;> exact ⟨by decide, by decide, by decide, by decide, by decide, by decide, by decide⟩, by decide, by decide⟩
  have bd1 := bd1.same z1
  have bd2 := bd2.same z1
  have hU := z1 _ _ hU
  generalize upd (upd (upd (upd (upd H2 e1 (.tup [.int 0, .int 2, .int 1, .int 1])) e2 (.tup [.int 2, .int 1, .int 3, .int 1])) e3 (.tup [.int 3, .int 1, .int 0, .int 1])) e4 (.tup [.ref e1, .ref e2, .ref e3])) e5 (.tup [.int 4, .ref e4]) = H3 at D3 tb3 bd1 bd2 bd3 hU ⊢
  refine ⟨U, _, _, rfl, rfl, hU, (by show 2 < sizeLine; decide), ?_⟩
  have hU3 : upd H3 U (.lst ((([b2, c5] : List Addr).map V.ref) ++ [.ref e5])) U = some (.lst (([b2, c5, e5] : List Addr).map V.ref)) := upd_same
  have D4 : Deck (upd H3 U (.lst ((([b2, c5] : List Addr).map V.ref) ++ [.ref e5]))) p l 0 := ⟨by rw [upd_ne lneU.1.symm]; exact D3.hp, by obtain ⟨cells, h1, h2⟩ := D3.hl; exact ⟨cells, by rw [upd_ne lneU.2.symm]; exact h1, h2⟩⟩
  have tb4 : Tabs TT (upd H3 U (.lst ((([b2, c5] : List Addr).map V.ref) ++ [.ref e5]))) := tabs_updL tb3 hU
  have bds : ∀ d ∈ ([b2, c5, e5] : List Addr), Bd (upd H3 U (.lst ((([b2, c5] : List Addr).map V.ref) ++ [.ref e5]))) d := fun d hd => by
    simp only [List.mem_cons, List.not_mem_nil, or_false] at hd
    rcases hd with rfl | rfl | rfl
    · exact bd1.updL hU
    · exact bd2.updL hU
    · exact bd3.updL hU
  have hU := hU3
  generalize upd H3 U (.lst ((([b2, c5] : List Addr).map V.ref) ++ [.ref e5])) = H4 at D4 tb4 bds hU ⊢
  clear hU3 bd1 bd2 bd3 z1 z2 z3 z4 v1 v2 v3 v4 v5 D3 D2 tb3 tb2
  refine ⟨_, rfl, (by decide), (by decide), ?_⟩
  refine for_range (lo := 0) (n := _) (fun i σ H' => ∃ (n' : Int) (ds : List Addr) (v3 v4 v5 : Option V), σ = [some (.ref a), some (.ref p), some (.ref U), v3, v4, v5, none] ∧ Deck H' p l n' ∧ 0 ≤ n' ∧ n' ≤ 201 * (i : Int) ∧ Tabs TT H' ∧ H' U = some (.lst (ds.map V.ref)) ∧ ds.length = 3 + i ∧ ∀ d ∈ ds, Bd H' d)
    ⟨0, [b2, c5, e5], none, none, none, rfl, D4, Int.le_refl _, by omega, tb4, hU, rfl, bds⟩ ?_ ?_
  · rintro i σ H5 hi ⟨n', ds, v3, v4, v5, rfl, D5, n0, n1, tb5, hU5, dl, bd5⟩
    have hi : i < 12 := hi
    have fm : (0 + (i : Int)).fmod 3 = (0 + (i : Int)) % 3 := fmod_pos (by decide)
    obtain ⟨k, hk⟩ : ∃ k : Nat, 2 + (0 + (i : Int)).fmod 3 = (k : Int) := ⟨(2 + (0 + (i : Int)).fmod 3).toNat, by rw [fm]; omega⟩
    rw [fm] at hk
    refine ⟨_, rfl, _, rfl, .inl ⟨_, rfl, _, _, rfl, rfl, (show (3 : Int) ≠ 0 by decide), _, _, rfl, rfl, _, rfl, p, l, n', 8, rfl, D5, n0, by omega, by decide, by decide, fun r H6 r0 r1 f6 D6 => ?_⟩⟩
    refine ⟨_, _, rfl, rfl, p, l, n' + 1, k, 1 + r, 4, (by rw [← hk, ← fm]; rfl), D6, by omega, by omega, by omega, by omega, by omega, by omega, by decide, by decide, fun H7 dB L n'' f7 D7 m0 m1 B7 ok7 l63 => ?_⟩
    have hd7 := B7
    obtain ⟨t, qs, hd, ht, hL⟩ := hd7
    have hU7 := f7 U _ lneU.1 lneU.2 (f6 U _ lneU.1 lneU.2 hU5)
    have tb7 := Tabs.fr (Tabs.fr tb5 f6 D5) f7 D6
    have bd7 : ∀ d ∈ ds, Bd H7 d := fun d hd => ((bd5 d hd).frN (FrN.of f6) D5).frN (FrN.of f7) D6
    refine ⟨dB, _, rfl, SqT.of hd, rfl, _, _, rfl, _, _, rfl, rfl, ?_⟩
    refine ⟨_, rfl, .inl ⟨rfl, _, SqL.of hU7⟩, _, rfl, _, rfl, le2, fun dn ndn => ?_⟩
    have sn := same_upd (o := .tup [.int (k : Int), .ref t]) ndn
    have hU8 := sn _ _ hU7
    have new : Bd (upd H7 dn (.tup [.int (k : Int), .ref t])) dn := ⟨k, L, ⟨t, qs, upd_same, sn _ _ ht, hL.same sn⟩, ok7, by omega, by omega⟩
    have D8 := D7.same sn
    have tb8 := LamX.Tabs.ext tb7 sn
    have bd8 : ∀ d ∈ ds, Bd _ d := fun d hd => (bd7 d hd).same sn
    refine ⟨U, _, _, rfl, rfl, hU8, ?_, n'', ds ++ [dn], _, _, _, rfl, ⟨by rw [upd_ne lneU.1.symm]; exact D8.hp, by obtain ⟨cells, h1, h2⟩ := D8.hl; exact ⟨cells, by rw [upd_ne lneU.2.symm]; exact h1, h2⟩⟩, by omega, by omega, tabs_updL tb8 hU8, by rw [upd_same, List.map_append]; rfl, by rw [List.length_append, dl]; rfl, fun d hd => ?_⟩
    · rw [List.length_map, dl]
      exact Nat.lt_of_le_of_lt (show 3 + i ≤ 20 by omega) (by decide)
    · rcases List.mem_append.mp hd with hd | hd
      · exact (bd8 d hd).updL hU8
      · rw [List.mem_singleton.mp hd]
        exact new.updL hU8
  · rintro σ H5 ⟨n', ds, v3, v4, v5, rfl, D5, n0, n1, tb5, hU5, dl, bd5⟩
    have n1 : n' ≤ 201 * 12 := n1
    have dl : ds.length = 15 := dl
    refine ⟨_, rfl, U, rfl, ⟨_, SqL.of hU5⟩, fun D nD => ?_⟩
    have sD := same_upd (o := .lst []) nD
    have DU : D ≠ U := (ne_of_none hU5 nD).symm
    have lD := D5.lne nD
    refine lc_list (K := K) (a := U) (xs := ds.map V.ref) (fun i H' => ∃ n2, Deck H' p l n2 ∧ 0 ≤ n2 ∧ n2 ≤ n' + 20 * (i : Int) ∧ Tabs TT H' ∧ H' U = some (.lst (ds.map V.ref)) ∧ H' D = some (.lst ((List.replicate i true).map V.bl)) ∧ ∀ d ∈ ds, Bd H' d)
      ⟨n', D5.same sD, n0, by omega, LamX.Tabs.ext tb5 sD, sD _ _ hU5, upd_same, fun d hd => (bd5 d hd).same sD⟩ (fun i H' _ h => by obtain ⟨_, _, _, _, _, h, _⟩ := h; exact SqL.of h) ?_ ?_
    · rintro i x H6 hx ⟨n2, D6, m0, m1, tb6, hU6, hD6, bd6⟩
      rw [List.getElem?_map] at hx
      cases e : ds[i]? with
      | none => rw [e] at hx; cases hx
      | some d =>
        rw [e] at hx
        have ex : x = .ref d := (Option.some.inj hx).symm
        subst ex
        have il := (List.getElem?_eq_some_iff.mp e).1
        obtain ⟨k, L, B, ok, k1, k4⟩ := bd6 d (List.mem_of_getElem? e)
        refine ⟨rfl, ?_⟩
        unfold tYes
        refine iteT ⟨_, rfl, _, rfl, p, l, d, n2, k, L, rfl, D6, m0, by omega, B, ok, k1, k4, tb6, fun H7 n3 f7 D7 q0 q1 tb7 => ?_⟩
        have hU7 := f7 U _ lneU.1 lneU.2 hU6 fun ps z => by cases z
        have hD7 := f7 D _ lD.1 lD.2 hD6 fun ps z => by cases z
        refine ⟨_, hD7, ?_, n3, ⟨by rw [upd_ne lD.1.symm]; exact D7.hp, by obtain ⟨cells, h1, h2⟩ := D7.hl; exact ⟨cells, by rw [upd_ne lD.2.symm]; exact h1, h2⟩⟩, by omega, by omega, tabs_updL tb7 hD7, by rw [upd_ne DU.symm]; exact hU7, ?_, fun d hd => ((bd6 d hd).frN f7 D6).updL hD7⟩
        · rw [List.length_map, List.length_replicate]
          exact Nat.lt_of_le_of_lt (show i ≤ 20 by omega) (by decide)
        · rw [upd_same, List.replicate_succ', List.map_append]
          rfl
    · rintro H6 ⟨n2, D6, m0, m1, tb6, hU6, hD6, bd6⟩
      refine ⟨D, _, rfl, SqL.of hD6, ?_⟩
      rw [show (List.replicate (ds.map V.ref).length true).all id = true by simp]
      exact kk H6
end
end Sm

set_option Elab.async false
set_option linter.all false
set_option maxRecDepth 100000
set_option maxHeartbeats 16000000
namespace Sm
open PySem PySem.Spec PyProof.Rows L2 LamX
theorem in1 {α : Type} {p : α → Prop} {a : α} (x : p a) : ∀ t ∈ [a], p t := by
  intro t ht
  rw [List.mem_singleton.mp ht]
  exact x
theorem all_mk {l : PySem.W.OpenLaw} {w : World} {K : PySem.W.Frag} {h : Heap} {mg : Str → Option Value} {fa : Addr} (X : K.In h) (G : h.Ns mainGlobals mg) (hfa : mg "law" = some (.ref fa)) {q : Program} (own : ∀ (nm : Str) (f : Addr), ((recsOf q).any fun e => e.name == nm) = true → mg nm = some (.ref f) → LamX.OwnTab K f h) {cR : Addr}
    {F_is_whole : Addr} {od_is_whole an_is_whole : Option Addr} {sl_is_whole : Array (Option Value)} {oc_is_whole kV_is_whole dc_is_whole pm_is_whole cd_is_whole ct_is_whole : Value} (a_is_whole : PySem.W.nsIn K mainGlobals "is_whole" = some (some (.ref F_is_whole))) (l_is_whole : K.lookup F_is_whole = some ⟨oc_is_whole, od_is_whole, .func (PySem.W.fnOf "is_whole" "is_whole" (defArgs s_is_whole) (defBody s_is_whole) (defScope s_is_whole) .none kV_is_whole dc_is_whole pm_is_whole an_is_whole cd_is_whole ct_is_whole), sl_is_whole⟩) (c_is_whole : PySem.W.codeIn K cd_is_whole "is_whole" = true) (k_is_whole : PySem.W.keepIn K (.ref F_is_whole) = true)
    {F_is_within : Addr} {od_is_within an_is_within : Option Addr} {sl_is_within : Array (Option Value)} {oc_is_within kV_is_within dc_is_within pm_is_within cd_is_within ct_is_within : Value} (a_is_within : PySem.W.nsIn K mainGlobals "is_within" = some (some (.ref F_is_within))) (l_is_within : K.lookup F_is_within = some ⟨oc_is_within, od_is_within, .func (PySem.W.fnOf "is_within" "is_within" (defArgs s_is_within) (defBody s_is_within) (defScope s_is_within) .none kV_is_within dc_is_within pm_is_within an_is_within cd_is_within ct_is_within), sl_is_within⟩) (c_is_within : PySem.W.codeIn K cd_is_within "is_within" = true) (k_is_within : PySem.W.keepIn K (.ref F_is_within) = true)
    {F_leads : Addr} {od_leads an_leads : Option Addr} {sl_leads : Array (Option Value)} {oc_leads kV_leads dc_leads pm_leads cd_leads ct_leads : Value} (a_leads : PySem.W.nsIn K mainGlobals "leads" = some (some (.ref F_leads))) (l_leads : K.lookup F_leads = some ⟨oc_leads, od_leads, .func (PySem.W.fnOf "leads" "leads" (defArgs s_leads) (defBody s_leads) (defScope s_leads) .none kV_leads dc_leads pm_leads an_leads cd_leads ct_leads), sl_leads⟩) (c_leads : PySem.W.codeIn K cd_leads "leads" = true) (k_leads : PySem.W.keepIn K (.ref F_leads) = true)
    {F_leads_from : Addr} {od_leads_from an_leads_from : Option Addr} {sl_leads_from : Array (Option Value)} {oc_leads_from kV_leads_from dc_leads_from pm_leads_from cd_leads_from ct_leads_from : Value} (a_leads_from : PySem.W.nsIn K mainGlobals "leads_from" = some (some (.ref F_leads_from))) (l_leads_from : K.lookup F_leads_from = some ⟨oc_leads_from, od_leads_from, .func (PySem.W.fnOf "leads_from" "leads_from" (defArgs s_leads_from) (defBody s_leads_from) (defScope s_leads_from) .none kV_leads_from dc_leads_from pm_leads_from an_leads_from cd_leads_from ct_leads_from), sl_leads_from⟩) (c_leads_from : PySem.W.codeIn K cd_leads_from "leads_from" = true) (k_leads_from : PySem.W.keepIn K (.ref F_leads_from) = true)
    {F_l_deck : Addr} {od_l_deck an_l_deck : Option Addr} {sl_l_deck : Array (Option Value)} {oc_l_deck kV_l_deck dc_l_deck pm_l_deck cd_l_deck ct_l_deck : Value} (a_l_deck : PySem.W.nsIn K mainGlobals "_law_deck" = some (some (.ref F_l_deck))) (l_l_deck : K.lookup F_l_deck = some ⟨oc_l_deck, od_l_deck, .func (PySem.W.fnOf "_law_deck" "_law_deck" (defArgs s_l_deck) (defBody s_l_deck) (defScope s_l_deck) .none kV_l_deck dc_l_deck pm_l_deck an_l_deck cd_l_deck ct_l_deck), sl_l_deck⟩) (c_l_deck : PySem.W.codeIn K cd_l_deck "_law_deck" = true) (k_l_deck : PySem.W.keepIn K (.ref F_l_deck) = true)
    {F_l_draw : Addr} {od_l_draw an_l_draw : Option Addr} {sl_l_draw : Array (Option Value)} {oc_l_draw kV_l_draw dc_l_draw pm_l_draw cd_l_draw ct_l_draw : Value} (a_l_draw : PySem.W.nsIn K mainGlobals "_law_draw" = some (some (.ref F_l_draw))) (l_l_draw : K.lookup F_l_draw = some ⟨oc_l_draw, od_l_draw, .func (PySem.W.fnOf "_law_draw" "_law_draw" (defArgs s_l_draw) (defBody s_l_draw) (defScope s_l_draw) .none kV_l_draw dc_l_draw pm_l_draw an_l_draw cd_l_draw ct_l_draw), sl_l_draw⟩) (c_l_draw : PySem.W.codeIn K cd_l_draw "_law_draw" = true) (k_l_draw : PySem.W.keepIn K (.ref F_l_draw) = true)
    {F_l_one : Addr} {od_l_one an_l_one : Option Addr} {sl_l_one : Array (Option Value)} {oc_l_one kV_l_one dc_l_one pm_l_one cd_l_one ct_l_one : Value} (a_l_one : PySem.W.nsIn K mainGlobals "_law_one" = some (some (.ref F_l_one))) (l_l_one : K.lookup F_l_one = some ⟨oc_l_one, od_l_one, .func (PySem.W.fnOf "_law_one" "_law_one" (defArgs s_l_one) (defBody s_l_one) (defScope s_l_one) .none kV_l_one dc_l_one pm_l_one an_l_one cd_l_one ct_l_one), sl_l_one⟩) (c_l_one : PySem.W.codeIn K cd_l_one "_law_one" = true) (k_l_one : PySem.W.keepIn K (.ref F_l_one) = true)
    {F_l_board : Addr} {od_l_board an_l_board : Option Addr} {sl_l_board : Array (Option Value)} {oc_l_board kV_l_board dc_l_board pm_l_board cd_l_board ct_l_board : Value} (a_l_board : PySem.W.nsIn K mainGlobals "_law_board" = some (some (.ref F_l_board))) (l_l_board : K.lookup F_l_board = some ⟨oc_l_board, od_l_board, .func (PySem.W.fnOf "_law_board" "_law_board" (defArgs s_l_board) (defBody s_l_board) (defScope s_l_board) .none kV_l_board dc_l_board pm_l_board an_l_board cd_l_board ct_l_board), sl_l_board⟩) (c_l_board : PySem.W.codeIn K cd_l_board "_law_board" = true) (k_l_board : PySem.W.keepIn K (.ref F_l_board) = true)
    {F_l_no_kind : Addr} {od_l_no_kind an_l_no_kind : Option Addr} {sl_l_no_kind : Array (Option Value)} {oc_l_no_kind kV_l_no_kind dc_l_no_kind pm_l_no_kind cd_l_no_kind ct_l_no_kind : Value} (a_l_no_kind : PySem.W.nsIn K mainGlobals "_law_no_kind" = some (some (.ref F_l_no_kind))) (l_l_no_kind : K.lookup F_l_no_kind = some ⟨oc_l_no_kind, od_l_no_kind, .func (PySem.W.fnOf "_law_no_kind" "_law_no_kind" (defArgs s_l_no_kind) (defBody s_l_no_kind) (defScope s_l_no_kind) .none kV_l_no_kind dc_l_no_kind pm_l_no_kind an_l_no_kind cd_l_no_kind ct_l_no_kind), sl_l_no_kind⟩) (c_l_no_kind : PySem.W.codeIn K cd_l_no_kind "_law_no_kind" = true) (k_l_no_kind : PySem.W.keepIn K (.ref F_l_no_kind) = true)
    {F_l_bad_kind : Addr} {od_l_bad_kind an_l_bad_kind : Option Addr} {sl_l_bad_kind : Array (Option Value)} {oc_l_bad_kind kV_l_bad_kind dc_l_bad_kind pm_l_bad_kind cd_l_bad_kind ct_l_bad_kind : Value} (a_l_bad_kind : PySem.W.nsIn K mainGlobals "_law_bad_kind" = some (some (.ref F_l_bad_kind))) (l_l_bad_kind : K.lookup F_l_bad_kind = some ⟨oc_l_bad_kind, od_l_bad_kind, .func (PySem.W.fnOf "_law_bad_kind" "_law_bad_kind" (defArgs s_l_bad_kind) (defBody s_l_bad_kind) (defScope s_l_bad_kind) .none kV_l_bad_kind dc_l_bad_kind pm_l_bad_kind an_l_bad_kind cd_l_bad_kind ct_l_bad_kind), sl_l_bad_kind⟩) (c_l_bad_kind : PySem.W.codeIn K cd_l_bad_kind "_law_bad_kind" = true) (k_l_bad_kind : PySem.W.keepIn K (.ref F_l_bad_kind) = true)
    {F_l_reached : Addr} {od_l_reached an_l_reached : Option Addr} {sl_l_reached : Array (Option Value)} {oc_l_reached kV_l_reached dc_l_reached pm_l_reached cd_l_reached ct_l_reached : Value} (a_l_reached : PySem.W.nsIn K mainGlobals "_law_reached" = some (some (.ref F_l_reached))) (l_l_reached : K.lookup F_l_reached = some ⟨oc_l_reached, od_l_reached, .func (PySem.W.fnOf "_law_reached" "_law_reached" (defArgs s_l_reached) (defBody s_l_reached) (defScope s_l_reached) .none kV_l_reached dc_l_reached pm_l_reached an_l_reached cd_l_reached ct_l_reached), sl_l_reached⟩) (c_l_reached : PySem.W.codeIn K cd_l_reached "_law_reached" = true) (k_l_reached : PySem.W.keepIn K (.ref F_l_reached) = true)
    {F_l_right : Addr} {od_l_right an_l_right : Option Addr} {sl_l_right : Array (Option Value)} {oc_l_right kV_l_right dc_l_right pm_l_right ct_l_right : Value} (a_l_right : PySem.W.nsIn K mainGlobals "_law_right" = some (some (.ref F_l_right))) (l_l_right : K.lookup F_l_right = some ⟨oc_l_right, od_l_right, .func (PySem.W.fnOf "_law_right" "_law_right" (defArgs s_l_right) (defBody s_l_right) (defScope s_l_right) .none kV_l_right dc_l_right pm_l_right an_l_right (.ref cR) ct_l_right), sl_l_right⟩) (c_l_right : PySem.W.codeIn K (.ref cR) "_law_right" = true) (k_l_right : PySem.W.keepIn K (.ref F_l_right) = true)
    {F_law : Addr} {od_law an_law : Option Addr} {sl_law : Array (Option Value)} {oc_law kV_law dc_law pm_law cd_law ct_law : Value} (a_law : PySem.W.nsIn K mainGlobals "law" = some (some (.ref F_law))) (l_law : K.lookup F_law = some ⟨oc_law, od_law, .func (PySem.W.fnOf "law" "law" (defArgs s_law) (defBody s_law) (defScope s_law) .none kV_law dc_law pm_law an_law cd_law ct_law), sl_law⟩) (c_law : PySem.W.codeIn K cd_law "law" = true) (k_law : PySem.W.keepIn K (.ref F_law) = true)
    {cN fB PR : Addr} {nm qn : Str} {Nn : Addr} {bs : List Value} {sn : List Str} {sub : List Value} {ab : Bool} {col : Option Bool} {dd : Option Addr} {m0 m1 m2 m3 m5 : Option Value} {odI anI ddR : Option Addr} {slI slR : Array (Option Value)} {vsR : Array Value} {ocI kVI dcI pmI cdI ctI eR : Value}
    (a_cN : PySem.W.nsIn K mainGlobals "NoKind" = some (some (.ref cN)))
    (x_N : K.lookup cN = some (excClassObj nm qn cN Nn bs [.type "LookupError", .type "Exception", .type "BaseException", .type "object"] true sn sub ab col dd m0 m1 m2 m3 m5 "LookupError.__new__"))
    (f_sa : PySem.W.findIn K (.ref cN) "__setattr__" = some (some (.builtin "object.__setattr__")))
    (f_ga : PySem.W.findIn K (.ref cN) "__getattribute__" = some (some (.builtin "BaseException.__getattribute__")))
    (f_gg : PySem.W.findIn K (.ref cN) "__getattr__" = some none)
    (f_no : PySem.W.findIn K (.ref cN) "kind" = some none)
    (f_iC : PySem.W.findIn K (.ref cN) "__init__" = some (some (.ref fB)))
    (f_cl : PySem.W.findIn K (.ref cN) "__class__" = some (some (.builtin "object.__class__")))
    (t_fB : PySem.W.typeIn K (.ref fB) = some (.type "function"))
    (t_N : PySem.W.typeIn K (.ref cN) = some (.type "type"))
    (k_N : PySem.W.keepIn K (.ref cN) = true)
    (e_N : PySem.W.subIn K (.ref cN) (.type "BaseException") = some true)
    (v_N : PySem.W.subIn K (.ref cN) (.type "ValueError") = some false)
    (u_N : PySem.W.subIn K (.ref cN) (.type "LookupError") = some true)
    (s_N : PySem.W.subIn K (.ref cN) (.ref cN) = some true)
    (h_N : PySem.W.hasDictIn K cN = true)
    (m_N : PySem.W.mroIn K cN (.type "object") = some true)
    (g_cl : PySem.W.specialIn K (.builtin "object.__class__") "__get__" = some (some (.builtin "getset_descriptor.__get__")))
    (t_cl : PySem.W.takesIn K (.builtin "object.__class__") = some true)
    (l_fB : K.lookup fB = some ⟨ocI, odI, .func (PySem.W.fnOf "__init__" "NoKind.__init__" (defArgs s_init) (defBody s_init) (defScope s_init) .none kVI dcI pmI anI cdI ctI), slI⟩)
    (c_fB : PySem.W.codeIn K cdI "NoKind.__init__" = true)
    (k_fB : PySem.W.keepIn K (.ref fB) = true)
    (l_cR : K.lookup cR = some ⟨eR, ddR, .fields vsR, slR⟩)
    (e_PR : vsR[11]? = some (.ref PR))
    (d_PR : PySem.W.codeHdIn K cR PR = true)
    (n_PR : K.lookup PR = none)
    (r_R : ((recsOf q).any fun e => e.name == "_law_right") = true)
    (z_LookupError : PySem.W.nsIn K mainGlobals "LookupError" = some none)
    (z_ValueError : PySem.W.nsIn K mainGlobals "ValueError" = some none)
    (z__law_call : PySem.W.nsIn K mainGlobals "_law_call" = some none)
    (z_abs : PySem.W.nsIn K mainGlobals "abs" = some none)
    (z_all : PySem.W.nsIn K mainGlobals "all" = some none)
    (z_bool : PySem.W.nsIn K mainGlobals "bool" = some none)
    (z_int : PySem.W.nsIn K mainGlobals "int" = some none)
    (z_isinstance : PySem.W.nsIn K mainGlobals "isinstance" = some none)
    (z_len : PySem.W.nsIn K mainGlobals "len" = some none)
    (z_list : PySem.W.nsIn K mainGlobals "list" = some none)
    (z_max : PySem.W.nsIn K mainGlobals "max" = some none)
    (z_range : PySem.W.nsIn K mainGlobals "range" = some none)
    (z_repr : PySem.W.nsIn K mainGlobals "repr" = some none)
    (z_set : PySem.W.nsIn K mainGlobals "set" = some none)
    (z_sorted : PySem.W.nsIn K mainGlobals "sorted" = some none)
    (z_tuple : PySem.W.nsIn K mainGlobals "tuple" = some none) :
    ∃ (fd : FuncData) (ct : List (Addr × Addr)) (TT : List (Addr × Str)), (∀ t ∈ ct, h.get? t.2 = some (PySem.W.tabObj #[])) ∧ (∀ t ∈ ct, K.lookup t.2 = none) ∧ (∀ t ∈ ct, PySem.W.codeHdIn K t.1 t.2 = true) ∧ TT.map (·.1) = ct.map (·.2) ∧ (∀ (s : Shared) (v : Value), BindsTo s fd ⟨[v], []⟩ [("_law_script", v)]) ∧ ∀ base : Heap, K.In base → base.Ns mainGlobals mg → (∀ t ∈ ct, TabB base mg t.1 t.2) → FnG l.prog w K mg base 7 fa fd ["_law_script"] (sp_lawT K TT) := by
  have e := hfa.symm.trans (PySem.W.mg_of X G a_law)
  cases e
  have T : Txt mg := ⟨PySem.W.mg_none_of X G z_LookupError, PySem.W.mg_none_of X G z_ValueError, PySem.W.mg_none_of X G z__law_call, PySem.W.mg_none_of X G z_abs, PySem.W.mg_none_of X G z_all, PySem.W.mg_none_of X G z_bool, PySem.W.mg_none_of X G z_int, PySem.W.mg_none_of X G z_isinstance, PySem.W.mg_none_of X G z_len, PySem.W.mg_none_of X G z_list, PySem.W.mg_none_of X G z_max, PySem.W.mg_none_of X G z_range, PySem.W.mg_none_of X G z_repr, PySem.W.mg_none_of X G z_set, PySem.W.mg_none_of X G z_sorted, PySem.W.mg_none_of X G z_tuple⟩
  have XC : Txn K mg cN fB :=
    { gNoKind := PySem.W.mg_of X G a_cN, oex := ⟨⟨nm, qn, Nn, bs, _, sn, sub, ab, col, dd, m0, m1, m2, m3, m5, x_N, by rfl⟩, f_sa, e_N, t_N, k_N⟩, noE := f_no, iC := f_iC, tI := t_fB, xf := ⟨f_ga, f_gg, e_N, h_N⟩,
      ec := ⟨f_ga, f_gg, e_N, h_N, f_cl, g_cl, t_cl, m_N⟩, te := PySem.W.exm_ref e_N h_N t_N s_N, k1 := kit_typ (by decide +kernel) u_N, k2 := kit_typ (by decide +kernel) v_N,
      fI := ⟨_, fun_mk (st := s_init) l_fB c_fB k_fB, (fun_mk (st := s_init) l_fB c_fB k_fB).binds (ps := ["self", "kind"]) fun _ _ _ _ _ _ us hl => match us, hl with | [_, _], _ => rfl⟩ }
  have OR : h.get? PR = some (PySem.W.tabObj #[]) := own _ _ r_R (PySem.W.mg_of X G a_l_right) _ _ _ _ _ _ _ _ l_l_right rfl rfl l_cR e_PR
  have D_is_whole : Df K mg "is_whole" s_is_whole ["value"] := ⟨_, _, fun_mk (st := s_is_whole) l_is_whole c_is_whole k_is_whole, PySem.W.mg_of X G a_is_whole, (fun_mk (st := s_is_whole) l_is_whole c_is_whole k_is_whole).binds (ps := ["value"]) fun _ _ _ _ _ _ us hl => match us, hl with | [_], _ => rfl⟩
  have D_is_within : Df K mg "is_within" s_is_within ["value", "low", "high"] := ⟨_, _, fun_mk (st := s_is_within) l_is_within c_is_within k_is_within, PySem.W.mg_of X G a_is_within, (fun_mk (st := s_is_within) l_is_within c_is_within k_is_within).binds (ps := ["value", "low", "high"]) fun _ _ _ _ _ _ us hl => match us, hl with | [_, _, _], _ => rfl⟩
  have D_leads : Df K mg "leads" s_leads ["board", "one", "other"] := ⟨_, _, fun_mk (st := s_leads) l_leads c_leads k_leads, PySem.W.mg_of X G a_leads, (fun_mk (st := s_leads) l_leads c_leads k_leads).binds (ps := ["board", "one", "other"]) fun _ _ _ _ _ _ us hl => match us, hl with | [_, _, _], _ => rfl⟩
  have D_leads_from : Df K mg "leads_from" s_leads_from ["board", "kind"] := ⟨_, _, fun_mk (st := s_leads_from) l_leads_from c_leads_from k_leads_from, PySem.W.mg_of X G a_leads_from, (fun_mk (st := s_leads_from) l_leads_from c_leads_from k_leads_from).binds (ps := ["board", "kind"]) fun _ _ _ _ _ _ us hl => match us, hl with | [_, _], _ => rfl⟩
  have D_l_deck : Df K mg "_law_deck" s_l_deck ["_law_script"] := ⟨_, _, fun_mk (st := s_l_deck) l_l_deck c_l_deck k_l_deck, PySem.W.mg_of X G a_l_deck, (fun_mk (st := s_l_deck) l_l_deck c_l_deck k_l_deck).binds (ps := ["_law_script"]) fun _ _ _ _ _ _ us hl => match us, hl with | [_], _ => rfl⟩
  have D_l_draw : Df K mg "_law_draw" s_l_draw ["_law_deck_here", "_law_many"] := ⟨_, _, fun_mk (st := s_l_draw) l_l_draw c_l_draw k_l_draw, PySem.W.mg_of X G a_l_draw, (fun_mk (st := s_l_draw) l_l_draw c_l_draw k_l_draw).binds (ps := ["_law_deck_here", "_law_many"]) fun _ _ _ _ _ _ us hl => match us, hl with | [_, _], _ => rfl⟩
  have D_l_one : Df K mg "_law_one" s_l_one ["_law_deck_here", "_law_items"] := ⟨_, _, fun_mk (st := s_l_one) l_l_one c_l_one k_l_one, PySem.W.mg_of X G a_l_one, (fun_mk (st := s_l_one) l_l_one c_l_one k_l_one).binds (ps := ["_law_deck_here", "_law_items"]) fun _ _ _ _ _ _ us hl => match us, hl with | [_, _], _ => rfl⟩
  have D_l_board : Df K mg "_law_board" s_l_board ["_law_deck_here", "_law_kinds", "_law_many", "_law_upto"] := ⟨_, _, fun_mk (st := s_l_board) l_l_board c_l_board k_l_board, PySem.W.mg_of X G a_l_board, (fun_mk (st := s_l_board) l_l_board c_l_board k_l_board).binds (ps := ["_law_deck_here", "_law_kinds", "_law_many", "_law_upto"]) fun _ _ _ _ _ _ us hl => match us, hl with | [_, _, _, _], _ => rfl⟩
  have D_l_no_kind : Df K mg "_law_no_kind" s_l_no_kind ["_law_call", "_law_value"] := ⟨_, _, fun_mk (st := s_l_no_kind) l_l_no_kind c_l_no_kind k_l_no_kind, PySem.W.mg_of X G a_l_no_kind, (fun_mk (st := s_l_no_kind) l_l_no_kind c_l_no_kind k_l_no_kind).binds (ps := ["_law_call", "_law_value"]) fun _ _ _ _ _ _ us hl => match us, hl with | [_, _], _ => rfl⟩
  have D_l_bad_kind : Df K mg "_law_bad_kind" s_l_bad_kind ["_law_deck_here", "_law_kinds"] := ⟨_, _, fun_mk (st := s_l_bad_kind) l_l_bad_kind c_l_bad_kind k_l_bad_kind, PySem.W.mg_of X G a_l_bad_kind, (fun_mk (st := s_l_bad_kind) l_l_bad_kind c_l_bad_kind k_l_bad_kind).binds (ps := ["_law_deck_here", "_law_kinds"]) fun _ _ _ _ _ _ us hl => match us, hl with | [_, _], _ => rfl⟩
  have D_l_reached : Df K mg "_law_reached" s_l_reached ["_law_board_here", "_law_a"] := ⟨_, _, fun_mk (st := s_l_reached) l_l_reached c_l_reached k_l_reached, PySem.W.mg_of X G a_l_reached, (fun_mk (st := s_l_reached) l_l_reached c_l_reached k_l_reached).binds (ps := ["_law_board_here", "_law_a"]) fun _ _ _ _ _ _ us hl => match us, hl with | [_, _], _ => rfl⟩
  have D_l_right : Df K mg "_law_right" s_l_right ["_law_deck_here", "_law_board_here"] := ⟨_, _, fun_mk (st := s_l_right) l_l_right c_l_right k_l_right, PySem.W.mg_of X G a_l_right, (fun_mk (st := s_l_right) l_l_right c_l_right k_l_right).binds (ps := ["_law_deck_here", "_law_board_here"]) fun _ _ _ _ _ _ us hl => match us, hl with | [_, _], _ => rfl⟩
  have D_law : Df K mg "law" s_law ["_law_script"] := ⟨_, _, fun_mk (st := s_law) l_law c_law k_law, PySem.W.mg_of X G a_law, (fun_mk (st := s_law) l_law c_law k_law).binds (ps := ["_law_script"]) fun _ _ _ _ _ _ us hl => match us, hl with | [_], _ => rfl⟩
  refine ⟨PySem.W.fnOf "law" "law" (defArgs s_law) (defBody s_law) (defScope s_law) .none kV_law dc_law pm_law an_law cd_law ct_law, [(cR, PR)], [(PR, q_l_right)], in1 OR, in1 n_PR, in1 d_PR, rfl, fun s v => .of_eq rfl, fun base _ _ TB => ?_⟩
  have TBR : TabB base mg cR PR := TB _ (List.mem_cons_self ..)
  obtain ⟨TT, hTT⟩ : ∃ TT : List (Addr × Str), TT = [(PR, q_l_right)] := ⟨_, rfl⟩
  rw [← hTT]
  have hmR : (PR, q_l_right) ∈ TT := by rw [hTT]; exact List.mem_cons_self ..
  have huR : ∀ p ∈ TT, p.1 = PR → p.2 = q_l_right := by rw [hTT]; exact in1 (fun _ => rfl)
  have C_is_whole : Cal l.prog w K mg base "is_whole" ["value"] 1 (sp_is_whole K) := ok_is_whole T D_is_whole
  have C_leads_from : Cal l.prog w K mg base "leads_from" ["board", "kind"] 1 (sp_leads_from K) := ok_leads_from T D_leads_from
  have C_l_deck : Cal l.prog w K mg base "_law_deck" ["_law_script"] 1 (sp_l_deck K) := ok_l_deck T D_l_deck
  have C_l_draw : Cal l.prog w K mg base "_law_draw" ["_law_deck_here", "_law_many"] 1 (sp_l_draw K) := ok_l_draw T D_l_draw
  have C_l_reached : Cal l.prog w K mg base "_law_reached" ["_law_board_here", "_law_a"] 1 (sp_l_reached K) := ok_l_reached T D_l_reached
  have C_is_within : Cal l.prog w K mg base "is_within" ["value", "low", "high"] 2 (sp_is_within K) := ok_is_within T D_is_within C_is_whole
  have C_l_one : Cal l.prog w K mg base "_law_one" ["_law_deck_here", "_law_items"] 2 (sp_l_one K) := ok_l_one T D_l_one C_l_draw
  have C_l_board : Cal l.prog w K mg base "_law_board" ["_law_deck_here", "_law_kinds", "_law_many", "_law_upto"] 2 (sp_l_board K) := ok_l_board T D_l_board C_l_draw
  have X_leads : CalX l.prog w K mg base "leads" ["board", "one", "other"] 3 (sp_leadsX K cN) := ok_leadsX T XC D_leads C_leads_from C_is_within
  have C_l_bad_kind : Cal l.prog w K mg base "_law_bad_kind" ["_law_deck_here", "_law_kinds"] 3 (sp_l_bad_kind K) := ok_l_bad_kind T D_l_bad_kind C_l_one

  have G_right := ok_l_rightC (TT := TT) T XC (fun_mk (st := s_l_right) l_l_right c_l_right k_l_right) rfl TBR hmR huR D_l_no_kind X_leads C_l_bad_kind C_l_draw C_l_reached
  exact ok_lawC (TT := TT) T (fun_mk (st := s_law) l_law c_law k_law) C_l_deck C_l_draw C_l_board G_right (PySem.W.mg_of X G a_l_right) k_l_right ((fun_mk (st := s_l_right) l_l_right c_l_right k_l_right).binds (ps := ["_law_deck_here", "_law_board_here"]) fun _ _ _ _ _ _ us hl => match us, hl with | [_, _], _ => rfl)

end Sm
open PySem PySem.W PyProof.Rows in
set_option maxRecDepth 100000 in
set_option maxHeartbeats 0 in
theorem PySem.Challenge.cw_smallchange_k53_kinds_that_lead_holds : PySem.Challenge.rw_smallchange_k53_kinds_that_lead.Holds := by
  w_on; o_law; k_head; (case hw => w_witness2)
  k_fill
  refine Sm.walk_at_lawTs (l := PySem.Challenge.rw_smallchange_k53_kinds_that_lead) (k := 7) (x := "_law_script") (sp := Sm.sp_lawT) rfl rfl ⟨rfl, by decide, by decide⟩ (fun w h Y => PySem.W.km_in_of Y) ?F (fun _ _ _ a ns hl tb hS => ⟨a, ns, rfl, hS, hl, tb, fun _ => rfl⟩)
  case F =>
    intro w mg fa h KX G hmg own
    refine' Sm.all_mk KX G hmg own ?a_is_whole ?l_is_whole ?c_is_whole ?k_is_whole ?a_is_within ?l_is_within ?c_is_within ?k_is_within ?a_leads ?l_leads ?c_leads ?k_leads ?a_leads_from ?l_leads_from ?c_leads_from ?k_leads_from ?a_l_deck ?l_l_deck ?c_l_deck ?k_l_deck ?a_l_draw ?l_l_draw ?c_l_draw ?k_l_draw ?a_l_one ?l_l_one ?c_l_one ?k_l_one ?a_l_board ?l_l_board ?c_l_board ?k_l_board ?a_l_no_kind ?l_l_no_kind ?c_l_no_kind ?k_l_no_kind ?a_l_bad_kind ?l_l_bad_kind ?c_l_bad_kind ?k_l_bad_kind ?a_l_reached ?l_l_reached ?c_l_reached ?k_l_reached ?a_l_right ?l_l_right ?c_l_right ?k_l_right ?a_law ?l_law ?c_law ?k_law ?a_cN ?x_N ?f_sa ?f_ga ?f_gg ?f_no ?f_iC ?f_cl ?t_fB ?t_N ?k_N ?e_N ?v_N ?u_N ?s_N ?h_N ?m_N ?g_cl ?t_cl ?l_fB ?c_fB ?k_fB ?l_cR ?e_PR ?d_PR ?n_PR ?r_R ?z_LookupError ?z_ValueError ?z__law_call ?z_abs ?z_all ?z_bool ?z_int ?z_isinstance ?z_len ?z_list ?z_max ?z_range ?z_repr ?z_set ?z_sorted ?z_tuple
    (case a_is_whole => k_is)
    (case l_is_whole => k_is)
    (case c_is_whole => k_is)
    (case k_is_whole => k_is)
    (case a_is_within => k_is)
    (case l_is_within => k_is)
    (case c_is_within => k_is)
    (case k_is_within => k_is)
    (case a_leads => k_is)
    (case l_leads => k_is)
    (case c_leads => k_is)
    (case k_leads => k_is)
    (case a_leads_from => k_is)
    (case l_leads_from => k_is)
    (case c_leads_from => k_is)
    (case k_leads_from => k_is)
    (case a_l_deck => k_is)
    (case l_l_deck => k_is)
    (case c_l_deck => k_is)
    (case k_l_deck => k_is)
    (case a_l_draw => k_is)
    (case l_l_draw => k_is)
    (case c_l_draw => k_is)
    (case k_l_draw => k_is)
    (case a_l_one => k_is)
    (case l_l_one => k_is)
    (case c_l_one => k_is)
    (case k_l_one => k_is)
    (case a_l_board => k_is)
    (case l_l_board => k_is)
    (case c_l_board => k_is)
    (case k_l_board => k_is)
    (case a_l_no_kind => k_is)
    (case l_l_no_kind => k_is)
    (case c_l_no_kind => k_is)
    (case k_l_no_kind => k_is)
    (case a_l_bad_kind => k_is)
    (case l_l_bad_kind => k_is)
    (case c_l_bad_kind => k_is)
    (case k_l_bad_kind => k_is)
    (case a_l_reached => k_is)
    (case l_l_reached => k_is)
    (case c_l_reached => k_is)
    (case k_l_reached => k_is)
    (case a_l_right => k_is)
    (case l_l_right => k_is)
    (case c_l_right => k_is)
    (case k_l_right => k_is)
    (case a_law => k_is)
    (case l_law => k_is)
    (case c_law => k_is)
    (case k_law => k_is)
    (case a_cN => first | k_is | rfl | decide +kernel)
    (case x_N => first | k_is | rfl | decide +kernel)
    (case f_sa => first | k_is | rfl | decide +kernel)
    (case f_ga => first | k_is | rfl | decide +kernel)
    (case f_gg => first | k_is | rfl | decide +kernel)
    (case f_no => first | k_is | rfl | decide +kernel)
    (case f_iC => first | k_is | rfl | decide +kernel)
    (case f_cl => first | k_is | rfl | decide +kernel)
    (case t_fB => first | k_is | rfl | decide +kernel)
    (case t_N => first | k_is | rfl | decide +kernel)
    (case k_N => first | k_is | rfl | decide +kernel)
    (case e_N => first | k_is | rfl | decide +kernel)
    (case v_N => first | k_is | rfl | decide +kernel)
    (case u_N => first | k_is | rfl | decide +kernel)
    (case s_N => first | k_is | rfl | decide +kernel)
    (case h_N => first | k_is | rfl | decide +kernel)
    (case m_N => first | k_is | rfl | decide +kernel)
    (case g_cl => first | k_is | rfl | decide +kernel)
    (case t_cl => first | k_is | rfl | decide +kernel)
    (case l_fB => first | k_is | rfl | decide +kernel)
    (case c_fB => first | k_is | rfl | decide +kernel)
    (case k_fB => first | k_is | rfl | decide +kernel)
    (case l_cR => first | k_is | rfl | decide +kernel)
    (case e_PR => first | k_is | rfl | decide +kernel)
    (case d_PR => first | k_is | rfl | decide +kernel)
    (case n_PR => first | k_is | rfl | decide +kernel)
    (case r_R => decide +kernel)
    (case z_LookupError => k_is)
    (case z_ValueError => k_is)
    (case z__law_call => k_is)
    (case z_abs => k_is)
    (case z_all => k_is)
    (case z_bool => k_is)
    (case z_int => k_is)
    (case z_isinstance => k_is)
    (case z_len => k_is)
    (case z_list => k_is)
    (case z_max => k_is)
    (case z_range => k_is)
    (case z_repr => k_is)
    (case z_set => k_is)
    (case z_sorted => k_is)
    (case z_tuple => k_is)
