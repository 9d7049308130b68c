import PyProof.Rows.All
import Wide.All
import OpenK.AllK
import Wide.FinOn
import HandS.ForMost
import HandS.Wide
import HandS.Codes
import PyProof.ReprRoads
import HandS.IsInst
import HandS.Dict
import HandS.List
import KE.DataEq
import PyProof.FactsAll.dict_1
import PyProof.FactsAll.subtypes
import HandS.TupAny
import HandS.TupMul
import HandS.Deep
import HandS.Conv
import HandS.Style
import HandS.TupSets
import HandS.Zip
import KE.GoesMore
import HandS.Walk
import PyProof.WalkInts
import PyProof.WalksMore
import HandS.ForExc
import HandS.ExcIs
import HandS.ExcInit
import HandS.ExcField
import HandS.ExcOwn
import KE.KExcIs
import KE.KExcInit
import PyProof.ExcBaseAll.LookupError
import HandS.Lambda
import PyProof.TupleOfGen
import HandS.ExcValue
import KE.GoesSet
import HandS.Gcd
import PySem.Challenge.RW_smallchange_k52_purses_of_loops
set_option Elab.async false
set_option linter.all false
set_option maxRecDepth 100000
set_option maxHeartbeats 4000000
namespace Sm
open PySem PySem.Spec PyProof.Rows L2
/-! ### promises of defs where no repr is under way: as FnOk, with A's guards empty -/
structure FnG (P : Program) (w : World) (K : PySem.W.Frag) (mg : Str → Option Value) (base : Heap) (k : Nat) (f : Addr) (fd : FuncData) (ps : List Str) (sp : Sp) : Prop where
  len : ∀ vs H Q E, sp vs H Q E → vs.length = ps.length
  run : ∀ (A : Around) (outer : List Env) (s : Shared) (H : Hp) (args : Args) (us : List Value) (vs : List V) (Q : VK) (E : XK), A.guards = some [] → Room k A →
    Env0 P w K mg base A outer s H → BindsTo s fd args (ps.zip us) → Vals vs us → sp vs H Q E → codeAny (model P w) A (.call (.ref f) args) (CR CX0 outer P w H s Q E) s
section
variable {P : Program} {w : World} {K : PySem.W.Frag} {mg : Str → Option Value} {base : Heap} {k : Nat} {f : Addr} {fd : FuncData} {ps : List Str} {sp : Sp}
theorem FnG.of (F : FnOk P w K mg base CX0 k f fd ps sp) : FnG P w K mg base k f fd ps sp :=
  ⟨F.len, fun A outer s H args us vs Q E _ hr e b v h => F.run A outer s H args us vs Q E hr e b v h⟩
theorem FnG.body {x : Str} {st : Stmt} {N : List Str} (F : Fun K x x st f fd) (S : FnScope N ps (defScope st)) (len : ∀ vs H Q E, sp vs H Q E → vs.length = ps.length)
    (hb : ∀ (cdv : Value) (A : Around) (outer : List Env) (s : Shared) (H : Hp) (vs : List V) (Q : VK) (E : XK), A.guards = some [] → Room k (A.deeper (envOfC x (defScope st) s.heap.objs.size f cdv)) → sp vs H Q E →
      ∃ t, PSs (cxOf CX0 P w K mg base N x (defScope st) f cdv A outer s H E).nox (defBody st) t ∧ t { nx := fun _ H' => Q .non H', rt := Q } (start N vs) H) : FnG P w K mg base (k + 1) f fd ps sp := by
  obtain ⟨oc, od, kV, doc, pm, an, cdv, ct, osl, efd, look, code⟩ := F.ex
  subst efd
  constructor
  · exact len
  intro A outer s H args us vs Q E guard room e0 bind rel want
  have inn : K.In s.heap := e0.mod.kin.keeps fun b o e => (e0.bs b o e).1
  have nolim : s.heap.NoLimit := e0.mod.nolimit.keeps fun b o e => (e0.bs b o e).1
  refine codeAny_call_function room.depth (inn _ _ look) rfl S.co S.gen rfl (PySem.W.codeRec_of inn code) (bind _ _ _ _ ?_)
  refine wpAny_newFunctionEnv_cells S.kind ?_ ?_
  · rintro ⟨n, v⟩ there
    have := S.par n (List.of_mem_zip there).1
    cases this with
    | inl q => exact .inl q
    | inr q => exact .inr ⟨q, PySem.W.cellsFrom_some _ _ _ (.inl q)⟩
  · intro env eenv s1 laid
    subst eenv
    refine ⟨nolim.keeps laid.toInCall.keep, codeAny_func ?_⟩
    obtain ⟨t, der, goal⟩ := hb cdv A outer s H vs Q E guard (room.deeper _) want
    have I := inv_start (CX := CX0) (E := E) S room.hd e0 (len _ _ _ _ want) rel laid
    refine wpAny_mono (der.nox.run [] s1 (start N vs) H _ I goal) (fun out s' got => ?_) fun e s' got => got
    match out, got with
    | .ret u, ⟨v, σ', H', J, rv, q⟩ => exact ⟨v, H', J.os, J.bare, J.base, J.hok, rv, q⟩
    | .next, ⟨σ', H', J, q⟩ => exact ⟨V.non, H', J.os, J.bare, J.base, J.hok, rfl, q⟩
    | .brk, ⟨_, _, _, q⟩ => exact q.elim
    | .cont, ⟨_, _, _, q⟩ => exact q.elim
end
section
variable {X : Cx} {k : Nat} {f : Addr} {fd : FuncData} {ps : List Str} {sp : Sp} {x : Str} {p pos : Pos} {e : Expr} {es : List Expr} {t : TA}
theorem pe_callG (F : FnG X.prog X.w X.K X.mg X.base k f fd ps sp) (gu : X.A.guards = some []) (hr : Room k X.A) (hg : Gl X x) (hm : X.mg x = some (.ref f)) (hk : PySem.W.keepIn X.K (.ref f) = true) (hb : Binds X.K fd ps [])
    (ha : PA X (e :: es) t) (hdb : (x == ("__debug__" : Str)) = false := by decide) (he : starEach (e :: es) X.env = (false, eval e X.env) :: starEach es X.env := by rfl) (hpl : (backTo pos (starEach es X.env)).any (·.1) = false := by rfl) :
    PE X (.Call (.Name x p) (e :: es) [] pos) (tCall sp [] E0 t) := by
  constructor
  intro pins s σ H Q I want
  refine wpAny_Call_Name_kw (ld_glob I hg hm ?_ hdb)
  refine PySem.W.callWith_K (h₀ := X.base) I.ok.mod.kin hk (thn (ha.run pos pins s σ H _ I want) ?_) he hpl
  rintro us s1 ⟨vs, H1, I1, rel, q⟩
  refine ⟨I1.kIn, ?_⟩
  have q : sp vs H1 Q E0 := by
    have q : sp (vs ++ []) H1 Q E0 := q
    rw [List.append_nil] at q
    exact q
  have b := hb s1 us I1.kIn (by rw [List.append_nil, ← rel.length]; exact F.len _ _ _ _ q)
  rw [List.append_nil] at b
  refine wpAny_call (codeAny_mono (F.run X.A X.stack s1 H1 ⟨us, []⟩ us vs Q E0 gu hr I1.env0 b rel q) ?_)
  rintro (e | out) s' got
  · exact got.elim
  · match out, got with
    | .ret u, got => exact I1.after got
    | .next, got => exact got.elim
    | .brk, got => exact got.elim
    | .cont, got => exact got.elim
/-- repr of data at any depth -/
theorem call_repr_data (gu : X.A.guards = some []) (room : ∃ k, Room k X.A) : CallR X (.builtin "repr") (fun xs H Q => ∃ a d, xs = [.ref a] ∧ Dp X.K H (.ref a) d ∧ PyData.showable d = true ∧ PyData.hasDict d = false ∧ d.depth ≤ 60 ∧ d.shown.length ≤ sizeLine ∧ Q (.str d.shown) H) := by
  intro pins s σ H xs us Q I rel want
  obtain ⟨a, d, rfl, data, sh, nd, dep, len, q⟩ := want
  obtain ⟨u, rfl, ru⟩ := vals1 rel
  obtain ⟨as, reads⟩ := Dp.reads I d _ u data ru
  cases ru
  obtain ⟨k, room⟩ := room
  have un := room.un
  exact repr_of_reads' reads sh (PyData.noDict_hsm nd) gu (by omega) (fun _ _ e => e) (fun h' v tk keep => ⟨.str d.shown, H, I.kept keep, ⟨_, rfl⟩, q⟩) len
end
/-! ### the law's own call, at the caller's place -/
theorem law_at {P : Program} {w : World} {K : PySem.W.Frag} {mg mb : Str → Option Value} {k : Nat} {fa a : Addr} {fd : FuncData} {x : Str} {sp : Sp} {s₁ : Shared} {vs : List Value} {ns : List Int}
    (KX : K.In s₁.heap) (hns : s₁.heap.Ns mainGlobals mg) (hb : s₁.heap.Ns builtinsNs mb) (hbb : ∀ x : Str, x ≠ "__name__" → mb x = bootBuiltins x) (hlim : s₁.heap.NoLimit) (hg : s₁.gens = #[])
    (ha : s₁.heap.get? a = some { cls := .type "list", data := .seq vs.toArray }) (hi : IntsAre vs ns) (hl : ns.length ≤ sizeLine) (hr : Room k callerA)
    (F : ∀ base : Heap, K.In base → base.Ns mainGlobals mg → FnG P w K mg base k fa fd [x] sp) (hbind : ∀ (s : Shared) (u : Value), BindsTo s fd ⟨[u], []⟩ [(x, u)])
    (hsp : ∀ H : Hp, SqL K H a (ns.map V.int) → sp [.ref a] H (fun v _ => v = .bl true) E0) :
    codeAny (model P w) callerA (.call (.ref fa) ⟨[.ref a], []⟩) (fun r s' => r = .ok (.ret (.bool true)) ∧ OldK s₁.heap s'.heap ∧ s'.os = s₁.os ∧ AllBare s'.gens) s₁ := by
  have ivs := vals_ints hi
  -- what is tracked: the script, if the module does not hold it itself
  obtain ⟨H, seq, ok, only, free⟩ : ∃ H : Hp, SqL K H a (ns.map V.int) ∧ HOk P w H s₁.heap ∧ (∀ b u, H b = some u → b = a ∧ u = .frz { cls := .type "list", data := .seq vs.toArray } (.lst (ns.map V.int))) ∧ ∀ b u, H b = some u → K.lookup b = none := by
    cases look : K.lookup a with
    | some o =>
      have same := KX a o look
      rw [ha] at same
      injection same with same
      subst same
      have empty : ∀ {u : HO}, (none : Option HO) = some u → False := fun z => nomatch z
      refine ⟨fun _ => none, .inr ⟨_, vs.toArray, _, look, rfl, rfl, rfl, ?_, ?_⟩, fun b u z => (empty z).elim, fun b u z => (empty z).elim, fun b u z => (empty z).elim⟩
      · rw [List.size_toArray, hi.length]
        exact hl
      · simpa using ivs
    | none =>
      have at_a : ∀ b u, (fun b => if b = a then some (HO.frz { cls := .type "list", data := .seq vs.toArray } (.lst (ns.map V.int))) else none : Hp) b = some u → b = a ∧ u = .frz { cls := .type "list", data := .seq vs.toArray } (.lst (ns.map V.int)) := by
        intro b u z
        by_cases e : b = a
        · have z := (if_pos e).symm.trans z
          exact ⟨e, (Option.some.inj z).symm⟩
        · exact nomatch (if_neg e).symm.trans z
      refine ⟨_, .inl (.inr ⟨_, if_pos rfl⟩), fun b u z => ?_, at_a, fun b u z => ?_⟩
      · obtain ⟨rfl, rfl⟩ := at_a b u z
        exact ⟨ha, by rw [List.length_map]; exact hl, vs, _, ivs, ha⟩
      · rw [(at_a b u z).1]
        exact look
  have stays : ∀ {b : Addr} {o : Obj}, s₁.heap.get? b = some o → (∀ u, H b ≠ some u) → (hidT s₁.heap H).get? b = some o := fun {b o} e no => hidT_get e (by
    cases z : H b with
    | none => rfl
    | some u => exact (no u z).elim)
  have spaces : ∀ {b : Addr} {m : Str → Option Value}, s₁.heap.Ns b m → (hidT s₁.heap H).Ns b m := by
    rintro b m ⟨o, es, ep, there, data, rest⟩
    refine ⟨o, es, ep, stays there fun u z => ?_, data, rest⟩
    rw [(only b u z).1, ha] at there
    injection there with there
    subst there
    exact nomatch data
  have inn : K.In (hidT s₁.heap H) := fun b o e => stays (KX b o e) fun u z => by
    rw [free b u z] at e
    exact nomatch e
  have mod : Mod K mg (hidT s₁.heap H) := by
    obtain ⟨mc, c1, c2⟩ := hlim
    exact ⟨inn, spaces hns, ⟨mb, spaces hb, hbb⟩, mc, spaces c1, c2⟩
  have e0 : Env0 P w K mg (hidT s₁.heap H) callerA [] s₁ H := by
    refine ⟨rfl, mod, fun b o e => of_hidT e, Nat.le_of_eq (hidT_size _ _), trivial, ?_, ok, .of_eq hg⟩
    intro b q
    exact absurd q (List.not_mem_nil (a := b))
  refine codeAny_mono ((F _ inn (spaces hns)).run callerA [] s₁ H ⟨[.ref a], []⟩ [.ref a] [.ref a] _ _ rfl hr e0 (hbind s₁ (.ref a)) (.cons rfl .nil) (hsp H seq)) ?_
  rintro (e | out) s' got
  · exact got.elim
  · match out, got with
    | .next, got => exact got.elim
    | .brk, got => exact got.elim
    | .cont, got => exact got.elim
    | .ret u, ⟨v, H', os, bare, un, ok', rel, q⟩ =>
      have q : v = V.bl true := q
      subst q
      have rel : u = Value.bool true := rel
      subst rel
      refine ⟨rfl, .of_keep fun b o e => ?_, os, bare⟩
      cases z : H b with
      | none => exact un.keep b o e z (List.not_mem_nil (a := b)) (List.not_mem_nil (a := b))
      | some u =>
        obtain ⟨rfl, rfl⟩ := only b u z
        have now := (ok' _ _ (un.frzs _ _ _ z)).1
        rw [ha] at e
        injection e with e
        rw [← e]
        exact now
theorem walk_at_law {l : PySem.W.OpenLaw} {k : Nat} {q : Program} {loose : List Str} {XP : (Str → Option Value) → Heap → Prop} {YP : World → Heap → Prop} {d : DefRec} {K : Params → PySem.W.Frag} {sp : PySem.W.Frag → Sp} {x : Str}
    (hn : l.most = some 63) (hdf : d.params.defaults = []) (hr : Room k callerA) (hY : ∀ (w : World) (h : Heap), YP w h → (K w.params).In h)
    (F : ∀ (w : World) (mg : Str → Option Value) (fa : Addr) (h : Heap), (K w.params).In h → h.Ns mainGlobals mg → mg d.name = some (.ref fa) →
      ∃ fd : FuncData, (∀ (s : Shared) (u : Value), BindsTo s fd ⟨[u], []⟩ [(x, u)]) ∧ ∀ base : Heap, (K w.params).In base → base.Ns mainGlobals mg → FnG l.prog w (K w.params) mg base k fa fd [x] (sp (K w.params)))
    (hsp : ∀ (K : PySem.W.Frag) (H : Hp) (a : Addr) (ns : List Int), ns.length ≤ 63 → SqL K H a (ns.map V.int) → sp K [.ref a] H (fun v _ => v = .bl true) E0) :
    PySem.W.WalkO q loose XP YP l.row.toRowW d [] (fun f vs => PySem.call f vs) := by
  refine Att.attach_call hn hdf ?_
  intro w s₀ s₁ mg mb fa o pm cd doc a vs ns G Y ho hd hcd hmg hobj hints hlen hg
  obtain ⟨fd, bind, each⟩ := F w mg fa _ (hY w _ Y) G.T.g hmg
  exact law_at (hY w _ Y) G.T.g G.T.b G.T.builtins G.T.nolimit hg hobj hints (Nat.le_trans hlen (by decide)) hr each bind fun H sq => hsp (K w.params) H a ns hlen sq
end Sm

set_option Elab.async false
set_option linter.all false
set_option maxRecDepth 100000
set_option maxHeartbeats 4000000
namespace Sm
open PySem PySem.Spec PyProof.Rows L2
section
variable {P : Program} {w : World} {K : PySem.W.Frag} {mg : Str → Option Value} {base : Heap}
def Df (K : PySem.W.Frag) (mg : Str → Option Value) (x : Str) (st : Stmt) (ps : List Str) : Prop :=
  ∃ (f : Addr) (fd : FuncData), Fun K x x st f fd ∧ mg x = some (.ref f) ∧ Binds K fd ps []
def Cal (P : Program) (w : World) (K : PySem.W.Frag) (mg : Str → Option Value) (base : Heap) (x : Str) (ps : List Str) (k : Nat) (sp : Sp) : Prop :=
  ∃ (f : Addr) (fd : FuncData), FnOk P w K mg base CX0 k f fd ps sp ∧ mg x = some (.ref f) ∧ PySem.W.keepIn K (.ref f) = true ∧ Binds K fd ps []
theorem Df.cal {x : Str} {st : Stmt} {N ps : List Str} {k : Nat} {sp : Sp} (D : Df K mg x st ps) (S : FnScope N ps (defScope st)) (len : ∀ vs H Q E, sp vs H Q E → vs.length = ps.length)
    (hbody : ∀ (f : Addr) (cdv : Value) (A : Around) (outer : List Env) (s : Shared) (H : Hp) (vs : List V) (Q : VK) (E : XK), Room k (A.deeper (envOfC x (defScope st) s.heap.objs.size f cdv)) → sp vs H Q E →
      ∃ t, PSs (cxOf CX0 P w K mg base N x (defScope st) f cdv A outer s H E).nox (defBody st) t ∧ t { nx := fun _ H' => Q .non H', rt := Q } (start N vs) H) : Cal P w K mg base x ps (k + 1) sp := by
  obtain ⟨f, fd, F, m, b⟩ := D
  exact ⟨f, fd, F.ok S len (fun cdv A outer s H vs Q E hr h => hbody f cdv A outer s H vs Q E hr h), m, F.kp, b⟩
theorem same_upd {H : Hp} {p : Addr} {o : HO} (h : H p = none) : Same H (upd H p o) := fun b x e => by
  rw [upd_ne (ne_of_none e h)]
  exact e
theorem iteP {p A B : Prop} [Decidable p] (h : p) (a : A) : if decide p = true then A else B := by
  rw [decide_eq_true h]
  exact iteT a
theorem iteN {p A B : Prop} [Decidable p] (h : ¬ p) (b : B) : if decide p = true then A else B := by
  rw [decide_eq_false h]
  exact iteF b
theorem iteNP {p A B : Prop} [Decidable p] (h : p) (b : B) : if (!decide p) = true then A else B := by
  rw [decide_eq_true h]
  exact iteF b
theorem iteNN {p A B : Prop} [Decidable p] (h : ¬ p) (a : A) : if (!decide p) = true then A else B := by
  rw [decide_eq_false h]
  exact iteT a
theorem ite3 {p A B : Prop} [Decidable p] (h1 : p → A) (h2 : ¬ p → B) : if decide p = true then A else B := by
  by_cases h : p
  · exact iteP h (h1 h)
  · exact iteN h (h2 h)
theorem fmod_pos {a b : Int} (h : 0 < b) : a.fmod b = a % b := Int.fmod_eq_emod_of_nonneg a (by omega)
end
/-! ### the deck -/
structure Deck (H : Hp) (p l : Addr) (n : Int) : Prop where
  hp : H p = some (.lst [.ref l, .int n])
  hl : ∃ cells : List Int, H l = some (.lst (cells.map V.int)) ∧ (∀ c ∈ cells, 0 ≤ c) ∧ cells.length ≤ 63
theorem deck_ne {l : Addr} {n : Int} {cells : List Int} : HO.lst [.ref l, .int n] ≠ HO.lst (cells.map V.int) := by
  intro q
  injection q with q
  cases cells with
  | nil => cases q
  | cons c r => cases (List.cons.inj q).1
/-- all but the deck is as it was -/
def Fr (p l : Addr) (H H' : Hp) : Prop := ∀ b o, b ≠ p → b ≠ l → H b = some o → H' b = some o
theorem Fr.trans {p l : Addr} {H H1 H2 : Hp} (a : Fr p l H H1) (b : Fr p l H1 H2) : Fr p l H H2 := fun c o h1 h2 h => b c o h1 h2 (a c o h1 h2 h)
theorem Same.fr {p l : Addr} {H H' : Hp} (s : Same H H') : Fr p l H H' := fun b o _ _ h => s b o h
theorem Deck.same {H H' : Hp} {p l : Addr} {n : Int} (D : Deck H p l n) (s : Same H H') : Deck H' p l n := by
  obtain ⟨cells, hl, hc⟩ := D.hl
  exact ⟨s _ _ D.hp, cells, s _ _ hl, hc⟩
theorem Fr.tup {H H' : Hp} {p l b : Addr} {n : Int} {xs : List V} (f : Fr p l H H') (D : Deck H p l n) (h : H b = some (.tup xs)) : H' b = some (.tup xs) := by
  obtain ⟨cells, hl, hc⟩ := D.hl
  exact f b _ (ne_of h D.hp (by intro q; cases q)) (ne_of h hl (by intro q; cases q)) h
def sp_l_deck (K : PySem.W.Frag) : Sp := fun vs H Q _ => ∃ (a : Addr) (ns : List Int), vs = [.ref a] ∧ SqL K H a (ns.map V.int) ∧ ns.length ≤ 63 ∧ ∀ H' p l, Same H H' → Deck H' p l 0 → Q (.ref p) H'
def sp_l_draw (K : PySem.W.Frag) : Sp := fun vs H Q _ => ∃ (p l : Addr) (n m : Int), vs = [.ref p, .int m] ∧ Deck H p l n ∧ 0 ≤ n ∧ n ≤ 1000000 ∧ 0 < m ∧ m ≤ 1000000000000000000000000000000000000000000000000000000000000 ∧
  ∀ r H', 0 ≤ r → r < m → Fr p l H H' → Deck H' p l (n + 1) → Q (.int r) H'
def sp_l_one (K : PySem.W.Frag) : Sp := fun vs H Q _ => ∃ (p l b : Addr) (n : Int) (xs : List V), vs = [.ref p, .ref b] ∧ Deck H p l n ∧ 0 ≤ n ∧ n ≤ 1000000 ∧ H b = some (.lst xs) ∧ b ≠ p ∧ b ≠ l ∧ 0 < xs.length ∧ xs.length ≤ 1000 ∧
  ∀ x H', x ∈ xs → Fr p l H H' → Deck H' p l (n + 1) → Q x H'
theorem cut63 {ns : List Int} (h : ns.length ≤ 63) : cutV (ns.map V.int) none (some 63) = ns.map V.int := by
  unfold cutV
  rw [HT.sIx_none, show HT.sIx (ns.map V.int).length (ns.map V.int).length (some 63) = min 63 (ns.map V.int).length from HT.sIx_nat _ _ 63]
  rw [List.length_map, Nat.min_eq_right h, List.drop_zero]
  exact List.take_of_length_le (by rw [List.length_map]; omega)
def absI (n : Int) : Int := if n < 0 then -n else n
theorem absI_pos (n : Int) : 0 ≤ absI n := by
  unfold absI
  split <;> omega
theorem div_draw {c m : Int} (h0 : 0 < m) (h : m ≤ 1000000000000000000000000000000000000000000000000000000000000) : CDivW c m :=
  wide_div (b := 300) h0 (by omega) (by decide) (by decide)
theorem cut_all {xs : List V} {n : Nat} : cutV xs none (some (n : Int)) = xs.take n := by
  unfold cutV
  rw [HT.sIx_none, HT.sIx_nat, List.drop_zero, Nat.sub_zero]
  rcases Nat.le_total n xs.length with h | h
  · rw [Nat.min_eq_left h]
  · rw [Nat.min_eq_right h, List.take_length, List.take_of_length_le h]
theorem ne_new {H : Hp} {p b : Addr} {o : HO} (h : H p = some o) (n : H b = none) : b ≠ p := (ne_of_none h n).symm
/-- what the deck's second list is not -/
theorem Deck.lne {H : Hp} {p l b : Addr} {n : Int} (D : Deck H p l n) (h : H b = none) : b ≠ p ∧ b ≠ l := by
  obtain ⟨cells, hl, hc⟩ := D.hl
  exact ⟨ne_new D.hp h, ne_new hl h⟩
section
variable {X : Cx}
/-- repr of an int or None -/
theorem call_repr_some : CallR X (.builtin "repr") (fun xs H Q => (∃ i, xs = [.int i] ∧ i.natAbs.log2 < 1920 ∧ Q (.str (toString i)) H) ∨ (xs = [.non] ∧ Q (.str "None") H)) := by
  intro pins s σ H xs us Q I r h
  rcases h with ⟨i, rfl, hz, q⟩ | ⟨rfl, q⟩
  · obtain ⟨u, rfl, t, rfl⟩ := vals1 r
    exact PySem.P.repr_of_int hz ⟨.str _, H, I.tok _, ⟨_, rfl⟩, q⟩
  · obtain ⟨u, rfl, rfl⟩ := vals1 r
    exact PySem.P.repr_of_none ⟨.str _, H, I.tok _, ⟨_, rfl⟩, q⟩
def dataI (ns : List Int) : PyData := .list (ns.map PyData.int)
theorem dp_ints {K : PySem.W.Frag} {H : Hp} : ∀ ns : List Int, DpAll K H (ns.map V.int) (ns.map PyData.int)
  | [] => .nil
  | n :: ns => .cons (.int n) (dp_ints ns)
theorem showable_ints : ∀ {ns : List Int}, (∀ n ∈ ns, n.natAbs.log2 < 1920) → PyData.showableAll (ns.map PyData.int) = true
  | [], _ => rfl
  | n :: ns, h => by
    have a := h n (List.mem_cons_self ..)
    have b := showable_ints (ns := ns) fun m hm => h m (List.mem_cons_of_mem _ hm)
    simp only [List.map_cons, PyData.showableAll, PyData.showable, decide_eq_true a, b, Bool.and_self]
theorem hasDict_ints : ∀ ns : List Int, PyData.hasDictAll (ns.map PyData.int) = false
  | [] => rfl
  | n :: ns => by
    simp only [List.map_cons, PyData.hasDictAll, PyData.hasDict, hasDict_ints ns, Bool.or_self]
theorem depth_ints : ∀ ns : List Int, PyData.depthAll (ns.map PyData.int) ≤ 1
  | [] => by simp [PyData.depthAll]
  | n :: ns => by
    have := depth_ints ns
    simp only [List.map_cons, PyData.depthAll, PyData.depth]
    omega
theorem shown_ints : ∀ {ns : List Int}, (∀ n ∈ ns, n.natAbs.log2 < 1920) → ((PyData.shownAll (ns.map PyData.int)).map (·.length)).sum ≤ 1921 * ns.length ∧ (PyData.shownAll (ns.map PyData.int)).length = ns.length
  | [], _ => by simp [PyData.shownAll]
  | n :: ns, h => by
    have a := PyProof.Rows.int_text_len_1921 (h n (List.mem_cons_self ..))
    obtain ⟨b, c⟩ := shown_ints (ns := ns) fun m hm => h m (List.mem_cons_of_mem _ hm)
    simp only [List.map_cons, PyData.shownAll, PyData.shown, List.sum_cons, List.length_cons]
    omega
/-- repr of a list of ints -/
theorem call_repr_ints (gu : X.A.guards = some []) (room : ∃ k, Room k X.A) : CallR X (.builtin "repr") (fun xs H Q => ∃ a ns, xs = [.ref a] ∧ SqL X.K H a (ns.map V.int) ∧ ns.length ≤ 5000 ∧ (∀ n ∈ ns, n.natAbs.log2 < 1920) ∧ Q (.str (dataI ns).shown) H) := by
  intro pins s σ H xs us Q I r h
  obtain ⟨a, ns, rfl, hS, len, small, q⟩ := h
  refine call_repr_data gu room pins s σ H _ us Q I r ⟨a, dataI ns, rfl, .lst hS (dp_ints ns), ?_, ?_, ?_, ?_, q⟩
  · unfold dataI
    simp only [PyData.showable, showable_ints small]
  · unfold dataI
    simp only [PyData.hasDict, hasDict_ints]
  · have := depth_ints ns
    unfold dataI
    simp only [PyData.depth]
    omega
  · obtain ⟨s1, s2⟩ := shown_ints small
    have := listText_len_le (PyData.shownAll (ns.map PyData.int))
    unfold dataI
    simp only [PyData.shown]
    rw [sizeLine_eq]
    omega
end
end Sm

set_option Elab.async false
set_option linter.all false
set_option maxRecDepth 100000
set_option maxHeartbeats 4000000
namespace Sm
open PySem PySem.Spec PyProof.Rows L2
/-! ### values of all kinds as data, dicts with text keys and ints too -/
def kD : Key → PyData
  | .inl i => .int i
  | .inr x => .str x
mutual
inductive Dq (K : PySem.W.Frag) (H : Hp) : V → PyData → Prop
  | non : Dq K H .non .none
  | bl (b : Bool) : Dq K H (.bl b) (.bool b)
  | int (i : Int) : Dq K H (.int i) (.int i)
  | str (x : Str) : Dq K H (.str x) (.str x)
  | lst {a : Addr} {xs : List V} {ds : List PyData} : H a = some (.lst xs) → (a == sysModules) = false → DqAll K H xs ds → Dq K H (.ref a) (.list ds)
  | tup {a : Addr} {xs : List V} {ds : List PyData} : H a = some (.tup xs) → DqAll K H xs ds → Dq K H (.ref a) (.tuple ds)
  | dic {a : Addr} (kvs : List (Key × Int)) : H a = some (.dK (kvs.map fun q => (q.1, V.int q.2))) → Dq K H (.ref a) (.dict (kvs.map fun q => (kD q.1, PyData.int q.2)))
inductive DqAll (K : PySem.W.Frag) (H : Hp) : List V → List PyData → Prop
  | nil : DqAll K H [] []
  | cons {v : V} {vs : List V} {d : PyData} {ds : List PyData} : Dq K H v d → DqAll K H vs ds → DqAll K H (v :: vs) (d :: ds)
end
mutual
theorem Dq.mono {K : PySem.W.Frag} {H H' : Hp} (e : ∀ b o, H b = some o → H' b = some o) : ∀ (d : PyData) (v : V), Dq K H v d → Dq K H' v d
  | .none, _, h => by cases h; exact .non
  | .bool b, _, h => by cases h; exact .bl b
  | .int i, _, h => by cases h; exact .int i
  | .str x, _, h => by cases h; exact .str x
  | .list ds, _, h => by
    cases h with
    | lst hs ne ha => exact .lst (e _ _ hs) ne (Dq.monoAll e ds _ ha)
  | .tuple ds, _, h => by
    cases h with
    | tup hs ha => exact .tup (e _ _ hs) (Dq.monoAll e ds _ ha)
  | .dict _, _, h => by
    cases h with
    | dic kvs hk => exact .dic kvs (e _ _ hk)
theorem Dq.monoAll {K : PySem.W.Frag} {H H' : Hp} (e : ∀ b o, H b = some o → H' b = some o) : ∀ (ds : List PyData) (vs : List V), DqAll K H vs ds → DqAll K H' vs ds
  | [], _, h => by cases h; exact .nil
  | d :: ds, _, h => by
    cases h with
    | cons h1 h2 => exact .cons (Dq.mono e d _ h1) (Dq.monoAll e ds _ h2)
end
theorem Dq.same {K : PySem.W.Frag} {H H' : Hp} {v : V} {d : PyData} (h : Dq K H v d) (s : Same H H') : Dq K H' v d := Dq.mono (fun b o => s b o) d v h
section
variable {X : Cx} {pins : List (Addr × Obj)} {σ : L2.St} {H : Hp} {s : Shared}
theorem dic_keys {h : Heap} {P : Program} {w : World} : ∀ {es : List DictEntry} {vs : List (Key × Value)} {kvs : List (Key × Int)}, Pairs (mixKind P w) es vs → KV (kvs.map fun q => (q.1, V.int q.2)) vs →
    ReadsAll h (es.map (·.key)) (kvs.map fun q => kD q.1) [] ∧ ReadsAll h (es.map (·.val)) (kvs.map fun q => PyData.int q.2) []
  | [], _, kvs, .nil, r => by
    cases kvs with
    | nil => exact ⟨.nil, .nil⟩
    | cons a b => exact nomatch r
  | e :: es, _, kvs, .cons h1 h2 h3, r => by
    cases kvs with
    | nil => exact nomatch r
    | cons a b =>
      cases r with
      | cons r1 r2 =>
        obtain ⟨q1, q2⟩ := dic_keys (h := h) h3 r2
        obtain ⟨g1, g2⟩ := r1
        have g1 : a.1 = _ := g1
        have g2 : RelV (V.int a.2) _ := g2
        obtain ⟨t, g2⟩ := g2
        refine ⟨?_, ?_⟩
        · have hk : Reads h e.key (kD a.1) [] := by
            rcases keyIs_shape h1 with ⟨i, t, e1, e2⟩ | ⟨x, t, e1, e2⟩
            · rw [g1, e2, e1]
              exact .int i t
            · rw [g1, e2, e1]
              exact .str x t
          exact .cons hk q1
        · have hv : Reads h e.val (.int a.2) [] := by
            rw [h2, g2]
            exact .int _ t
          exact .cons hv q2
mutual
theorem Dq.reads (I : Inv X pins σ H s) : ∀ (d : PyData) (v : V) (u : Value), Dq X.K H v d → RelV v u → ∃ as, Reads s.heap u d as ∧ sysModules ∉ as
  | .none, _, _, h, r => by
    cases h
    cases r
    exact ⟨_, Reads.none, List.not_mem_nil⟩
  | .bool b, _, _, h, r => by
    cases h
    cases r
    exact ⟨_, Reads.bool b, List.not_mem_nil⟩
  | .int i, _, _, h, r => by
    cases h
    obtain ⟨t, rfl⟩ := r
    exact ⟨_, Reads.int i t, List.not_mem_nil⟩
  | .str x, _, _, h, r => by
    cases h
    obtain ⟨t, rfl⟩ := r
    exact ⟨_, Reads.str x t, List.not_mem_nil⟩
  | .list ds, _, _, h, r => by
    cases h with
    | lst hs ne ha =>
      cases r
      obtain ⟨its, rv, ⟨o, n, ho, hc, _, hd⟩, _⟩ := I.list (SqL.of hs)
      obtain ⟨as, hr, hm⟩ := Dq.readsAll I ds _ its ha rv
      refine ⟨_, Reads.list ho hc hd hr, fun m => ?_⟩
      rcases List.mem_cons.mp m with e | e
      · rw [← e, beq_self_eq_true] at ne
        cases ne
      · exact hm e
  | .tuple ds, _, _, h, r => by
    cases h with
    | tup hs ha =>
      cases r
      obtain ⟨its, rv, ⟨o, ho, hc, n, hd⟩, _⟩ := I.tuple (SqT.of hs)
      obtain ⟨as, hr, hm⟩ := Dq.readsAll I ds _ its ha rv
      exact ⟨_, Reads.tuple ho hc hd hr, hm⟩
  | .dict _, _, _, h, r => by
    cases h with
    | dic kvs hk =>
      cases r
      obtain ⟨_, hd, vs, kv, o, es, ep, h1, h2, h3, _, h4, _⟩ := dk_of I.hok hk
      obtain ⟨q1, q2⟩ := dic_keys (h := s.heap) h4 kv
      have e1 : (kvs.map fun q => (kD q.1, PyData.int q.2)).map (·.1) = kvs.map fun q => kD q.1 := by rw [List.map_map]; rfl
      have e2 : (kvs.map fun q => (kD q.1, PyData.int q.2)).map (·.2) = kvs.map fun q => PyData.int q.2 := by rw [List.map_map]; rfl
      refine ⟨_, Reads.dict h1 h2.1 h3 (by rw [e1]; exact q1) (by rw [e2]; exact q2), fun m => ?_⟩
      rw [List.append_nil] at m
      rw [← List.mem_singleton.mp m, beq_self_eq_true] at hd
      cases hd
theorem Dq.readsAll (I : Inv X pins σ H s) : ∀ (ds : List PyData) (vs : List V) (us : List Value), DqAll X.K H vs ds → Vals vs us → ∃ as, ReadsAll s.heap us ds as ∧ sysModules ∉ as
  | [], _, _, h, r => by
    cases h
    cases r
    exact ⟨_, ReadsAll.nil, List.not_mem_nil⟩
  | d :: ds, _, _, h, r => by
    cases h with
    | cons h1 h2 =>
      cases r with
      | cons r1 r2 =>
        obtain ⟨as, q1, m1⟩ := Dq.reads I d _ _ h1 r1
        obtain ⟨bs, q2, m2⟩ := Dq.readsAll I ds _ _ h2 r2
        refine ⟨_, ReadsAll.cons q1 q2, fun m => ?_⟩
        rcases List.mem_append.mp m with e | e
        · exact m1 e
        · exact m2 e
end
/-- the built-in class of such a value -/
def tyN : PyData → String
  | .none => "NoneType"
  | .bool _ => "bool"
  | .int _ => "int"
  | .str _ => "str"
  | .list _ => "list"
  | .tuple _ => "tuple"
  | .dict _ => "dict"
theorem Dq.ty {K : PySem.W.Frag} {v : V} {d : PyData} (h : Dq K H v d) : TyX K H v (.type (tyN d)) := by
  cases h with
  | non => exact .base .non
  | bl b => exact .base (.bl b)
  | int i => exact .base (.int i)
  | str x => exact .base (.str x)
  | lst e _ _ => exact .base (.lst e)
  | tup e _ => exact .base (.tup e)
  | dic kvs e => exact .base (.dK e)
end
def isT (n m : String) : Bool := m == n || (n == "int" && m == "bool")
def isOf (n : String) (d : PyData) : Bool := isT n (tyN d)
theorem kit_q {K : PySem.W.Frag} {n : String} {d : PyData} (h : n = "int" ∨ n = "bool" ∨ n = "str" ∨ n = "tuple" ∨ n = "list") : PySem.W.kitOne K (.type (tyN d)) (.type n) = some (isOf n d) := by
  refine kit_ty ?_
  unfold isOf
  have m : tyN d = "NoneType" ∨ tyN d = "bool" ∨ tyN d = "int" ∨ tyN d = "str" ∨ tyN d = "list" ∨ tyN d = "tuple" ∨ tyN d = "dict" := by
    cases d <;> simp [tyN]
  generalize tyN d = m' at m
  rcases h with rfl | rfl | rfl | rfl | rfl <;> rcases m with rfl | rfl | rfl | rfl | rfl | rfl | rfl <;> decide +kernel
section
variable {X : Cx}
/-- isinstance(x, T), x of any kind, T built in -/
def rIsQ (K : PySem.W.Frag) : List V → Hp → VK → Prop := fun xs H Q => ∃ (x : V) (d : PyData) (n : String), xs = [x, .ty n] ∧ Dq K H x d ∧ (n = "int" ∨ n = "bool" ∨ n = "str" ∨ n = "tuple" ∨ n = "list") ∧ Q (.bl (isOf n d)) H
theorem call_isQ : CallR X (.builtin "isinstance") (rIsQ X.K) := by
  intro pins s σ H xs us Q I r h
  obtain ⟨x, d, n, rfl, hd, hn, q⟩ := h
  exact call_isi pins s σ H _ us Q I r ⟨x, .ty n, _, _, _, rfl, .ty n, hd.ty, kit_q hn, q⟩
/-- repr of a value of any kind -/
def rReprQ (K : PySem.W.Frag) : List V → Hp → VK → Prop := fun xs H Q => ∃ v d, xs = [v] ∧ Dq K H v d ∧ PyData.showable d = true ∧ d.depth ≤ 60 ∧ d.shown.length ≤ sizeLine ∧ Q (.str d.shown) H
theorem call_reprQ (gu : X.A.guards = some []) (room : ∃ k, Room k X.A) : CallR X (.builtin "repr") (rReprQ X.K) := by
  intro pins s σ H xs us Q I rel want
  obtain ⟨v, d, rfl, data, sh, dep, len, q⟩ := want
  obtain ⟨u, rfl, ru⟩ := vals1 rel
  obtain ⟨as, reads, ns⟩ := Dq.reads I d _ u data ru
  obtain ⟨k, room⟩ := room
  have un := room.un
  have done : ∀ h' (v : Value) tk, (∀ b o, s.heap.get? b = some o → h'.get? b = some o) → (∃ t, v = Value.str d.shown t) → ∃ y H2, Inv X pins σ H2 { s with heap := h', toks := tk } ∧ RelV y v ∧ Q y H2 := fun h' v tk keep e => ⟨.str d.shown, H, I.kept keep, e, q⟩
  have at_ : ∀ a, u = .ref a → _ := fun a e => repr_of_reads' (A := X.A) (s := s) (prog := X.prog) (w := X.w) (E := X.xe) (Q := fun y s' => ∃ z H2, Inv X pins σ H2 s' ∧ RelV z y ∧ Q z H2) (by rw [← e]; exact reads) sh (fun _ => ns) gu (by omega) (fun _ _ e => e) (fun h' v tk keep => ⟨.str d.shown, H, I.kept keep, ⟨_, rfl⟩, q⟩) len
  cases data with
  | non =>
    cases ru
    exact PySem.P.repr_of_none ⟨.str _, H, I.tok _, ⟨_, rfl⟩, q⟩
  | bl b =>
    cases ru
    refine PySem.P.repr_of_bool ⟨.str _, H, I.tok _, ⟨_, rfl⟩, ?_⟩
    cases b <;> exact q
  | int i =>
    obtain ⟨t, rfl⟩ := ru
    exact PySem.P.repr_of_int (of_decide_eq_true (by simpa [PyData.showable] using sh)) ⟨.str _, H, I.tok _, ⟨_, rfl⟩, q⟩
  | str x =>
    obtain ⟨t, rfl⟩ := ru
    exact PySem.P.repr_of_str ⟨.str _, H, I.tok _, ⟨_, rfl⟩, q⟩ len
  | lst e1 e2 e3 =>
    cases ru
    exact at_ _ rfl
  | tup e1 e2 =>
    cases ru
    exact at_ _ rfl
  | dic kvs e1 =>
    cases ru
    exact at_ _ rfl
/-- a list is made: it is not sys.modules -/
def tLstN (t : TA) : TE := fun σ H Q => t σ H fun xs H1 => xs.length ≤ sizeLine ∧ ∀ p, H1 p = none → (p == sysModules) = false → Q (.ref p) (upd H1 p (.lst xs))
theorem pe_lstN {es : List Expr} {pos : Pos} {t : TA} (h : PA X es t) : PE X (.List es pos) (tLstN t) := by
  refine ⟨fun pins s σ H Q I hq => ?_⟩
  refine wpAny_List_spliced (thn (h.run pos pins s σ H _ I hq) fun us s1 ⟨xs, H1, I1, r, z, q⟩ => ⟨by rw [← r.length]; exact z, ?_⟩)
  have hf : H1 s1.heap.objs.size = none := I1.hok.fresh (Nat.le_refl _)
  have hs : (s1.heap.objs.size == sysModules) = false := beq_eq_false_iff_ne.mpr (Ne.symm (Nat.ne_of_lt I1.big))
  refine ⟨.ref s1.heap.objs.size, upd H1 s1.heap.objs.size (.lst xs), I1.laid (t' := s1.toks) (fun b u e => Heap.get?_push_of_some _ e) (Nat.le_refl _) ?_, rfl, q _ hf hs⟩
  exact ⟨z, us, 0, r, Heap.get?_push_size _ rfl⟩
/-- list(t) of a tuple -/
theorem call_listN : CallR X (.type "list") (fun xs H Q => ∃ p ys, xs = [.ref p] ∧ H p = some (.tup ys) ∧ ∀ l, H l = none → (l == sysModules) = false → Q (.ref l) (upd H l (.lst ys))) := by
  intro pins s σ H xs us Q I r h
  obtain ⟨p, ys, rfl, hq, q⟩ := h
  have hs : (s.heap.objs.size == sysModules) = false := beq_eq_false_iff_ne.mpr (Ne.symm (Nat.ne_of_lt I.big))
  obtain ⟨u, rfl, rx⟩ := vals1 r
  cases rx
  obtain ⟨its, r', pl, hz⟩ := I.tuple (SqT.of hq)
  have hlen := r'.length
  obtain ⟨o, ho, hc, n, hd⟩ := pl
  exact call_list_seq p (.inr rfl) ho hc hd (fun h' c' kp e => ⟨.ref s.heap.objs.size, _, I.laid (t' := s.toks) kp (Nat.le_refl _) (show ObjOk X.prog X.w _ h' _ (.lst ys) from ⟨hz, its, c', r', e⟩), rfl, q _ (I.hok.fresh (Nat.le_refl _)) hs⟩) (by simp only [List.size_toArray] <;> omega)
end
end Sm

set_option Elab.async false
set_option linter.all false
namespace L2
open PySem PySem.Spec PyProof.Rows
/-! == and != of data without dicts, whatever the signs of its texts -/
def rEqP (K : PySem.W.Frag) : R2 := fun x y H Q => ∃ d e, Dp K H x d ∧ Dp K H y e ∧ d.plain = true ∧ e.plain = true ∧ d.depth ≤ 60 ∧ Q (.bl (PyData.eqv d e)) H
def rNeP (K : PySem.W.Frag) : R2 := fun x y H Q => ∃ d e, Dp K H x d ∧ Dp K H y e ∧ d.plain = true ∧ e.plain = true ∧ d.depth ≤ 60 ∧ Q (.bl (!PyData.eqv d e)) H
section
variable {X : Cx}
theorem op_eqP (hu : X.A.units + 64 < cLine) : OpR X (compareOp .Eq) (rEqP X.K) := by
  intro pins s σ H x y v u Q I rx ry h
  obtain ⟨d, e, hd, he, sd, se, dd, q⟩ := h
  obtain ⟨as, r1⟩ := Dp.reads I d x v hd rx
  obtain ⟨bs, r2⟩ := Dp.reads I e y u he ry
  exact SeqAt.eq_plain r1 r2 sd se (by omega) ⟨.bl _, H, I, rfl, q⟩
theorem op_neP (hu : X.A.units + 64 < cLine) : OpR X (compareOp .NotEq) (rNeP X.K) := by
  intro pins s σ H x y v u Q I rx ry h
  obtain ⟨d, e, hd, he, sd, se, dd, q⟩ := h
  obtain ⟨as, r1⟩ := Dp.reads I d x v hd rx
  obtain ⟨bs, r2⟩ := Dp.reads I e y u he ry
  exact SeqAt.ne_plain r1 r2 sd se (by omega) ⟨.bl _, H, I, rfl, q⟩
end
end L2

set_option Elab.async false
set_option linter.all false
set_option maxRecDepth 100000
set_option maxHeartbeats 4000000
namespace PySem.SeqAt
open AutoSeq1 (wpAny_loadPart')
open MeetsSeq
theorem dict_no_str (l : Addr) (es : Array DictEntry) (n : Nat) (dd : Option Addr) (sl : Array (Option Value)) (b : Str) (u : Tok) :
    Meets (Builtin.«dict.__eq__» ⟨[.ref l, .str b u], []⟩) (fun _ R s => s.heap.get? l = some { cls := .type "dict", dict := dd, data := .dict es n, slots := sl } ∧ R (.ok (.ret .notImplemented)) s) :=
  .of_wp fun prog w A R s h => by
    obtain ⟨hp, g, d, tk, os⟩ := s
    obtain ⟨hl, h⟩ := h
    have f1 := F.sub_str_dict
    wp_walk using wpAny_loadPart' hl
    exact ⟨_, rfl, h⟩
theorem str_no_dict (b : Str) (u : Tok) (l : Addr) (es : Array DictEntry) (n : Nat) (dd : Option Addr) (sl : Array (Option Value)) :
    Meets (Builtin.«str.__eq__» ⟨[.str b u, .ref l], []⟩) (fun _ R s => s.heap.get? l = some { cls := .type "dict", dict := dd, data := .dict es n, slots := sl } ∧ R (.ok (.ret .notImplemented)) s) :=
  .of_wp fun prog w A R s h => by
    obtain ⟨hp, g, d, tk, os⟩ := s
    obtain ⟨hl, h⟩ := h
    wp_walk using wpAny_loadPart' hl, wpAny_load hl
    exact ⟨_, rfl, h⟩
/-- a dict is no text -/
theorem rc_dict_str {A : Around} {s : Shared} {l : Addr} {o : Obj} {es : Array DictEntry} {n : Nat} (b : Str) (u : Tok) (ho : s.heap.get? l = some o) (hc : o.cls = .type "dict") (hd : o.data = .dict es n) (hu : A.units < cLine) : RcAt A s (.ref l) (.str b u) false := fun prog w E Q h => by
  obtain ⟨cls, dd, data, sl⟩ := o
  simp only at hc hd
  subst hc hd
  exact rc_eq_decline_or (k := false) ⟨_, ho, rfl⟩ (typeIs_str s b u) (by decide) F.sub_str_dict F.slot_dict_eq F.slot_str_eq_refl
    (fun _ hq => call_meets F.slot_dict_eq ⟨_, ho, rfl⟩ F.entry_dict_eq (F.args_dict_eq_2 _ _) (dict_no_str l es n dd sl b u) ⟨ho, hq⟩)
    (fun _ hq => call_meets F.slot_str_eq_refl (typeIs_str s b u) F.entry_str_eq (F.args_str_eq_2 _ _) (str_no_dict b u l es n dd sl) ⟨ho, hq⟩)
    (fun _ hq => wpAny_of_eq (rfl : isSame (.ref l) (.str b u) = pure false) hq) (.inr hu) h
end PySem.SeqAt
namespace Sm
open PySem PySem.Spec PyProof.Rows L2
def strD (d : PyData) (x : Str) : Bool := match d with | .str y => decide (V.str y = V.str x) | _ => false
/-- a value of any kind == a text -/
def rEqQ (K : PySem.W.Frag) : R2 := fun x y H Q => ∃ (d : PyData) (t : Str), Dq K H x d ∧ y = .str t ∧ Q (.bl (strD d t)) H
theorem op_eqQ {X : Cx} (hu : X.A.units + 64 < cLine) : OpR X (compareOp .Eq) (rEqQ X.K) := by
  intro pins s σ H x y v u Q I rx ry h
  obtain ⟨d, t, hd, rfl, q⟩ := h
  cases hd with
  | non => exact op_eq pins s σ H _ _ v u Q I rx ry ⟨rfl, q⟩
  | bl b => exact op_eq pins s σ H _ _ v u Q I rx ry ⟨rfl, q⟩
  | int i => exact op_eq pins s σ H _ _ v u Q I rx ry ⟨rfl, q⟩
  | str z => exact op_eq pins s σ H _ _ v u Q I rx ry ⟨rfl, q⟩
  | lst e1 e2 e3 =>
    cases rx
    obtain ⟨k, rfl⟩ := ry
    obtain ⟨its, rv, hl, _⟩ := I.list (SqL.of e1)
    exact SeqAt.RcAt.list_str t k hl.isList (by omega) _ _ _ _ ⟨.bl _, H, I, rfl, q⟩
  | tup e1 e2 =>
    cases rx
    obtain ⟨k, rfl⟩ := ry
    obtain ⟨its, rv, hl, _⟩ := I.tuple (SqT.of e1)
    exact SeqAt.RcAt.tuple_str t k hl (by omega) _ _ _ _ ⟨.bl _, H, I, rfl, q⟩
  | dic kvs e1 =>
    cases rx
    obtain ⟨k, rfl⟩ := ry
    obtain ⟨_, hd, vs, kv, o, es, ep, h1, h2, h3, _⟩ := dk_of I.hok e1
    exact SeqAt.rc_dict_str t k h1 h2.1 h3 (by omega) _ _ _ _ ⟨.bl _, H, I, rfl, q⟩
end Sm

set_option Elab.async false
set_option linter.all false
set_option maxRecDepth 100000
set_option maxHeartbeats 4000000
namespace Sm
open PySem PySem.Spec PyProof.Rows L2
/-! ### comprehensions whose items are told one by one, what stands stays -/
abbrev lcmQ (H : Hp) (D : Addr) (fv : Nat → V) (i : Nat) : VK := fun y H4 => ∃ acc, H4 D = some (.lst acc) ∧ acc.length < sizeLine ∧ Same H (upd H4 D (.lst (acc ++ [y]))) ∧ upd H4 D (.lst (acc ++ [y])) D = some (.lst ((List.range (i + 1)).map fv))
theorem lcm_step {H H' H4 : Hp} {D : Addr} {i n : Nat} {fv : Nat → V} (nD : H D = none) (s : Same H H') (hD : H' D = some (.lst ((List.range i).map fv))) (hi : i ≤ n) (ln : n ≤ 20000) (s4 : Same H' H4) :
    ∃ acc, H4 D = some (.lst acc) ∧ acc.length < sizeLine ∧ Same H (upd H4 D (.lst (acc ++ [fv i]))) ∧ upd H4 D (.lst (acc ++ [fv i])) D = some (.lst ((List.range (i + 1)).map fv)) := by
  refine ⟨_, s4 _ _ hD, ?_, fun b o e => ?_, ?_⟩
  · rw [List.length_map, List.length_range]
    exact Nat.lt_of_le_of_lt (show i ≤ 20000 by omega) (by decide)
  · rw [upd_ne (ne_of_none e nD)]
    exact s4 _ _ (s _ _ e)
  · rw [upd_same, List.range_succ, List.map_append]
    rfl
theorem lc_mT {K : PySem.W.Frag} {a : Addr} {xs : List V} {g : TG} {te : TE} {vs : List Nat} {σ : L2.St} {H : Hp} {D : Addr} {Qd : Hp → Prop} (fv : Nat → V) (ha : H a = some (.tup xs)) (nD : H D = none) (ln : xs.length ≤ 20000)
    (hs : ∀ i x H', xs[i]? = some x → Same H H' → ∀ R : VK, (∀ H4, Same H' H4 → R (fv i) H4) → g x (wipe σ vs) H' fun σ2 H2 => wipe σ2 vs = wipe σ vs ∧ te σ2 H2 R)
    (mono : ∀ x H' (A B : L2.St → Hp → Prop), (∀ σ2 H2, A σ2 H2 → B σ2 H2) → g x (wipe σ vs) H' A → g x (wipe σ vs) H' B)
    (hd : ∀ H', Same H H' → H' D = some (.lst ((List.range xs.length).map fv)) → Qd H') :
    ∃ W : Nat → Nat → Hp → Prop, (∃ m, W 0 m (upd H D (.lst []))) ∧ ∀ i m H, W i m H → ((Itt K a).stop i H ∧ Qd H) ∨ ((Itt K a).go i H ∧ ∃ Nx : Hp → Prop, (∀ H', Nx H' → ∃ m', m' < m ∧ W (i + 1) m' H') ∧ ∀ x H', (Itt K a).yld i H x H' → g x (wipe σ vs) H' fun σ2 H2 => wipe σ2 vs = wipe σ vs ∧ tYes σ2 H2 fun b H3 =>
        if b = true then te σ2 H3 fun y H4 => ∃ acc, H4 D = some (.lst acc) ∧ acc.length < sizeLine ∧ Nx (upd H4 D (.lst (acc ++ [y]))) else Nx H3) := by
  refine lc_tup (K := K) (a := a) (xs := xs) (fun i H' => Same H H' ∧ H' D = some (.lst ((List.range i).map fv))) ⟨same_upd nD, upd_same⟩ (fun i H' _ h => SqT.of (h.1 _ _ ha)) ?_ (fun H' h => hd H' h.1 h.2)
  rintro i x H' hx ⟨s, hD⟩
  have il : i < xs.length := (List.getElem?_eq_some_iff.mp hx).1
  refine mono x H' _ _ ?_ (hs i x H' hx s (lcmQ H D fv i) fun H4 s4 => lcm_step nD s hD (Nat.le_of_lt il) ln s4)
  rintro σ2 H2 ⟨e, h⟩
  refine ⟨e, ?_⟩
  unfold tYes
  exact iteT h
theorem lc_mL {K : PySem.W.Frag} {a : Addr} {xs : List V} {g : TG} {te : TE} {vs : List Nat} {σ : L2.St} {H : Hp} {D : Addr} {Qd : Hp → Prop} (fv : Nat → V) (ha : H a = some (.lst xs)) (nD : H D = none) (ln : xs.length ≤ 20000)
    (hs : ∀ i x H', xs[i]? = some x → Same H H' → ∀ R : VK, (∀ H4, Same H' H4 → R (fv i) H4) → g x (wipe σ vs) H' fun σ2 H2 => wipe σ2 vs = wipe σ vs ∧ te σ2 H2 R)
    (mono : ∀ x H' (A B : L2.St → Hp → Prop), (∀ σ2 H2, A σ2 H2 → B σ2 H2) → g x (wipe σ vs) H' A → g x (wipe σ vs) H' B)
    (hd : ∀ H', Same H H' → H' D = some (.lst ((List.range xs.length).map fv)) → Qd H') :
    ∃ W : Nat → Nat → Hp → Prop, (∃ m, W 0 m (upd H D (.lst []))) ∧ ∀ i m H, W i m H → ((Itl K a).stop i H ∧ Qd H) ∨ ((Itl K a).go i H ∧ ∃ Nx : Hp → Prop, (∀ H', Nx H' → ∃ m', m' < m ∧ W (i + 1) m' H') ∧ ∀ x H', (Itl K a).yld i H x H' → g x (wipe σ vs) H' fun σ2 H2 => wipe σ2 vs = wipe σ vs ∧ tYes σ2 H2 fun b H3 =>
        if b = true then te σ2 H3 fun y H4 => ∃ acc, H4 D = some (.lst acc) ∧ acc.length < sizeLine ∧ Nx (upd H4 D (.lst (acc ++ [y]))) else Nx H3) := by
  refine lc_list (K := K) (a := a) (xs := xs) (fun i H' => Same H H' ∧ H' D = some (.lst ((List.range i).map fv))) ⟨same_upd nD, upd_same⟩ (fun i H' _ h => SqL.of (h.1 _ _ ha)) ?_ (fun H' h => hd H' h.1 h.2)
  rintro i x H' hx ⟨s, hD⟩
  have il : i < xs.length := (List.getElem?_eq_some_iff.mp hx).1
  refine mono x H' _ _ ?_ (hs i x H' hx s (lcmQ H D fv i) fun H4 s4 => lcm_step nD s hD (Nat.le_of_lt il) ln s4)
  rintro σ2 H2 ⟨e, h⟩
  refine ⟨e, ?_⟩
  unfold tYes
  exact iteT h
theorem lc_mR {lo : Int} {n : Nat} {g : TG} {te : TE} {vs : List Nat} {σ : L2.St} {H : Hp} {D : Addr} {Qd : Hp → Prop} (fv : Nat → V) (nD : H D = none) (ln : n ≤ 20000)
    (hs : ∀ i H', i < n → Same H H' → ∀ R : VK, (∀ H4, Same H' H4 → R (fv i) H4) → g (.int (lo + i)) (wipe σ vs) H' fun σ2 H2 => wipe σ2 vs = wipe σ vs ∧ te σ2 H2 R)
    (mono : ∀ x H' (A B : L2.St → Hp → Prop), (∀ σ2 H2, A σ2 H2 → B σ2 H2) → g x (wipe σ vs) H' A → g x (wipe σ vs) H' B)
    (hd : ∀ H', Same H H' → H' D = some (.lst ((List.range n).map fv)) → Qd H') :
    ∃ W : Nat → Nat → Hp → Prop, (∃ m, W 0 m (upd H D (.lst []))) ∧ ∀ i m H, W i m H → ((Itr lo n).stop i H ∧ Qd H) ∨ ((Itr lo n).go i H ∧ ∃ Nx : Hp → Prop, (∀ H', Nx H' → ∃ m', m' < m ∧ W (i + 1) m' H') ∧ ∀ x H', (Itr lo n).yld i H x H' → g x (wipe σ vs) H' fun σ2 H2 => wipe σ2 vs = wipe σ vs ∧ tYes σ2 H2 fun b H3 =>
        if b = true then te σ2 H3 fun y H4 => ∃ acc, H4 D = some (.lst acc) ∧ acc.length < sizeLine ∧ Nx (upd H4 D (.lst (acc ++ [y]))) else Nx H3) := by
  refine lc_range (fun i H' => Same H H' ∧ H' D = some (.lst ((List.range i).map fv))) ⟨same_upd nD, upd_same⟩ ?_ (fun H' h => hd H' h.1 h.2)
  rintro i H' il ⟨s, hD⟩
  refine mono _ H' _ _ ?_ (hs i H' il s (lcmQ H D fv i) fun H4 s4 => lcm_step nD s hD (Nat.le_of_lt il) ln s4)
  rintro σ2 H2 ⟨e, h⟩
  refine ⟨e, ?_⟩
  unfold tYes
  exact iteT h
/-- one name -/
theorem gName_mono {j : Nat} {σ : L2.St} : ∀ (x : V) (H' : Hp) (A B : L2.St → Hp → Prop), (∀ σ2 H2, A σ2 H2 → B σ2 H2) → gName j x σ H' A → gName j x σ H' B := fun x H' A B h a => h _ _ a
end Sm

set_option maxHeartbeats 4000000
namespace Sm
/-! offers, boards, and what leads where -/
structure Of where
  a : Nat
  x : Int
  b : Nat
  y : Int
def Of.ns (o : Of) : List Int := [(o.a : Int), o.x, (o.b : Int), o.y]
structure OfOk (k : Nat) (o : Of) : Prop where
  a : o.a < k
  b : o.b < k
  ne : o.a ≠ o.b
  x0 : 1 ≤ o.x
  x1 : o.x ≤ 30
  y0 : 0 ≤ o.y
  y1 : o.y ≤ 30
def Edge (L : List Of) (a b : Nat) : Prop := ∃ o ∈ L, o.a = a ∧ o.b = b ∧ 0 < o.y
def Rn (L : List Of) (s : Nat) : Nat → Nat → Prop
  | 0, c => c = s
  | n + 1, c => Rn L s n c ∨ ∃ b, Rn L s n b ∧ Edge L b c
def Lead (L : List Of) (s c : Nat) : Prop := ∃ n, Rn L s n c
section
variable {L : List Of} {s c d k : Nat}
theorem Rn.up {n m : Nat} (h : n ≤ m) (r : Rn L s n c) : Rn L s m c := by
  induction m with
  | zero => rw [show n = 0 by omega] at r; exact r
  | succ m ih =>
    by_cases q : n = m + 1
    · rw [← q]; exact r
    · exact .inl (ih (by omega))
theorem Lead.self : Lead L s s := ⟨0, rfl⟩
theorem Lead.step (h : Lead L s c) (e : Edge L c d) : Lead L s d := by
  obtain ⟨n, r⟩ := h
  exact ⟨n + 1, .inr ⟨c, r, e⟩⟩
theorem Lead.closed {S : Nat → Prop} (h0 : S s) (hs : ∀ a b, S a → Edge L a b → S b) (h : Lead L s c) : S c := by
  obtain ⟨n, r⟩ := h
  induction n generalizing c with
  | zero => rw [show c = s from r]; exact h0
  | succ n ih =>
    rcases r with r | ⟨b, r, e⟩
    · exact ih r
    · exact hs _ _ (ih r) e
theorem Lead.trans (h1 : Lead L s c) (h2 : Lead L c d) : Lead L s d := h2.closed (S := fun x => Lead L s x) h1 fun _ _ h e => h.step e
theorem filter_less {α : Type} {p q : α → Bool} : ∀ {l : List α}, (∀ x ∈ l, p x = true → q x = true) → (∃ x ∈ l, q x = true ∧ p x = false) → (l.filter p).length + 1 ≤ (l.filter q).length
  | [], _, h => by obtain ⟨_, h, _⟩ := h; cases h
  | a :: l, h, ⟨x, hx, h1, h2⟩ => by
    have le : (l.filter p).length ≤ (l.filter q).length := by
      clear hx h1 h2
      induction l with
      | nil => exact Nat.le_refl _
      | cons b l ih =>
        have i := ih fun x hx => by
          rcases List.mem_cons.mp hx with e | e
          · exact h x (by rw [e]; exact List.mem_cons_self)
          · exact h x (List.mem_cons_of_mem _ (List.mem_cons_of_mem _ e))
        have hb := h b (List.mem_cons_of_mem _ List.mem_cons_self)
        rw [List.filter_cons, List.filter_cons]
        cases e : p b with
        | true => rw [if_pos rfl, if_pos (hb e)]; simp; exact i
        | false =>
          rw [if_neg Bool.false_ne_true]
          split
          · simp; omega
          · exact i
    rw [List.filter_cons, List.filter_cons]
    rcases List.mem_cons.mp hx with e | e
    · subst e
      rw [h1, h2, if_neg Bool.false_ne_true, if_pos rfl]
      simp
      exact le
    · have i := filter_less (fun x hx => h x (List.mem_cons_of_mem _ hx)) ⟨x, e, h1, h2⟩
      have ha := h a List.mem_cons_self
      cases e : p a with
      | true => rw [if_pos rfl, if_pos (ha e)]; simp; omega
      | false =>
        rw [if_neg Bool.false_ne_true]
        split
        · simp; omega
        · exact i
noncomputable def cnt (L : List Of) (s k n : Nat) : Nat := ((List.range k).filter fun c => @decide (Rn L s n c) (Classical.propDecidable _)).length
theorem cdec {p : Prop} : (@decide p (Classical.propDecidable _)) = true ↔ p := @decide_eq_true_iff p (Classical.propDecidable _)
theorem cdecf {p : Prop} : (@decide p (Classical.propDecidable _)) = false ↔ ¬ p := @decide_eq_false_iff_not p (Classical.propDecidable _)
theorem Rn.lt {n : Nat} (hL : ∀ o ∈ L, OfOk k o) (hs : s < k) (r : Rn L s n c) : c < k := by
  induction n generalizing c with
  | zero => rw [show c = s from r]; exact hs
  | succ n ih =>
    rcases r with r | ⟨b, r, o, ho, _, e, _⟩
    · exact ih r
    · rw [← e]; exact (hL o ho).b
theorem Lead.lt (hL : ∀ o ∈ L, OfOk k o) (hs : s < k) (h : Lead L s c) : c < k := by
  obtain ⟨n, r⟩ := h
  exact r.lt hL hs
theorem Lead.to (hL : ∀ o ∈ L, OfOk k o) (hs : s < k) (h : Lead L s c) : Rn L s k c := by
  have key : ∀ n, (∃ m, m ≤ n ∧ ∀ c, Rn L s (m + 1) c → Rn L s m c) ∨ n + 1 ≤ cnt L s k n := by
    intro n
    induction n with
    | zero =>
      right
      have : 0 < cnt L s k 0 := List.length_pos_of_mem (a := s) (List.mem_filter.mpr ⟨List.mem_range.mpr hs, cdec.mpr rfl⟩)
      omega
    | succ n ih =>
      rcases ih with ⟨m, h1, h2⟩ | ih
      · exact .inl ⟨m, by omega, h2⟩
      · rcases Classical.em (∀ c, Rn L s (n + 1) c → Rn L s n c) with q | q
        · exact .inl ⟨n, by omega, q⟩
        · right
          obtain ⟨c, hc⟩ := Classical.not_forall.mp q
          obtain ⟨h1, h2⟩ := Classical.not_imp.mp hc
          have := filter_less (l := List.range k) (p := fun c => @decide (Rn L s n c) (Classical.propDecidable _)) (q := fun c => @decide (Rn L s (n + 1) c) (Classical.propDecidable _))
            (fun x _ hx => cdec.mpr (.inl (cdec.mp hx))) ⟨c, List.mem_range.mpr (h1.lt hL hs), cdec.mpr h1, cdecf.mpr h2⟩
          unfold cnt at ih ⊢
          omega
  rcases key k with ⟨m, h1, h2⟩ | q
  · refine Rn.up h1 ?_
    exact h.closed (S := fun x => Rn L s m x) (Rn.up (Nat.zero_le _) rfl) fun a b ha e => h2 b (.inr ⟨a, ha, e⟩)
  · have : cnt L s k k ≤ k := by
      unfold cnt
      exact Nat.le_trans (List.length_filter_le ..) (by rw [List.length_range]; exact Nat.le_refl _)
    omega
end
/-! sorted lists -/
theorem srt_eq {α : Type} {lt : α → α → Prop} (irr : ∀ x, ¬ lt x x) (tr : ∀ x y z, lt x y → lt y z → lt x z) : ∀ {l m : List α}, l.Pairwise lt → m.Pairwise lt → (∀ x, x ∈ l ↔ x ∈ m) → l = m
  | [], [], _, _, _ => rfl
  | [], b :: m, _, _, h => by have := (h b).mpr List.mem_cons_self; cases this
  | a :: l, [], _, _, h => by have := (h a).mp List.mem_cons_self; cases this
  | a :: l, b :: m, h1, h2, h => by
    obtain ⟨p1, q1⟩ := List.pairwise_cons.mp h1
    obtain ⟨p2, q2⟩ := List.pairwise_cons.mp h2
    have e : a = b := by
      rcases List.mem_cons.mp ((h a).mp List.mem_cons_self) with e | e
      · exact e
      · rcases List.mem_cons.mp ((h b).mpr List.mem_cons_self) with f | f
        · exact f.symm
        · exact (irr a (tr _ _ _ (p1 b f) (p2 a e))).elim
    subst e
    rw [srt_eq irr tr q1 q2 fun x => ⟨fun hx => ?_, fun hx => ?_⟩]
    · rcases List.mem_cons.mp ((h x).mp (List.mem_cons_of_mem _ hx)) with e | e
      · subst e; exact (irr _ (p1 _ hx)).elim
      · exact e
    · rcases List.mem_cons.mp ((h x).mpr (List.mem_cons_of_mem _ hx)) with e | e
      · subst e; exact (irr _ (p2 _ hx)).elim
      · exact e
theorem range_lt (k : Nat) : (List.range k).Pairwise (· < ·) := List.pairwise_lt_range
noncomputable def leadsL (L : List Of) (k s : Nat) : List Nat := (List.range k).filter fun c => @decide (Lead L s c) (Classical.propDecidable _)
noncomputable def backs (L : List Of) (k s : Nat) : List Nat := (List.range k).filter fun c => @decide (Lead L s c ∧ Lead L c s) (Classical.propDecidable _)
theorem mem_leads {L : List Of} {k s c : Nat} : c ∈ leadsL L k s ↔ c < k ∧ Lead L s c := by
  unfold leadsL
  rw [List.mem_filter, List.mem_range, cdec]
theorem mem_backs {L : List Of} {k s c : Nat} : c ∈ backs L k s ↔ c < k ∧ Lead L s c ∧ Lead L c s := by
  unfold backs
  rw [List.mem_filter, List.mem_range, cdec]
theorem backs_same {L : List Of} {k s c : Nat} (h : c ∈ backs L k s) : backs L k c = backs L k s := by
  obtain ⟨h0, h1, h2⟩ := mem_backs.mp h
  unfold backs
  refine List.filter_congr fun x _ => ?_
  have : (Lead L c x ∧ Lead L x c) ↔ (Lead L s x ∧ Lead L x s) := ⟨fun ⟨a, b⟩ => ⟨h1.trans a, b.trans h2⟩, fun ⟨a, b⟩ => ⟨h2.trans a, b.trans h1⟩⟩
  rw [Bool.eq_iff_iff, cdec, cdec]
  exact this
theorem backs_self {L : List Of} {k s : Nat} (h : s < k) : s ∈ backs L k s := mem_backs.mpr ⟨h, .self, .self⟩
theorem leads_lt (L : List Of) (k s : Nat) : (leadsL L k s).Pairwise (· < ·) := (range_lt k).filter _
theorem backs_lt (L : List Of) (k s : Nat) : (backs L k s).Pairwise (· < ·) := (range_lt k).filter _
theorem backs_len (L : List Of) (k s : Nat) : (backs L k s).length ≤ k := Nat.le_trans (List.length_filter_le ..) (by rw [List.length_range]; exact Nat.le_refl _)
theorem leads_len (L : List Of) (k s : Nat) : (leadsL L k s).length ≤ k := Nat.le_trans (List.length_filter_le ..) (by rw [List.length_range]; exact Nat.le_refl _)
theorem backs_filter (L : List Of) (k s : Nat) : (leadsL L k s).filter (fun c => @decide (Lead L c s) (Classical.propDecidable _)) = backs L k s := by
  unfold leadsL backs
  rw [List.filter_filter]
  refine List.filter_congr fun x _ => ?_
  rw [Bool.eq_iff_iff, Bool.and_eq_true, cdec, cdec, cdec]
  exact ⟨fun ⟨a, b⟩ => ⟨b, a⟩, fun ⟨a, b⟩ => ⟨b, a⟩⟩
theorem nd_len {α : Type} [DecidableEq α] : ∀ {l m : List α}, l.Nodup → (∀ x, x ∈ l → x ∈ m) → l.length ≤ m.length
  | [], _, _, _ => Nat.zero_le _
  | a :: l, m, hn, hs => by
    have hm : a ∈ m := hs a List.mem_cons_self
    obtain ⟨n1, n2⟩ := List.nodup_cons.mp hn
    have ih := nd_len (m := m.erase a) n2 fun x hx => (List.mem_erase_of_ne (by rintro rfl; exact n1 hx)).mpr (hs x (List.mem_cons_of_mem _ hx))
    rw [List.length_erase_of_mem hm] at ih
    have := List.length_pos_of_mem hm
    simp only [List.length_cons]
    omega
/-- numbers as integers -/
abbrev ni (l : List Nat) : List Int := l.map fun (c : Nat) => (c : Int)
theorem mem_ni {l : List Nat} {c : Nat} : (c : Int) ∈ ni l ↔ c ∈ l := by
  constructor
  · intro h
    obtain ⟨d, hd, e⟩ := List.mem_map.mp h
    rw [← Int.ofNat.inj e]
    exact hd
  · intro h
    exact List.mem_map.mpr ⟨c, h, rfl⟩
theorem ni_sorted {l : List Nat} (h : l.Pairwise (· < ·)) : (ni l).Pairwise (· < ·) := by
  rw [List.pairwise_map]
  exact h.imp fun q => Int.ofNat_lt.mpr q
theorem ni_nodup {l : List Nat} (h : l.Nodup) : (ni l).Nodup := by
  unfold List.Nodup at h ⊢
  rw [List.pairwise_map]
  exact h.imp fun q e => q (Int.ofNat.inj e)
/-- a sorted arrangement of given numbers -/
theorem ni_sort {F l : List Nat} {ys : List Int} (pm : ys.Perm (ni F)) (le : ys.Pairwise (· ≤ ·)) (nd : F.Nodup) (up : l.Pairwise (· < ·)) (h : ∀ c, c ∈ F ↔ c ∈ l) : ys = ni l := by
  have ny : ys.Nodup := (pm.nodup_iff).mpr (ni_nodup nd)
  have lt : ys.Pairwise (· < ·) := by
    have both := List.Pairwise.and le ny
    exact both.imp fun ⟨a, b⟩ => by omega
  refine srt_eq (lt := fun a b : Int => a < b) (fun x => Int.lt_irrefl x) (fun x y z => Int.lt_trans) lt (ni_sorted up) fun x => ?_
  rw [pm.mem_iff]
  constructor
  · intro hx
    obtain ⟨c, hc, rfl⟩ := List.mem_map.mp hx
    exact mem_ni.mpr ((h c).mp hc)
  · intro hx
    obtain ⟨c, hc, rfl⟩ := List.mem_map.mp hx
    exact mem_ni.mpr ((h c).mpr hc)
end Sm

set_option Elab.async false
set_option linter.all false
set_option maxRecDepth 100000
set_option maxHeartbeats 4000000
namespace Sm
open PySem PySem.Spec PyProof.Rows L2
/-! ### a tuple taken once, or no times -/
theorem tuple_once (l : Addr) (items : Array Value) (n : Nat) (dd : Option Addr) (sl : Array (Option Value)) (u : Tok) :
    Meets (Builtin.«tuple.__mul__» ⟨[.ref l, .int 1 u], []⟩) (fun _ R s => s.heap.get? l = some { cls := .type "tuple", dict := dd, data := .seq items n, slots := sl } ∧ R (.ok (.ret (Value.ref l))) s) :=
  .of_wp fun prog w A R s h => by
    obtain ⟨hp, g, d, tk, os⟩ := s
    obtain ⟨hl, h⟩ := h
    have f1 := AutoSeq1.idx_int
    have c0 : (decide ((1 : Int) < -(2 ^ 63)) || decide ((1 : Int) ≥ 2 ^ 63)) = false := by decide
    wp_walk using wpAny_loadPart' hl
    exact ⟨_, rfl, h⟩
theorem tuple_zero (l : Addr) (items : Array Value) (n : Nat) (dd : Option Addr) (sl : Array (Option Value)) (u : Tok) (hi : items.isEmpty = false) :
    Meets (Builtin.«tuple.__mul__» ⟨[.ref l, .int 0 u], []⟩) (fun _ R s => s.heap.get? l = some { cls := .type "tuple", dict := dd, data := .seq items n, slots := sl } ∧ R (.ok (.ret (Value.ref s.heap.objs.size))) { s with heap := s.heap.push { cls := Value.type "tuple", data := Data.seq #[] } }) :=
  .of_wp fun prog w A R s h => by
    obtain ⟨hp, g, d, tk, os⟩ := s
    obtain ⟨hl, h⟩ := h
    have f1 := AutoSeq1.idx_int
    wp_walk using wpAny_loadPart' hl
    exact ⟨_, rfl, h⟩
section
variable {X : Cx}
/-- tuple * int, the int from 0 on -/
theorem op_rep0 : OpR X (binaryOp .Mult) (fun x y H Q => ∃ (l : Addr) (k : Int) (xs : List V), x = .ref l ∧ y = .int k ∧ H l = some (.tup xs) ∧ xs ≠ [] ∧ 0 ≤ k ∧ k ≤ 1000 ∧ xs.length ≤ 1000 ∧
    ∀ H' q, Same H H' → H' q = some (.tup (List.replicate k.toNat xs).flatten) → Q (.ref q) H') := by
  intro pins s σ H x y v u Q I rx ry want
  obtain ⟨l, k, xs, rfl, rfl, hT, hne, h0, h1, hz, q⟩ := want
  by_cases big : 2 ≤ k
  · exact op_repT pins s σ H _ _ v u Q I rx ry ⟨l, k, xs, rfl, rfl, SqT.of hT, hne, big, h1, hz, fun p np => q _ p (fun b o e => by rw [upd_ne (ne_of_none e np)]; exact e) upd_same⟩
  cases rx
  obtain ⟨t, rfl⟩ := ry
  obtain ⟨its, r, ⟨⟨cls, dd, data, sl⟩, ho, hc, n, hd⟩, hs⟩ := I.tuple (SqT.of hT)
  simp only at hc hd
  subst hc hd
  have hi : its.toArray.isEmpty = false := by
    cases its with
    | nil =>
      have := r.length
      exact absurd (List.eq_nil_of_length_eq_zero this) hne
    | cons a b => rfl
  by_cases one : k = 1
  · subst one
    refine wpAny_binaryOp_repeat_ref (T := "tuple") (U := "int") (by decide) ⟨_, ho, rfl⟩ (fun s' => typeIs_int s' 1 t) noFill_tuple_mul F.fills_int_mul F.slot_int_rmul repeat_tuple F.slot_int_index.lookup
      (call_meets F.slot_int_rmul (typeIs_int s 1 t) F.entry_int_rmul (F.args_int_rmul_2 _ _) (int_rmul_tuple 1 t l its.toArray n dd sl) ⟨ho, rfl, ⟨_, ho, rfl⟩, ?_⟩)
    refine call_meets F.slot_tuple_mul ⟨_, ho, rfl⟩ F.entry_tuple_mul (F.args_tuple_mul_2 _ _) (tuple_once l its.toArray n dd sl t) ⟨ho, ?_⟩
    refine ⟨.ref l, H, I, rfl, q H l (Same.refl H) ?_⟩
    rw [hT]
    simp
  · have zero : k = 0 := by omega
    subst zero
    refine wpAny_binaryOp_repeat_ref (T := "tuple") (U := "int") (by decide) ⟨_, ho, rfl⟩ (fun s' => typeIs_int s' 0 t) noFill_tuple_mul F.fills_int_mul F.slot_int_rmul repeat_tuple F.slot_int_index.lookup
      (call_meets F.slot_int_rmul (typeIs_int s 0 t) F.entry_int_rmul (F.args_int_rmul_2 _ _) (int_rmul_tuple 0 t l its.toArray n dd sl) ⟨ho, rfl, ⟨_, ho, rfl⟩, ?_⟩)
    refine call_meets F.slot_tuple_mul ⟨_, ho, rfl⟩ F.entry_tuple_mul (F.args_tuple_mul_2 _ _) (tuple_zero l its.toArray n dd sl t hi) ⟨ho, ?_⟩
    have fresh := I.hok.fresh (Nat.le_refl s.heap.objs.size)
    refine ⟨.ref s.heap.objs.size, upd H s.heap.objs.size (.tup []), I.laid (t' := s.toks) (fun b ob e => Heap.get?_push_of_some _ e) (Nat.le_refl _) ?_, rfl, q _ _ (fun b o e => by rw [upd_ne (ne_of_none e fresh)]; exact e) upd_same⟩
    exact ⟨Nat.zero_le _, [], .nil, IsTup.new _ _⟩
end
end Sm

set_option Elab.async false
set_option linter.all false
set_option maxRecDepth 100000
set_option maxHeartbeats 8000000
namespace Sm
open PySem PySem.Spec PyProof.Rows L2
open C8 (pss_cut)
def topS (i : Nat) : Stmt := PySem.Challenge.pw_smallchange_k52_purses_of_loops.main.body.getD i (.Pass ⟨0, 0, 0, 0⟩)
structure Txt (mg : Str → Option Value) : Prop where
  n_abs : mg "abs" = none
  n_all : mg "all" = none
  n_bool : mg "bool" = none
  n_int : mg "int" = none
  n_isinstance : mg "isinstance" = none
  n_len : mg "len" = none
  n_list : mg "list" = none
  n_max : mg "max" = none
  n_range : mg "range" = none
  n_repr : mg "repr" = none
  n_set : mg "set" = none
  n_sorted : mg "sorted" = none
  n_tuple : mg "tuple" = none
  n_zip : mg "zip" = none
  g_gcd : mg "gcd" = some (.builtin "math.gcd")
theorem get_int {T : List Int} {i : Nat} (h : i < T.length) : (T.map V.int)[i]? = some (.int (T.getD i 0)) := by
  rw [List.getElem?_map, List.getElem?_eq_getElem h, List.getD_eq_getElem?_getD, List.getElem?_eq_getElem h]
  rfl
/-! ### boards in the heap -/
def OffAt (H : Hp) (q : Addr) (o : Of) : Prop := H q = some (.tup (o.ns.map V.int))
/-- the offers of a list, one after another -/
def OffsAt (H : Hp) (qs : List Addr) (L : List Of) : Prop := qs.length = L.length ∧ ∀ (i : Nat) (q : Addr), qs[i]? = some q → ∃ o, L[i]? = some o ∧ OffAt H q o
def BoardAt (H : Hp) (d : Addr) (k : Nat) (L : List Of) : Prop := ∃ (t : Addr) (qs : List Addr), H d = some (.tup [.int (k : Int), .ref t]) ∧ H t = some (.tup (qs.map V.ref)) ∧ OffsAt H qs L
theorem OffsAt.same {H H' : Hp} {qs : List Addr} {L : List Of} (h : OffsAt H qs L) (s : Same H H') : OffsAt H' qs L :=
  ⟨h.1, fun i q e => by obtain ⟨o, h1, h2⟩ := h.2 i q e; exact ⟨o, h1, s _ _ h2⟩⟩
theorem BoardAt.same {H H' : Hp} {d : Addr} {k : Nat} {L : List Of} (h : BoardAt H d k L) (s : Same H H') : BoardAt H' d k L := by
  obtain ⟨t, qs, h1, h2, h3⟩ := h
  exact ⟨t, qs, s _ _ h1, s _ _ h2, h3.same s⟩
theorem OffsAt.fr {H H' : Hp} {a l : Addr} {n : Int} {qs : List Addr} {L : List Of} (h : OffsAt H qs L) (f : Fr a l H H') (D : Deck H a l n) : OffsAt H' qs L :=
  ⟨h.1, fun i q e => by obtain ⟨o, h1, h2⟩ := h.2 i q e; exact ⟨o, h1, f.tup D h2⟩⟩
theorem BoardAt.fr {H H' : Hp} {d a l : Addr} {n : Int} {k : Nat} {L : List Of} (h : BoardAt H d k L) (f : Fr a l H H') (D : Deck H a l n) : BoardAt H' d k L := by
  obtain ⟨t, qs, h1, h2, h3⟩ := h
  exact ⟨t, qs, f.tup D h1, f.tup D h2, h3.fr f D⟩
/-- a list's place rewritten: tuples stay -/
theorem OffsAt.updL {H : Hp} {U : Addr} {xs ys : List V} {qs : List Addr} {L : List Of} (h : OffsAt H qs L) (hU : H U = some (.lst xs)) : OffsAt (upd H U (.lst ys)) qs L :=
  ⟨h.1, fun i q e => by
    obtain ⟨o, h1, h2⟩ := h.2 i q e
    refine ⟨o, h1, ?_⟩
    unfold OffAt
    rw [upd_ne (ne_of h2 hU (by intro q; cases q))]
    exact h2⟩
def sp_l_board (_ : PySem.W.Frag) : Sp := fun vs H Q _ => ∃ (p l : Addr) (n : Int) (k : Nat) (many upto : Int), vs = [.ref p, .int (k : Int), .int many, .int upto] ∧ Deck H p l n ∧ 0 ≤ n ∧ n ≤ 900000 ∧ 2 ≤ k ∧ k ≤ 4 ∧ 0 ≤ many ∧ many ≤ 40 ∧ 1 ≤ upto ∧ upto ≤ 30 ∧
  ∀ H' d L n', Fr p l H H' → Deck H' p l n' → n ≤ n' → n' ≤ n + 200 → BoardAt H' d k L → (∀ o ∈ L, OfOk k o) → (L.length : Int) ≤ many → Q (.ref d) H'
section
variable {P : Program} {w : World} {K : PySem.W.Frag} {mg : Str → Option Value} {base : Heap}
abbrev s_l_deck : Stmt := topS 12
abbrev N_l_deck : List Str := ["_law_script", "_law_cell"]
theorem sc_l_deck : FnScope N_l_deck ["_law_script"] (defScope s_l_deck) := ⟨rfl, rfl, rfl, by decide +kernel, rfl, by decide +kernel, by decide +kernel⟩
theorem ok_l_deck (T : Txt mg) (D : Df K mg "_law_deck" s_l_deck ["_law_script"]) : Cal P w K mg base "_law_deck" ["_law_script"] 1 (sp_l_deck K) := by
  refine D.cal sc_l_deck (fun vs H Q E h => ?_) (fun f cdv A outer s H vs Q E hr h => ?_)
  · obtain ⟨a, ns, rfl, _⟩ := h
    rfl
  obtain ⟨a, ns, rfl, hS, hlen, k⟩ := h
  refine ⟨_, (pss_one (ps_ret (pe_lst (pa_cons (pe_lc (own := [("_law_cell", 1)]) (g := gName 1) (tt := tYes) rfl sc_l_deck.nd (pi_list (pe_slice sl_list (pv 0) po_none (po_some pe_int))) (blkOk_by (own := [("_law_cell", 1)]) (N := N_l_deck) (sc := defScope s_l_deck) (by decide +kernel)) (fun _ _ _ _ _ => pg_name (i := 1) sc_l_deck.nd rfl (Or.inl rfl)) (fun _ _ _ _ _ => pts_nil) (fun _ _ _ _ _ => (pe_callB call_abs (by rfl) T.n_abs (by decide +kernel) (pa_cons (pv 1) pa_nil)))) (pa_cons pe_int pa_nil))))), ?_⟩
  refine ⟨_, rfl, _, rfl, a, _, rfl, hS, fun c nc => ?_⟩
  rw [cut63 hlen]
  have s1 := same_upd (o := .lst (ns.map V.int)) nc
  refine ⟨c, rfl, ⟨_, SqL.of upd_same⟩, fun D nD => ?_⟩
  have s2 := s1.trans (same_upd (o := .lst []) nD)
  have hc2 : upd (upd H c (.lst (ns.map V.int))) D (.lst []) c = some (.lst (ns.map V.int)) := same_upd nD _ _ upd_same
  refine lc_list (K := K) (a := c) (xs := ns.map V.int) (fun i H' => Same H H' ∧ H' c = some (.lst (ns.map V.int)) ∧ c ≠ D ∧ H D = none ∧ H' D = some (.lst (((ns.take i).map absI).map V.int)))
    ⟨s2, hc2, ne_of_none upd_same nD, s1.free nD, upd_same⟩ (fun i H' _ h => SqL.of h.2.1) ?_ ?_
  · rintro i x H' hx ⟨sm, hc, ncD, nD0, hD⟩
    rw [List.getElem?_map] at hx
    cases e : ns[i]? with
    | none => rw [e] at hx; cases hx
    | some y =>
      rw [e] at hx
      have ex : x = .int y := (Option.some.inj hx).symm
      subst ex
      refine ⟨rfl, ?_⟩
      unfold tYes
      refine iteT ?_
      refine ⟨_, rfl, _, rfl, _, hD, ?_, ?_⟩
      · rw [List.length_map, List.length_map, List.length_take]
        exact Nat.lt_of_le_of_lt (Nat.min_le_right _ _) (small1000 (by omega))
      · refine ⟨fun b o e => ?_, ?_, ncD, nD0, ?_⟩
        · rw [upd_ne (ne_of_none e nD0)]
          exact sm _ _ e
        · rw [upd_ne ncD]
          exact hc
        · rw [upd_same, List.take_add_one, e, List.map_append, List.map_append]
          rfl
  · rintro H' ⟨sm, hc, ncD, nD0, hD⟩
    refine ⟨(by show 2 ≤ sizeLine; decide), fun p np => ?_⟩
    have s3 := sm.trans (same_upd (o := .lst [.ref D, .int 0]) np)
    refine k _ p D s3 ⟨upd_same, _, (same_upd np) _ _ hD, fun c hc => ?_, ?_⟩
    · obtain ⟨y, _, rfl⟩ := List.mem_map.mp hc
      exact absI_pos y
    · rw [List.length_map, List.length_take]
      omega
abbrev s_l_draw : Stmt := topS 13
abbrev N_l_draw : List Str := ["_law_deck_here", "_law_many", "_law_place", "_law_cell", "_law_mixed"]
theorem sc_l_draw : FnScope N_l_draw ["_law_deck_here", "_law_many"] (defScope s_l_draw) := ⟨rfl, rfl, rfl, by decide +kernel, rfl, by decide +kernel, by decide +kernel⟩
theorem ok_l_draw (T : Txt mg) (D : Df K mg "_law_draw" s_l_draw ["_law_deck_here", "_law_many"]) : Cal P w K mg base "_law_draw" ["_law_deck_here", "_law_many"] 1 (sp_l_draw K) := by
  refine D.cal sc_l_draw (fun vs H Q E h => ?_) (fun f cdv A outer s H vs Q E hr h => ?_)
  · obtain ⟨p, l, n, m, rfl, _⟩ := h
    rfl
  obtain ⟨p, l, n, m, rfl, D, n0, n1, m0, m1, k⟩ := h
  obtain ⟨cells, hl, hc⟩ := D.hl
  have npl : p ≠ l := ne_of D.hp hl deck_ne
  refine ⟨_, (pss_cons (ps_asg (pe_op op_add (pe_ix ix_list (pv 0) pe_int (fun _ _ => rfl)) pe_int) (pg_sub (pv 0) pe_int set_list))
    (pss_cons (ps_set (i := 2) sc_l_draw.nd rfl (Or.inl rfl) (pe_op op_modN (pe_callTy call_int1 (by rfl) T.n_int (by decide +kernel) (pa_cons (pe_ix ix_list (pv 0) pe_int (fun _ _ => rfl)) pa_nil)) (pe_callB (call_max2 rfl) (by rfl) T.n_max (by decide +kernel) (pa_cons pe_int (pa_cons (pe_callB call_len_seq (by rfl) T.n_len (by decide +kernel) (pa_cons (pe_ix ix_list (pv 0) pe_int (fun _ _ => rfl)) pa_nil)) pa_nil)))))
    (pss_cons (ps_set (i := 3) sc_l_draw.nd rfl (Or.inl rfl) (pe_ix ix_list (pe_op op_cat (pe_ix ix_list (pv 0) pe_int (fun _ _ => rfl)) (pe_lst (pa_cons pe_int pa_nil))) (pv 2) (fun _ _ => rfl)))
    (pss_cons (ps_if (pt_cmpR op_ge (pv 3) (pe_op op_pow pe_int pe_int) (nomark _)) (pss_cons (ps_asg (pe_op op_fdivW (pv 3) (pv 1)) (pg_sub (pe_ix ix_list (pv 0) pe_int (fun _ _ => rfl)) (pv 2) set_list))
    (pss_one (ps_ret (pe_op op_modN (pe_callTy call_int1 (by rfl) T.n_int (by decide +kernel) (pa_cons (pv 3) pa_nil)) (pv 1))))) pss_nil)
    (pss_cons (ps_set (i := 4) sc_l_draw.nd rfl (Or.inl rfl) (pe_op op_pow (pe_op op_add (pe_op op_add (pe_op op_modN (pe_callTy call_int1 (by rfl) T.n_int (by decide +kernel) (pa_cons (pv 3) pa_nil)) pe_int) (pe_op op_mul pe_int (pe_ix ix_list (pv 0) pe_int (fun _ _ => rfl)))) pe_int) pe_int))
    (pss_one (ps_ret (pe_op op_modN (pe_callTy call_int1 (by rfl) T.n_int (by decide +kernel) (pa_cons (pe_op op_modN (pe_callTy call_int1 (by rfl) T.n_int (by decide +kernel) (pa_cons (pv 4) pa_nil)) pe_int) pa_nil)) (pv 1))))))))), ?_⟩
  refine ⟨_, rfl, _, _, _, _, rfl, rfl, SqL.of D.hp, atI_nat (j := 1) rfl, _, _, rfl, rfl, _, rfl, _, _, _, _, rfl, rfl, D.hp, rfl, ?_⟩
  generalize hH0 : upd H p (HO.lst (List.set [V.ref l, V.int n] (Int.toNat 1) ((fun i j => V.int (i + j)) n 1))) = H0
  have hH0 : upd H p (.lst [.ref l, .int (n + 1)]) = H0 := hH0
  have f0 : Fr p l H H0 := fun b o h1 _ h => by rw [← hH0, upd_ne h1]; exact h
  have hl0 : H0 l = some (.lst (cells.map V.int)) := by rw [← hH0, upd_ne npl.symm]; exact hl
  have hp0 : H0 p = some (.lst [.ref l, .int (n + 1)]) := by rw [← hH0, upd_same]
  -- place
  have big : (if ((cells.map V.int).length : Int) > 1 then ((cells.map V.int).length : Int) else 1) = max 1 (cells.length : Int) := by
    rw [List.length_map]
    split <;> omega
  have fm : (n + 1).fmod (max 1 (cells.length : Int)) = (n + 1) % (max 1 (cells.length : Int)) := fmod_pos (by omega)
  have q0 : 0 ≤ (n + 1).fmod (max 1 (cells.length : Int)) := by rw [fm]; exact Int.emod_nonneg _ (by omega)
  have q1 : (n + 1).fmod (max 1 (cells.length : Int)) < max 1 (cells.length : Int) := by rw [fm]; exact Int.emod_lt_of_pos _ (by omega)
  refine ⟨_, rfl, _, _, _, _, rfl, rfl, SqL.of hp0, atI_nat (j := 1) rfl, .inl ⟨_, rfl, _, rfl, _, _, _, _, rfl, rfl, SqL.of hp0, atI_nat (j := 0) rfl, _, _, rfl, .inl (SqL.of hl0), _, _, rfl, _, _, rfl, rfl, (by rw [big]; omega), ?_⟩⟩
  have z : ∀ B : Int → Prop, B ((n + 1).fmod (max 1 (cells.length : Int))) → B ((n + 1).fmod (if ((cells.map V.int).length : Int) > 1 then ((cells.map V.int).length : Int) else 1)) := fun B h => by rw [big]; exact h
  refine z (fun y => gName 2 (.int y) _ _ _) ?_
  clear z
  -- cell
  refine ⟨_, rfl, _, _, _, _, rfl, rfl, SqL.of hp0, atI_nat (j := 0) rfl, (by show 1 ≤ sizeLine; decide), fun t nt => ?_⟩
  have st := same_upd (o := .lst [.int 0]) nt
  have hp1 := st _ _ hp0
  have hl1 := st _ _ hl0
  have f1 := f0.trans (Same.fr (p := p) (l := l) st)
  obtain ⟨hc, h63⟩ := hc
  have ln : (cells.map V.int).length = cells.length := List.length_map ..
  refine ⟨_, _, _, _, rfl, rfl, hl1, upd_same, (by rw [ln]; exact Nat.le_trans (by omega : cells.length + 1 ≤ 64) (by decide)), fun t2 nt2 => ?_⟩
  have st2 := same_upd (o := .lst (cells.map V.int ++ [.int 0])) nt2
  have hp2 := st2 _ _ hp1
  have hl2 := st2 _ _ hl1
  have f2 := f1.trans (Same.fr (p := p) (l := l) st2)
  have ht2 : upd (upd H0 t (.lst [.int 0])) t2 (.lst (cells.map V.int ++ [.int 0])) t2 = some (.lst ((cells ++ [0]).map V.int)) := by rw [upd_same, List.map_append]; rfl
  generalize upd (upd H0 t (HO.lst [V.int 0])) t2 (HO.lst (cells.map V.int ++ [V.int 0])) = H2 at hp2 hl2 f2 ht2 ⊢
  have q2 : ((n + 1).fmod (max 1 (cells.length : Int))).toNat < (cells ++ [0]).length := by rw [List.length_append, List.length_singleton]; omega
  have q3 : (n + 1).fmod (max 1 (cells.length : Int)) = (((n + 1).fmod (max 1 (cells.length : Int))).toNat : Int) := by omega
  generalize (n + 1).fmod (max 1 (cells.length : Int)) = pl at q0 q1 q2 q3 ⊢
  have q4 : ((cells ++ [0]).map V.int)[pl.toNat]? = some (.int (cells ++ [0])[pl.toNat]) := by
    rw [List.getElem?_map, List.getElem?_eq_getElem q2]
    rfl
  have c0 : 0 ≤ (cells ++ [0])[pl.toNat] := by
    rcases List.mem_append.mp (List.getElem_mem q2) with q | q
    · exact hc _ q
    · rw [List.mem_singleton.mp q]
      decide
  have inside : 1000000000000000000 ≤ (cells ++ [0])[pl.toNat] → pl.toNat < cells.length := by
    intro q
    by_cases e : pl.toNat < cells.length
    · exact e
    · rw [List.getElem_append_right (by omega)] at q
      simp at q
  generalize (cells ++ [0])[pl.toNat] = c at q4 c0 inside ⊢
  refine ⟨_, rfl, _, _, _, _, rfl, rfl, SqL.of ht2, at_of q3 q4, ?_⟩
  refine ⟨_, rfl, _, _, rfl, rfl, ⟨by decide, by decide, by decide⟩, _, _, rfl, rfl, _, rfl, ite3 (fun e => ?_) (fun e => ?_)⟩
  · have e : 1000000000000000000 ≤ c := e
    have p1 := inside e
    have ix : ixN (cells.map V.int).length pl = some pl.toNat := by
      unfold ixN
      rw [if_pos q0, if_pos (by omega)]
    refine ⟨_, rfl, _, rfl, _, _, rfl, rfl, div_draw m0 m1, _, rfl, _, _, _, _, rfl, rfl, SqL.of hp2, atI_nat (j := 0) rfl, _, rfl, _, _, _, _, rfl, rfl, hl2, ix, ?_⟩
    refine ⟨_, rfl, .inl ⟨_, rfl, _, rfl, _, _, rfl, rfl, (by omega), ?_⟩⟩
    have fm : c.fmod m = c % m := fmod_pos m0
    refine k _ _ (by rw [fm]; exact Int.emod_nonneg _ (by omega)) (by rw [fm]; exact Int.emod_lt_of_pos _ m0) (f2.trans fun b o _ h2 h => by rw [upd_ne h2]; exact h) ⟨by rw [upd_ne npl]; exact hp2, cells.set pl.toNat (c / m), by rw [upd_same, List.map_set], fun y hy => ?_, by rw [List.length_set]; exact h63⟩
    rcases List.mem_or_eq_of_mem_set hy with q | q
    · exact hc y q
    · rw [q]; exact Int.ediv_nonneg c0 (by omega)
  · refine ⟨_, rfl, .inl ⟨_, rfl, _, _, rfl, rfl, (show (2147483587 : Int) ≠ 0 by decide), _, rfl, _, _, _, _, rfl, rfl, SqL.of hp2, atI_nat (j := 1) rfl, _, _, rfl, rfl, .inl ⟨by decide, by decide⟩, _, _, rfl, rfl, _, _, rfl, rfl, ?_⟩⟩
    have fm : c.fmod 2147483587 = c % 2147483587 := fmod_pos (by decide)
    have h0 := Int.emod_nonneg c (show (2147483587 : Int) ≠ 0 by decide)
    have h1 := Int.emod_lt_of_pos c (show (0 : Int) < 2147483587 by decide)
    refine ⟨_, _, rfl, rfl, ⟨by decide, by decide, by rw [fm]; omega⟩, ?_⟩
    refine ⟨_, rfl, .inl ⟨_, rfl, _, _, rfl, rfl, (show (2147483647 : Int) ≠ 0 by decide), .inl ⟨_, rfl, _, rfl, _, _, rfl, rfl, (by omega), ?_⟩⟩⟩
    refine k _ _ ?_ ?_ f2 ⟨hp2, cells, hl2, hc, h63⟩
    · rw [fmod_pos m0]; exact Int.emod_nonneg _ (by omega)
    · rw [fmod_pos m0]; exact Int.emod_lt_of_pos _ m0
abbrev s_l_one : Stmt := topS 14
abbrev N_l_one : List Str := ["_law_deck_here", "_law_items"]
theorem sc_l_one : FnScope N_l_one ["_law_deck_here", "_law_items"] (defScope s_l_one) := ⟨rfl, rfl, rfl, by decide +kernel, rfl, by decide +kernel, by decide +kernel⟩
theorem ok_l_one (T : Txt mg) (D : Df K mg "_law_one" s_l_one ["_law_deck_here", "_law_items"]) (C_l_draw : Cal P w K mg base "_law_draw" ["_law_deck_here", "_law_many"] 1 (sp_l_draw K)) : Cal P w K mg base "_law_one" ["_law_deck_here", "_law_items"] 2 (sp_l_one K) := by
  obtain ⟨f_l_draw, fd_l_draw, G_l_draw, m_l_draw, k_l_draw, b_l_draw⟩ := C_l_draw
  refine D.cal sc_l_one (fun vs H Q E h => ?_) (fun f cdv A outer s H vs Q E hr h => ?_)
  · obtain ⟨p, l, b, n, xs, rfl, _⟩ := h
    rfl
  obtain ⟨p, l, b, n, xs, rfl, D, n0, n1, hb, bp, bl, x0, x1, k⟩ := h
  refine ⟨_, (pss_one (ps_ret (pe_ix ix_list (pv 1) (pe_call G_l_draw (hr.mono (by decide)) (by rfl) m_l_draw k_l_draw b_l_draw .nil pass0 (pa_cons (pv 0) (pa_cons (pe_callB call_len_seq (by rfl) T.n_len (by decide +kernel) (pa_cons (pv 1) pa_nil)) pa_nil))) (fun _ _ => rfl)))), ?_⟩
  refine ⟨_, rfl, _, rfl, _, rfl, _, _, rfl, .inl (SqL.of hb), p, l, n, _, rfl, D, n0, n1, (by omega), (by omega), fun r H' r0 r1 f D' => ?_⟩
  have q : r.toNat < xs.length := by omega
  refine ⟨_, _, _, _, rfl, rfl, SqL.of (f b _ bp bl hb), at_of (j := r.toNat) (by omega) (List.getElem?_eq_getElem q), ?_⟩
  exact k _ H' (List.getElem_mem q) f D'
end
end Sm

set_option Elab.async false
set_option linter.all false
set_option maxRecDepth 100000
set_option maxHeartbeats 8000000
namespace Sm
open PySem PySem.Spec PyProof.Rows L2
open C8 (pss_cut tCut)
def ofNs : List Int → Of
  | [a, x, b, y] => ⟨a.toNat, x, b.toNat, y⟩
  | _ => ⟨0, 0, 0, 0⟩
theorem ofNs_ns (o : Of) : ofNs o.ns = o := by
  cases o
  rfl
theorem offs_of {H : Hp} (L' : List (Addr × List Int)) (h : ∀ p ∈ L', ∃ o : Of, p.2 = o.ns ∧ OffAt H p.1 o) : OffsAt H (L'.map (·.1)) (L'.map fun p => ofNs p.2) := by
  refine ⟨by rw [List.length_map, List.length_map], fun i q e => ?_⟩
  rw [List.getElem?_map] at e
  cases z : L'[i]? with
  | none => rw [z] at e; cases e
  | some p =>
    rw [z] at e
    have e : p.1 = q := Option.some.inj e
    obtain ⟨o, h1, h2⟩ := h p (List.mem_of_getElem? z)
    refine ⟨o, ?_, by rw [← e]; exact h2⟩
    rw [List.getElem?_map, z]
    show some (ofNs p.2) = some o
    rw [h1, ofNs_ns]
theorem bd_ns {k : Nat} {o : Of} (h : OfOk k o) (k4 : k ≤ 4) : o.ns.length = 4 ∧ TS.Bd 100 o.ns := by
  refine ⟨rfl, fun m hm => ?_⟩
  have h1 := h.a
  have h2 := h.b
  have h3 := h.x0
  have h4 := h.x1
  have h5 := h.y0
  have h6 := h.y1
  simp only [Of.ns, List.mem_cons, List.not_mem_nil, or_false] at hm
  rcases hm with rfl | rfl | rfl | rfl <;> omega
theorem nodup_le : ∀ (l m : List (List Int)), l.Nodup → (∀ x ∈ l, x ∈ m) → l.length ≤ m.length
  | [], m, _, _ => Nat.zero_le _
  | a :: l, m, nd, h => by
    obtain ⟨na, nd⟩ := List.nodup_cons.mp nd
    have ha := h a (List.mem_cons_self ..)
    have := nodup_le l (m.erase a) nd fun x hx => by
      refine (List.mem_erase_of_ne ?_).mpr (h x (List.mem_cons_of_mem _ hx))
      rintro rfl
      exact na hx
    rw [List.length_erase_of_mem ha] at this
    have : 0 < m.length := List.length_pos_of_mem ha
    rw [List.length_cons]
    omega
/-- tuple(sorted(set(..))) of offers, told for the list that stands at U -/
theorem set_board {K : PySem.W.Frag} {P : Program} {w : World} {H : Hp} {U : Addr} {ks : List (Addr × Of)} {k : Nat} (hU : H U = some (.lst (ks.map fun e => V.ref e.1))) (hk : ∀ e ∈ ks, OffAt H e.1 e.2 ∧ OfOk k e.2) (k4 : k ≤ 4) (h64 : ks.length < 64)
    {Q : VK} (q : ∀ H' t (qs : List Addr) (L : List Of), Same H H' → H' t = some (.tup (qs.map V.ref)) → OffsAt H' qs L → (∀ o ∈ L, OfOk k o) → L.length ≤ ks.length → Q (.ref t) H') :
    rSetOfT K P w [.ref U] H fun x H1 => rSortedT K P w [x] H1 fun y H2 => ∃ (q : Addr) (xs : List V), [y] = [V.ref q] ∧ ((SqL K H2 q xs ∧ ∀ t, H2 t = none → Q (.ref t) (upd H2 t (.tup xs))) ∨ SqT K H2 q xs ∧ Q (.ref q) H2) := by
  have lm : (ks.map fun e => (e.1, e.2.ns)).map (fun p : Addr × List Int => V.ref p.1) = ks.map fun e => V.ref e.1 := by
    rw [List.map_map]
    rfl
  refine ⟨U, ks.map fun e => (e.1, e.2.ns), rfl, ?_, fun p hp => ?_, by rw [List.length_map]; exact h64, fun a L na hL _ => ?_⟩
  · rw [lm]
    exact SqL.of hU
  · obtain ⟨e, he, rfl⟩ := List.mem_map.mp hp
    exact SqT.of (hk e he).1
  have sa := same_upd (o := SetTO P w a L) na
  have own : ∀ p ∈ L, ∃ e ∈ ks, p = (e.1, e.2.ns) := fun p hp => by
    obtain ⟨e, he, h⟩ := List.mem_map.mp (hL p hp)
    exact ⟨e, he, h.symm⟩
  refine ⟨a, L, 4, 100, rfl, upd_same, fun p hp => ?_, by decide, fun p hp => ?_, fun L' r pm nd l64 pw nr => ?_⟩
  · obtain ⟨e, he, rfl⟩ := own p hp
    exact SqT.of (sa _ _ (hk e he).1)
  · obtain ⟨e, he, rfl⟩ := own p hp
    exact bd_ns (hk e he).2 k4
  have sr := same_upd (o := .lst (L'.map fun q => V.ref q.1)) nr
  refine ⟨r, _, rfl, .inl ⟨SqL.of upd_same, fun t nt => ?_⟩⟩
  have st := same_upd (o := .tup (L'.map fun q => V.ref q.1)) nt
  have s := sa.trans (sr.trans st)
  refine q _ t (L'.map (·.1)) (L'.map fun p => ofNs p.2) s (by rw [upd_same, List.map_map]; rfl) (offs_of L' fun p hp => ?_) (fun o ho => ?_) (by
    rw [List.length_map]
    have := nodup_le (L'.map (·.2)) (ks.map fun e => e.2.ns) nd fun x hx => by
      obtain ⟨p, hp, rfl⟩ := List.mem_map.mp hx
      obtain ⟨e, he, rfl⟩ := own p (pm.mem_iff.mp hp)
      exact List.mem_map.mpr ⟨e, he, rfl⟩
    rwa [List.length_map, List.length_map] at this)
  · obtain ⟨e, he, rfl⟩ := own p (pm.mem_iff.mp hp)
    exact ⟨e.2, rfl, s _ _ (hk e he).1⟩
  · obtain ⟨p, hp, rfl⟩ := List.mem_map.mp ho
    obtain ⟨e, he, rfl⟩ := own p (pm.mem_iff.mp hp)
    show OfOk k (ofNs e.2.ns)
    rw [ofNs_ns]
    exact (hk e he).2
/-- the offers found so far -/
def BW (p l U : Addr) (k : Nat) (upto top n : Int) (H : Hp) (i : Nat) (σ : L2.St) (H' : Hp) : Prop := ∃ (n' : Int) (ks : List (Addr × Of)) (v5 v6 v7 : Option V), σ = [some (.ref p), some (.int (k : Int)), some (.int upto), some (.int top), some (.ref U), v5, v6, v7] ∧ Deck H' p l n' ∧ n ≤ n' ∧ n' ≤ n + 1 + 4 * (i : Int) ∧ Fr p l H H' ∧
      H' U = some (.lst (ks.map fun e => V.ref e.1)) ∧ ks.length = i ∧ ∀ e ∈ ks, OffAt H' e.1 e.2 ∧ OfOk k e.2
theorem BW.more {p l U t : Addr} {k i : Nat} {upto top n n' : Int} {H H7 : Hp} {ks : List (Addr × Of)} {o : Of} {v5 v6 v7 : Option V} (hn : ∀ b o, H b = some o → b ≠ U) (Up : U ≠ p) (Ul : U ≠ l) (D : Deck H7 p l n') (n0 : n ≤ n') (n1 : n' ≤ n + 5 + 4 * (i : Int)) (f : Fr p l H H7)
    (hU : H7 U = some (.lst (ks.map fun e => V.ref e.1))) (kl : ks.length = i) (old : ∀ e ∈ ks, OffAt H7 e.1 e.2 ∧ OfOk k e.2) (ht : OffAt H7 t o) (ho : OfOk k o) :
    BW p l U k upto top n H (i + 1) [some (.ref p), some (.int (k : Int)), some (.int upto), some (.int top), some (.ref U), v5, v6, v7] (upd H7 U (.lst ((ks.map fun e => V.ref e.1) ++ [.ref t]))) := by
  have neU : ∀ b xs, H7 b = some (.tup xs) → b ≠ U := fun b xs hb => ne_of hb hU (by intro q; cases q)
  refine ⟨n', ks ++ [(t, o)], v5, v6, v7, rfl, ⟨by rw [upd_ne Up.symm]; exact D.hp, ?_⟩, n0, by omega, ?_, ?_, ?_, ?_⟩
  · obtain ⟨cells, q1, q2⟩ := D.hl
    exact ⟨cells, by rw [upd_ne Ul.symm]; exact q1, q2⟩
  · intro b o h1 h2 hb
    rw [upd_ne (hn b o hb)]
    exact f b o h1 h2 hb
  · rw [upd_same, List.map_append]
    rfl
  · rw [List.length_append, List.length_singleton, kl]
  · intro e he
    rcases List.mem_append.mp he with he | he
    · refine ⟨?_, (old e he).2⟩
      unfold OffAt
      rw [upd_ne (neU _ _ (old e he).1)]
      exact (old e he).1
    · rw [List.mem_singleton.mp he]
      refine ⟨?_, ho⟩
      unfold OffAt
      rw [upd_ne (neU _ _ ht)]
      exact ht
section
variable {P : Program} {w : World} {K : PySem.W.Frag} {mg : Str → Option Value} {base : Heap}
abbrev s_l_board : Stmt := topS 15
abbrev N_l_board : List Str := ["_law_deck_here", "_law_kinds", "_law_many", "_law_upto", "_law_found", "_law_turn", "_law_a", "_law_b"]
theorem sc_l_board : FnScope N_l_board ["_law_deck_here", "_law_kinds", "_law_many", "_law_upto"] (defScope s_l_board) := ⟨rfl, rfl, rfl, by decide +kernel, rfl, by decide +kernel, by decide +kernel⟩
theorem ok_l_board (T : Txt mg) (D : Df K mg "_law_board" s_l_board ["_law_deck_here", "_law_kinds", "_law_many", "_law_upto"]) (C_l_draw : Cal P w K mg base "_law_draw" ["_law_deck_here", "_law_many"] 1 (sp_l_draw K)) : Cal P w K mg base "_law_board" ["_law_deck_here", "_law_kinds", "_law_many", "_law_upto"] 2 (sp_l_board K) := by
  obtain ⟨f_l_draw, fd_l_draw, G_l_draw, m_l_draw, k_l_draw, b_l_draw⟩ := C_l_draw
  refine D.cal sc_l_board (fun vs H Q E h => ?_) (fun f cdv A outer s H vs Q E hr h => ?_)
  · obtain ⟨p, l, n, k, upto, top, rfl, _⟩ := h
    rfl
  obtain ⟨p, l, n, k, upto, top, rfl, D0, n0, n1, k2, k4, u0, u1, t0, t1, kk⟩ := h
  refine ⟨_, (pss_cons (ps_set (i := 4) sc_l_board.nd rfl (Or.inl rfl) (pe_lst pa_nil))
    (pss_cons (ps_for PassesOwn.never rfl (pi_range1 (by rfl) T.n_range (pa_cons (pv 2) pa_nil)) (pg_name (i := 5) sc_l_board.nd rfl (Or.inl rfl))
      (pss_cons (ps_set (i := 6) sc_l_board.nd rfl (Or.inl rfl) (pe_call G_l_draw (hr.mono (by decide)) (by rfl) m_l_draw k_l_draw b_l_draw .nil pass0 (pa_cons (pv 0) (pa_cons (pv 1) pa_nil))))
    (pss_cons (ps_set (i := 7) sc_l_board.nd rfl (Or.inl rfl) (pe_op op_modN (pe_callTy call_int1 (by rfl) T.n_int (by decide +kernel) (pa_cons (pe_op op_add (pe_op op_add (pv 6) pe_int) (pe_call G_l_draw (hr.mono (by decide)) (by rfl) m_l_draw k_l_draw b_l_draw .nil pass0 (pa_cons (pv 0) (pa_cons (pe_op op_sub (pv 1) pe_int) pa_nil)))) pa_nil)) (pv 1)))
    (pss_one (ps_expr (pe_bm PySem.F.plainAttrs_list PySem.F.slot_list_append PySem.F.type_list_append mt_append (pv 4) (pa_cons (pe_tup (pa_cons (pv 6) (pa_cons (pe_op op_add pe_int (pe_call G_l_draw (hr.mono (by decide)) (by rfl) m_l_draw k_l_draw b_l_draw .nil pass0 (pa_cons (pv 0) (pa_cons (pv 3) pa_nil)))) (pa_cons (pv 7) (pa_cons (pe_call G_l_draw (hr.mono (by decide)) (by rfl) m_l_draw k_l_draw b_l_draw .nil pass0 (pa_cons (pv 0) (pa_cons (pe_op op_add (pv 3) pe_int) pa_nil))) pa_nil))))) pa_nil)))))))
    (pss_one (ps_ret (pe_tup (pa_cons (pv 1) (pa_cons (pe_callTy call_tuple_of (by rfl) T.n_tuple (by decide +kernel) (pa_cons (pe_callB (cr_sortedT rfl) (by rfl) T.n_sorted (by decide +kernel) (pa_cons (pe_callTy (cr_setOfT rfl hr.units) (by rfl) T.n_set (by decide +kernel) (pa_cons (pv 4) pa_nil)) pa_nil)) pa_nil)) pa_nil))))))), ?_⟩
  refine ⟨(by show 0 ≤ sizeLine; decide), fun U nU => ?_⟩
  obtain ⟨Up, Ul⟩ := D0.lne nU
  have sU := same_upd (o := .lst []) nU
  refine ⟨_, rfl, upto, rfl, (by omega), (by omega), ?_⟩
  have hn : ∀ b o, H b = some o → b ≠ U := fun b o hb => ne_of_none hb nU
  refine for_range (lo := 0) (n := _) (BW p l U k upto top n H)
    ⟨n, [], none, none, none, rfl, D0.same sU, by omega, by omega, Same.fr sU, upd_same, rfl, fun e he => nomatch he⟩ ?_ ?_
  · rintro i σ H2 hi ⟨n', ks, v5, v6, v7, rfl, D2, m0, m1, f2, hU, kl, hk⟩
    have hi : i < upto.toNat := hi
    have hi : i ≤ 40 := by omega
    refine ⟨_, rfl, _, rfl, p, l, n', _, rfl, D2, by omega, by omega, by omega, by omega, fun ra H3 a0 a1 f3 D3 => ?_⟩
    refine ⟨_, rfl, _, _, rfl, rfl, _, rfl, _, rfl, _, _, rfl, rfl, p, l, n' + 1, _, rfl, D3, by omega, by omega, by omega, by omega, fun rb H4 b0 b1 f4 D4 => ?_⟩
    refine ⟨_, _, rfl, rfl, .inl ⟨_, rfl, _, rfl, _, _, rfl, rfl, (show (k : Int) ≠ 0 by omega), ?_⟩⟩
    have fm : (ra + 1 + rb).fmod (k : Int) = (ra + 1 + rb) % (k : Int) := fmod_pos (by omega)
    have c0 : 0 ≤ (ra + 1 + rb).fmod (k : Int) := by rw [fm]; exact Int.emod_nonneg _ (by omega)
    have c1 : (ra + 1 + rb).fmod (k : Int) < (k : Int) := by rw [fm]; exact Int.emod_lt_of_pos _ (by omega)
    have cn : (ra + 1 + rb).fmod (k : Int) ≠ ra := by
      rw [fm]
      obtain rfl | rfl | rfl : k = 2 ∨ k = 3 ∨ k = 4 := by omega
      · show (ra + 1 + rb) % 2 ≠ ra
        have b1 : rb < 2 - 1 := b1
        have a1 : ra < 2 := a1
        omega
      · show (ra + 1 + rb) % 3 ≠ ra
        have b1 : rb < 3 - 1 := b1
        have a1 : ra < 3 := a1
        omega
      · show (ra + 1 + rb) % 4 ≠ ra
        have b1 : rb < 4 - 1 := b1
        have a1 : ra < 4 := a1
        omega
    have hU4 := f4 U _ Up Ul (f3 U _ Up Ul hU)
    refine ⟨_, rfl, .inl ⟨rfl, _, SqL.of hU4⟩, ?_⟩
    refine ⟨_, rfl, _, rfl, _, rfl, p, l, n' + 1 + 1, _, rfl, D4, by omega, by omega, by omega, by omega, fun rx H5 x0 x1 f5 D5 => ?_⟩
    refine ⟨_, _, rfl, rfl, _, rfl, _, rfl, _, rfl, _, _, rfl, rfl, p, l, n' + 1 + 1 + 1, _, rfl, D5, by omega, by omega, by omega, by omega, fun ry H6 y0 y1 f6 D6 => ?_⟩
    refine ⟨(by show 4 ≤ sizeLine; decide), fun t nt => ?_⟩
    have hU6 := f6 U _ Up Ul (f5 U _ Up Ul hU4)
    have ft := f3.trans (f4.trans (f5.trans f6))
    have st := same_upd (o := .tup [.int ra, .int (1 + rx), .int ((ra + 1 + rb).fmod (k : Int)), .int ry]) nt
    refine ⟨U, _, _, rfl, rfl, st _ _ hU6, ?_, ?_⟩
    · rw [List.length_map, kl]
      exact Nat.lt_of_le_of_lt (show i ≤ 40 by omega) (by decide)
    · refine BW.more (n' := n' + 1 + 1 + 1 + 1) (o := ⟨ra.toNat, 1 + rx, ((ra + 1 + rb).fmod (k : Int)).toNat, ry⟩) hn Up Ul (D6.same st) (by omega) (by omega) (f2.trans (ft.trans (Same.fr st))) (st _ _ hU6) kl (fun e he => ?_) ?_ ?_
      · exact ⟨st _ _ (ft.tup D2 (hk e he).1), (hk e he).2⟩
      · show upd H6 t _ t = some (.tup [.int (ra.toNat : Int), .int (1 + rx), .int (((ra + 1 + rb).fmod (k : Int)).toNat : Int), .int ry])
        rw [Int.toNat_of_nonneg a0, Int.toNat_of_nonneg c0]
        exact upd_same
      · exact ⟨by show ra.toNat < k; omega, by show Int.toNat _ < k; omega, by show ra.toNat ≠ Int.toNat _; omega, by show 1 ≤ 1 + rx; omega, by show 1 + rx ≤ 30; omega, y0, by show ry ≤ 30; omega⟩
  · rintro σ H2 ⟨n', ks, v5, v6, v7, rfl, D2, m0, m1, f2, hU, kl, hk⟩
    have ku : (ks.length : Int) ≤ 40 := by rw [kl]; show ((upto.toNat : Nat) : Int) ≤ 40; omega
    refine ⟨_, rfl, _, rfl, ?_⟩
    refine set_board (K := K) (P := P) (w := w) (Q := fun v H1 => [V.int (k : Int), v].length ≤ sizeLine ∧ ∀ p, H1 p = none → Q (.ref p) (upd H1 p (.tup [.int (k : Int), v]))) hU hk k4 (by omega) fun H3 t qs L s3 ht hL ok l64 => ⟨(by show 2 ≤ sizeLine; decide), fun d nd => ?_⟩
    have sd := same_upd (o := .tup [.int (k : Int), .ref t]) nd
    have ku2 : (ks.length : Int) = upto := by rw [kl]; show ((upto.toNat : Nat) : Int) = upto; omega
    exact kk _ d L n' (f2.trans (Same.fr (s3.trans sd))) ((D2.same s3).same sd) (by omega) (by omega) ⟨t, qs, upd_same, sd _ _ ht, hL.same sd⟩ ok (by omega)
end
end Sm

set_option Elab.async false
set_option linter.all false
set_option maxRecDepth 100000
set_option maxHeartbeats 8000000
namespace Sm
open PySem PySem.Spec PyProof.Rows L2
open C8 (pss_cut tCut)
/-- an int within bounds -/
def inI : PyData → Int → Int → Bool
  | .int i, lo, hi => decide (lo ≤ i) && decide (i ≤ hi)
  | _, _, _ => false
def isW : PyData → Bool
  | .int _ => true
  | _ => false
theorem of_int (d : PyData) : isOf "int" d = (match d with | .int _ => true | .bool _ => true | _ => false) := by
  cases d <;> simp [isOf, isT, tyN]
theorem of_bool (d : PyData) : isOf "bool" d = (match d with | .bool _ => true | _ => false) := by
  cases d <;> simp [isOf, isT, tyN]
theorem chain_in {i lo hi : Int} {σ : L2.St} {H : Hp} {Q : VK} (h0 : σ[0]? = some (some (.int i))) (h1 : σ[1]? = some (some (.int lo))) (h2 : σ[2]? = some (some (.int hi))) (h : Q (.bl (decide (lo ≤ i) && decide (i ≤ hi))) H) :
    tChain (rI0 fun i j => V.bl (decide (i ≤ j))) (rI0 fun i j => V.bl (decide (i ≤ j))) (tVar 1) (tVar 0) (tVar 2) σ H Q := by
  refine ⟨_, h1, _, h0, _, _, rfl, rfl, _, rfl, ?_⟩
  by_cases c : lo ≤ i
  · rw [decide_eq_true c] at h ⊢
    exact iteT ⟨_, h2, _, _, rfl, rfl, h⟩
  · rw [decide_eq_false c] at h ⊢
    exact iteF h
def sp_is_whole (K : PySem.W.Frag) : Sp := fun vs H Q _ => ∃ (v : V) (d : PyData), vs = [v] ∧ Dq K H v d ∧ Q (.bl (isW d)) H
def sp_is_within (K : PySem.W.Frag) : Sp := fun vs H Q _ => ∃ (v : V) (d : PyData) (lo hi : Int), vs = [v, .int lo, .int hi] ∧ Dq K H v d ∧ Q (.bl (inI d lo hi)) H
/-- data that is soon shown -/
structure Sml (k n : Nat) (d : PyData) : Prop where
  sh : PyData.showable d = true
  dep : d.depth ≤ k
  len : d.shown.length ≤ n
def t16 : PyData → Bool
  | .tuple ds => decide (ds.length ≤ 16)
  | _ => true
def w16 : PyData → Bool
  | .tuple [_, d] => t16 d
  | _ => true
/-- a value that stands on what is new since H -/
def DqN (K : PySem.W.Frag) (H H' : Hp) (x : V) (d : PyData) : Prop := ∀ H'' : Hp, (∀ b o, H b = none → H' b = some o → H'' b = some o) → Dq K H'' x d
theorem same_upd2 {H : Hp} {p : Addr} {o o' : HO} (h : H p = none) : Same H (upd (upd H p o) p o') := fun b x e => by
  rw [upd_ne (ne_of_none e h), upd_ne (ne_of_none e h)]
  exact e
def sp_l_odd (K : PySem.W.Frag) : Sp := fun vs H Q _ => ∃ (p l : Addr) (n : Int), vs = [.ref p] ∧ Deck H p l n ∧ 0 ≤ n ∧ n ≤ 900000 ∧
  ∀ H' x d, Fr p l H H' → Deck H' p l (n + 1) → DqN K H H' x d → Sml 3 300 d → t16 d = true → Q x H'
section
variable {P : Program} {w : World} {K : PySem.W.Frag} {mg : Str → Option Value} {base : Heap}
abbrev s_is_whole : Stmt := topS 2
abbrev N_is_whole : List Str := ["value"]
theorem sc_is_whole : FnScope N_is_whole ["value"] (defScope s_is_whole) := ⟨rfl, rfl, rfl, by decide +kernel, rfl, by decide +kernel, by decide +kernel⟩
theorem ok_is_whole (T : Txt mg) (D : Df K mg "is_whole" s_is_whole ["value"]) : Cal P w K mg base "is_whole" ["value"] 1 (sp_is_whole K) := by
  refine D.cal sc_is_whole (fun vs H Q E h => ?_) (fun f cdv A outer s H vs Q E hr h => ?_)
  · obtain ⟨v, d, rfl, _⟩ := h
    rfl
  obtain ⟨v, d, rfl, hd, k⟩ := h
  refine ⟨_, (pss_one (ps_ret (pe_and (pe_callB call_isQ (by rfl) T.n_isinstance (by decide +kernel) (pa_cons (pv 0) (pa_cons (pe_bltn (v := .ty "int") (by rfl) T.n_int (by decide +kernel) rfl) pa_nil))) (pe_one (pe_not (pe_callB call_isQ (by rfl) T.n_isinstance (by decide +kernel) (pa_cons (pv 0) (pa_cons (pe_bltn (v := .ty "bool") (by rfl) T.n_bool (by decide +kernel) rfl) pa_nil)))))))), ?_⟩
  refine ⟨_, rfl, v, d, "int", rfl, hd, .inl rfl, _, rfl, ?_⟩
  rw [of_int]
  cases hd with
  | non => exact iteF k
  | bl b => exact iteT ⟨_, rfl, _, .bool b, "bool", rfl, .bl b, .inr (.inl rfl), _, rfl, by rw [of_bool]; exact k⟩
  | int i => exact iteT ⟨_, rfl, _, .int i, "bool", rfl, .int i, .inr (.inl rfl), _, rfl, by rw [of_bool]; exact k⟩
  | str x => exact iteF k
  | lst e1 e2 e3 => exact iteF k
  | tup e1 e2 => exact iteF k
  | dic kvs e1 => exact iteF k
abbrev s_is_within : Stmt := topS 3
abbrev N_is_within : List Str := ["value", "low", "high"]
theorem sc_is_within : FnScope N_is_within ["value", "low", "high"] (defScope s_is_within) := ⟨rfl, rfl, rfl, by decide +kernel, rfl, by decide +kernel, by decide +kernel⟩
theorem ok_is_within (T : Txt mg) (D : Df K mg "is_within" s_is_within ["value", "low", "high"]) (C_is_whole : Cal P w K mg base "is_whole" ["value"] 1 (sp_is_whole K)) : Cal P w K mg base "is_within" ["value", "low", "high"] 2 (sp_is_within K) := by
  obtain ⟨f_is_whole, fd_is_whole, G_is_whole, m_is_whole, k_is_whole, b_is_whole⟩ := C_is_whole
  refine D.cal sc_is_within (fun vs H Q E h => ?_) (fun f cdv A outer s H vs Q E hr h => ?_)
  · obtain ⟨v, d, lo, hi, rfl, _⟩ := h
    rfl
  obtain ⟨v, d, lo, hi, rfl, hd, k⟩ := h
  refine ⟨_, (pss_one (ps_ret (pe_and (pe_call G_is_whole (hr.mono (by decide)) (by rfl) m_is_whole k_is_whole b_is_whole .nil pass0 (pa_cons (pv 0) pa_nil)) (pe_one (pe_chain op_le op_le (pv 1) (pv 0) (pv 2)))))), ?_⟩
  refine ⟨_, rfl, v, d, rfl, hd, _, rfl, ?_⟩
  cases hd with
  | int i => exact iteT (chain_in rfl rfl rfl k)
  | non => exact iteF k
  | bl b => exact iteF k
  | str x => exact iteF k
  | lst e1 e2 e3 => exact iteF k
  | tup e1 e2 => exact iteF k
  | dic kvs e1 => exact iteF k
abbrev s_l_odd : Stmt := topS 21
abbrev N_l_odd : List Str := ["_law_deck_here", "_law_some"]
theorem sc_l_odd : FnScope N_l_odd ["_law_deck_here"] (defScope s_l_odd) := ⟨rfl, rfl, rfl, by decide +kernel, rfl, by decide +kernel, by decide +kernel⟩
theorem ok_l_odd (T : Txt mg) (D : Df K mg "_law_odd" s_l_odd ["_law_deck_here"]) (C_l_one : Cal P w K mg base "_law_one" ["_law_deck_here", "_law_items"] 2 (sp_l_one K)) : Cal P w K mg base "_law_odd" ["_law_deck_here"] 3 (sp_l_odd K) := by
  obtain ⟨f_l_one, fd_l_one, G_l_one, m_l_one, k_l_one, b_l_one⟩ := C_l_one
  refine D.cal sc_l_odd (fun vs H Q E h => ?_) (fun f cdv A outer s H vs Q E hr h => ?_)
  · obtain ⟨p, l, n, rfl, _⟩ := h
    rfl
  obtain ⟨p, l, n, rfl, D, n0, n1, k⟩ := h
  refine ⟨_, (pss_cons (ps_set (i := 1) sc_l_odd.nd rfl (Or.inl rfl) (pe_lstN (pa_cons pe_non (pa_cons pe_bl (pa_cons pe_bl (pa_cons (pe_un un_neg pe_int) (pa_cons pe_int (pa_cons pe_str (pa_cons pe_str (pa_cons (pe_tup pa_nil) (pa_cons (pe_lstN pa_nil) (pa_cons (pe_tup (pa_cons pe_int pa_nil)) pa_nil))))))))))))
    (pss_one (ps_ret (pe_call G_l_one (hr.mono (by decide)) (by rfl) m_l_one k_l_one b_l_one .nil pass0 (pa_cons (pv 0) (pa_cons (pe_op op_cat (pv 1) (pe_lstN (pa_cons (pe_lstN (pa_cons pe_int (pa_cons pe_int pa_nil))) (pa_cons pe_dnewK (pa_cons (pe_tup (pa_cons pe_str pa_nil)) (pa_cons (pe_tup (pa_cons (pe_tup (pa_cons pe_int (pa_cons pe_int pa_nil))) pa_nil)) (pa_cons (pe_op op_pow pe_int pe_int) pa_nil))))))) pa_nil)))))), ?_⟩
  refine ⟨_, rfl, (by show 0 ≤ sizeLine; decide), fun o1 no1 => ⟨(by show 0 ≤ sizeLine; decide), fun o2 no2 eo2 => ⟨(by show 1 ≤ sizeLine; decide), fun o3 no3 => ⟨(by show 10 ≤ sizeLine; decide), fun L0 nL0 eL0 => ?_⟩⟩⟩⟩
  refine ⟨_, rfl, _, rfl, (by show 2 ≤ sizeLine; decide), fun o5 no5 eo5 => fun o6 no6 => ⟨(by show 1 ≤ sizeLine; decide), fun o7 no7 => ⟨(by show 2 ≤ sizeLine; decide), fun o8 no8 => ⟨(by show 1 ≤ sizeLine; decide), fun o9 no9 => ⟨_, _, rfl, rfl, ⟨by decide, by decide, by decide⟩, (by show 5 ≤ sizeLine; decide), fun L1 nL1 eL1 => ?_⟩⟩⟩⟩⟩
  have wo1 := same_upd (o := .tup []) no1
  have wo2 := same_upd (o := .lst []) no2
  have wo3 := same_upd (o := .tup [.int 0]) no3
  have wL0 := same_upd (o := .lst [.non, .bl true, .bl false, .int (-1), .int 60, .str "0", .str "loop", .ref o1, .ref o2, .ref o3]) nL0
  have wo5 := same_upd (o := .lst [.int 0, .int 1]) no5
  have wo6 := same_upd (o := .dK []) no6
  have wo7 := same_upd (o := .tup [.str "loop"]) no7
  have wo8 := same_upd (o := .tup [.int 0, .int 1]) no8
  have wo9 := same_upd (o := .tup [.ref o8]) no9
  have wL1 := same_upd (o := .lst [.ref o5, .ref o6, .ref o7, .ref o9, .int (10 ^ Int.toNat 40)]) nL1
  have y9 := wL1
  have y8 := wo9.trans y9
  have y7 := wo8.trans y8
  have y6 := wo7.trans y7
  have y5 := wo6.trans y6
  have y4 := wo5.trans y5
  have y3 := wL0.trans y4
  have y2 := wo3.trans y3
  have y1 := wo2.trans y2
  have y0 := wo1.trans y1
  refine ⟨L0, L1, _, _, rfl, rfl, y4 _ _ upd_same, upd_same, (by show 10 + 5 ≤ sizeLine; decide), fun C nC => ?_⟩
  have wC := same_upd (o := .lst ([.non, .bl true, .bl false, .int (-1), .int 60, .str "0", .str "loop", .ref o1, .ref o2, .ref o3] ++ [.ref o5, .ref o6, .ref o7, .ref o9, .int (10 ^ Int.toNat 40)])) nC
  have yy := y0.trans wC
  have lne := (D.same y0).lne nC
  have D1 := D.same yy
  refine ⟨p, l, C, n, _, rfl, D1, n0, by omega, upd_same, lne.1, lne.2, (by show 0 < 10 + 5; decide), (by show 10 + 5 ≤ 1000; decide), fun x H' hx f D' => ?_⟩
  have co1 := (y1.trans wC) o1 (.tup []) upd_same
  have mo1 : H o1 = none := no1
  have do1 := f _ _ (D.lne mo1).1 (D.lne mo1).2 co1
  have co2 := (y2.trans wC) o2 (.lst []) upd_same
  have mo2 : H o2 = none := Same.free wo1 no2
  have do2 := f _ _ (D.lne mo2).1 (D.lne mo2).2 co2
  have co3 := (y3.trans wC) o3 (.tup [.int 0]) upd_same
  have mo3 : H o3 = none := Same.free (wo1.trans wo2) no3
  have do3 := f _ _ (D.lne mo3).1 (D.lne mo3).2 co3
  have co5 := (y5.trans wC) o5 (.lst [.int 0, .int 1]) upd_same
  have mo5 : H o5 = none := Same.free (wo1.trans (wo2.trans (wo3.trans wL0))) no5
  have do5 := f _ _ (D.lne mo5).1 (D.lne mo5).2 co5
  have co6 := (y6.trans wC) o6 (.dK []) upd_same
  have mo6 : H o6 = none := Same.free (wo1.trans (wo2.trans (wo3.trans (wL0.trans wo5)))) no6
  have do6 := f _ _ (D.lne mo6).1 (D.lne mo6).2 co6
  have co7 := (y7.trans wC) o7 (.tup [.str "loop"]) upd_same
  have mo7 : H o7 = none := Same.free (wo1.trans (wo2.trans (wo3.trans (wL0.trans (wo5.trans wo6))))) no7
  have do7 := f _ _ (D.lne mo7).1 (D.lne mo7).2 co7
  have co8 := (y8.trans wC) o8 (.tup [.int 0, .int 1]) upd_same
  have mo8 : H o8 = none := Same.free (wo1.trans (wo2.trans (wo3.trans (wL0.trans (wo5.trans (wo6.trans wo7)))))) no8
  have do8 := f _ _ (D.lne mo8).1 (D.lne mo8).2 co8
  have co9 := (y9.trans wC) o9 (.tup [.ref o8]) upd_same
  have mo9 : H o9 = none := Same.free (wo1.trans (wo2.trans (wo3.trans (wL0.trans (wo5.trans (wo6.trans (wo7.trans wo8))))))) no9
  have do9 := f _ _ (D.lne mo9).1 (D.lne mo9).2 co9
  have k := fun x d => k H' x d ((Same.fr (p := p) (l := l) yy).trans f) D'
  clear co1 co2 co3 co5 co6 co7 co8 co9 y0 y1 y2 y3 y4 y5 y6 y7 y8 y9 yy wo1 wo2 wo3 wL0 wo5 wo6 wo7 wo8 wo9 wL1 wC f D' D1
  simp only [List.mem_append, List.mem_cons, List.not_mem_nil, or_false] at hx
  rcases hx with (rfl | rfl | rfl | rfl | rfl | rfl | rfl | rfl | rfl | rfl) | (rfl | rfl | rfl | rfl | rfl)
  · exact k _ _ (fun _ _ => .non) ⟨by decide +kernel, by decide +kernel, by decide +kernel⟩ rfl
  · exact k _ _ (fun _ _ => .bl _) ⟨by decide +kernel, by decide +kernel, by decide +kernel⟩ rfl
  · exact k _ _ (fun _ _ => .bl _) ⟨by decide +kernel, by decide +kernel, by decide +kernel⟩ rfl
  · exact k _ _ (fun _ _ => .int _) ⟨by decide +kernel, by decide +kernel, by decide +kernel⟩ rfl
  · exact k _ _ (fun _ _ => .int _) ⟨by decide +kernel, by decide +kernel, by decide +kernel⟩ rfl
  · exact k _ _ (fun _ _ => .str _) ⟨by decide +kernel, by decide +kernel, by decide +kernel⟩ rfl
  · exact k _ _ (fun _ _ => .str _) ⟨by decide +kernel, by decide +kernel, by decide +kernel⟩ rfl
  · exact k _ _ (fun H2 h => .tup (h _ _ mo1 do1) .nil) ⟨by decide +kernel, by decide +kernel, by decide +kernel⟩ rfl
  · exact k _ _ (fun H2 h => .lst (h _ _ mo2 do2) eo2 .nil) ⟨by decide +kernel, by decide +kernel, by decide +kernel⟩ rfl
  · exact k _ _ (fun H2 h => .tup (h _ _ mo3 do3) (.cons (.int _) .nil)) ⟨by decide +kernel, by decide +kernel, by decide +kernel⟩ rfl
  · exact k _ _ (fun H2 h => .lst (h _ _ mo5 do5) eo5 (.cons (.int _) (.cons (.int _) .nil))) ⟨by decide +kernel, by decide +kernel, by decide +kernel⟩ rfl
  · exact k _ _ (fun H2 h => .dic [] (h _ _ mo6 do6)) ⟨by decide +kernel, by decide +kernel, by decide +kernel⟩ rfl
  · exact k _ _ (fun H2 h => .tup (h _ _ mo7 do7) (.cons (.str _) .nil)) ⟨by decide +kernel, by decide +kernel, by decide +kernel⟩ rfl
  · exact k _ _ (fun H2 h => .tup (h _ _ mo9 do9) (.cons (.tup (h _ _ mo8 do8) (.cons (.int _) (.cons (.int _) .nil))) .nil)) ⟨by decide +kernel, by decide +kernel, by decide +kernel⟩ rfl
  · exact k _ _ (fun _ _ => .int _) ⟨by decide +kernel, by decide +kernel, by decide +kernel⟩ rfl
end
end Sm

set_option Elab.async false
set_option linter.all false
set_option maxRecDepth 100000
set_option maxHeartbeats 8000000
namespace Sm
open PySem PySem.Spec PyProof.Rows L2
open C8 (pss_cut tCut)
def sp_l_gcd (_ : PySem.W.Frag) : Sp := fun vs H Q _ => ∃ (a b : Nat), vs = [.int (a : Int), .int (b : Int)] ∧ Q (.int ((Nat.gcd a b : Nat) : Int)) H
def GcdW (a b : Nat) (H0 : Hp) : Nat → L2.St → Hp → Prop := fun m σ H => ∃ x : Nat, σ = [some (.int (x : Int)), some (.int (m : Int))] ∧ H = H0 ∧ Nat.gcd x m = Nat.gcd a b
section
variable {P : Program} {w : World} {K : PySem.W.Frag} {mg : Str → Option Value} {base : Heap}
abbrev s_l_gcd : Stmt := topS 17
abbrev N_l_gcd : List Str := ["_law_one_here", "_law_other"]
theorem sc_l_gcd : FnScope N_l_gcd ["_law_one_here", "_law_other"] (defScope s_l_gcd) := ⟨rfl, rfl, rfl, by decide +kernel, rfl, by decide +kernel, by decide +kernel⟩
theorem ok_l_gcd (T : Txt mg) (D : Df K mg "_law_gcd" s_l_gcd ["_law_one_here", "_law_other"]) : Cal P w K mg base "_law_gcd" ["_law_one_here", "_law_other"] 1 (sp_l_gcd K) := by
  refine D.cal sc_l_gcd (fun vs H Q E h => ?_) (fun f cdv A outer s H vs Q E hr h => ?_)
  · obtain ⟨a, b, rfl, _⟩ := h
    rfl
  obtain ⟨a, b, rfl, k⟩ := h
  refine ⟨_, (pss_cons (ps_par (i := 0) (j := 1) (by rfl) sc_l_gcd.nd rfl rfl (by decide) rfl rfl (pa_cons (pe_callB call_abs (by rfl) T.n_abs (by decide +kernel) (pa_cons (pv 0) pa_nil)) (pa_cons (pe_callB call_abs (by rfl) T.n_abs (by decide +kernel) (pa_cons (pv 1) pa_nil)) pa_nil)) (by rfl))
    (pss_cons (ps_while PassesOwn.never (pt_cmpR op_ne (pv 1) pe_int (nomark _))
      (pss_one (ps_par (i := 0) (j := 1) (by rfl) sc_l_gcd.nd rfl rfl (by decide) rfl rfl (pa_cons (pv 1) (pa_cons (pe_op op_modN (pe_callTy call_int1 (by rfl) T.n_int (by decide +kernel) (pa_cons (pv 0) pa_nil)) (pv 1)) pa_nil)) (by rfl))))
    (pss_one (ps_ret (pv 0))))), ?_⟩
  have nn : ∀ n : Nat, (if (n : Int) < 0 then -(n : Int) else (n : Int)) = (n : Int) := fun n => if_neg (by omega)
  refine ⟨_, rfl, _, rfl, _, rfl, _, rfl, ?_⟩
  rw [nn, nn]
  refine ⟨_, _, rfl, GcdW a b H, ⟨b, a, rfl, rfl, rfl⟩, ?_⟩
  rintro m σ H'' ⟨x, rfl, rfl, hg⟩
  refine ⟨_, rfl, rfl, _, rfl, ?_⟩
  by_cases e : m = 0
  · subst e
    refine iteNP rfl ?_
    rw [Nat.gcd_zero_right] at hg
    rw [← hg] at k
    exact ⟨_, rfl, k⟩
  · refine iteNN (fun q => e (Int.ofNat.inj (V.int.inj q))) ⟨GcdW a b H'' (x % m), fun σ' H3 hw => ⟨x % m, Nat.mod_lt _ (by omega), hw⟩, _, rfl, _, rfl, .inl ⟨_, rfl, _, rfl, _, _, rfl, rfl, (by omega), ?_⟩⟩
    have fm : ((x : Int)).fmod (m : Int) = ((x % m : Nat) : Int) := by rw [fmod_pos (by omega)]; rfl
    refine ⟨_, _, rfl, m, (by show [some (V.int (m : Int)), some (V.int ((x : Int).fmod (m : Int)))] = _; rw [fm]), rfl, ?_⟩
    exact (by rw [Nat.gcd_comm m, ← Nat.gcd_rec, Nat.gcd_comm]; exact hg)
end
end Sm

set_option Elab.async false
set_option linter.all false
namespace Sm
open PySem PySem.Spec PyProof.Rows L2
/-- x *= n for ints, one of them below 2 ^ 64 -/
theorem ip_mul {X : Cx} : PIp X .Mult fun x y H Q => ∃ i j, x = .int i ∧ y = .int j ∧ CMul i j ∧ Q (.int (i * j)) H := by
  intro pins s1 σ1 H1 a b va vb Q1 inv ra rb ⟨i, j, ea, eb, hc, q⟩
  subst ea eb
  obtain ⟨ta, rfl⟩ := ra
  obtain ⟨tb, rfl⟩ := rb
  exact imul_int ⟨.int _, H1, inv.tok _, ⟨_, rfl⟩, q⟩ hc.ok
end Sm

set_option Elab.async false
set_option linter.all false
set_option maxRecDepth 100000
set_option maxHeartbeats 8000000
namespace Sm
open PySem PySem.Spec PyProof.Rows L2
open C8 (pss_cut tCut)
/-- the offers' numbers one times another -/
def prX (L : List Of) (is : List Nat) : Int := (is.map fun i => (L.getD i ⟨0, 0, 0, 0⟩).x).foldl (· * ·) 1
def prY (L : List Of) (is : List Nat) : Int := (is.map fun i => (L.getD i ⟨0, 0, 0, 0⟩).y).foldl (· * ·) 1
theorem fold_le {B : Int} (B1 : 1 ≤ B) : ∀ (xs : List Int) (a : Int), 0 ≤ a → (∀ x ∈ xs, 0 ≤ x ∧ x ≤ B) → 0 ≤ xs.foldl (· * ·) a ∧ xs.foldl (· * ·) a ≤ a * B ^ xs.length
  | [], a, h, _ => by simp [h]
  | x :: xs, a, h, hx => by
    have hh := hx x (List.mem_cons_self ..)
    have ih := fold_le B1 xs (a * x) (Int.mul_nonneg h hh.1) fun y hy => hx y (List.mem_cons_of_mem _ hy)
    refine ⟨ih.1, Int.le_trans ih.2 ?_⟩
    rw [List.length_cons, Int.pow_succ, Int.mul_comm (B ^ xs.length) B, ← Int.mul_assoc]
    exact Int.mul_le_mul_of_nonneg_right (Int.mul_le_mul_of_nonneg_left hh.2 h) (Int.pow_nonneg (by omega))
abbrev of0 : Of := ⟨0, 0, 0, 0⟩
theorem OffsAt.at {H : Hp} {qs : List Addr} {L : List Of} {i : Nat} (h : OffsAt H qs L) (hi : i < L.length) : ∃ q, (qs.map V.ref)[i]? = some (.ref q) ∧ H q = some (.tup ((L.getD i of0).ns.map V.int)) := by
  have h1 : i < qs.length := by rw [h.1]; exact hi
  obtain ⟨o, e1, e2⟩ := h.2 i qs[i] (List.getElem?_eq_getElem h1)
  refine ⟨qs[i], by rw [List.getElem?_map, List.getElem?_eq_getElem h1]; rfl, ?_⟩
  rw [List.getD_eq_getElem?_getD, e1]
  exact e2
theorem prX_more (L : List Of) (is : List Nat) (i : Nat) : prX L (is ++ [i]) = prX L is * (L.getD i of0).x := by
  unfold prX
  rw [List.map_append, List.foldl_append]
  rfl
theorem prY_more (L : List Of) (is : List Nat) (i : Nat) : prY L (is ++ [i]) = prY L is * (L.getD i of0).y := by
  unfold prY
  rw [List.map_append, List.foldl_append]
  rfl
theorem of_ok {k : Nat} {L : List Of} (ok : ∀ o ∈ L, OfOk k o) {i : Nat} (h : i < L.length) : OfOk k (L.getD i of0) := by
  refine ok _ ?_
  rw [List.getD_eq_getElem?_getD, List.getElem?_eq_getElem h]
  exact List.getElem_mem h
def sp_gains (_ : PySem.W.Frag) : Sp := fun vs H Q _ => ∃ (d q : Addr) (k : Nat) (L : List Of) (is : List Nat), vs = [.ref d, .ref q] ∧ BoardAt H d k L ∧ (∀ o ∈ L, OfOk k o) ∧ H q = some (.tup ((is.map fun i : Nat => (i : Int)).map V.int)) ∧ (∀ i ∈ is, i < L.length) ∧ is.length ≤ 16 ∧
  Q (.bl (decide (prX L is < prY L is))) H
section
variable {P : Program} {w : World} {K : PySem.W.Frag} {mg : Str → Option Value} {base : Heap}
abbrev s_gains : Stmt := topS 9
abbrev N_gains : List Str := ["board", "indexes", "taken", "given", "index"]
theorem sc_gains : FnScope N_gains ["board", "indexes"] (defScope s_gains) := ⟨rfl, rfl, rfl, by decide +kernel, rfl, by decide +kernel, by decide +kernel⟩
theorem ok_gains (T : Txt mg) (D : Df K mg "gains" s_gains ["board", "indexes"]) : Cal P w K mg base "gains" ["board", "indexes"] 1 (sp_gains K) := by
  refine D.cal sc_gains (fun vs H Q E h => ?_) (fun f cdv A outer s H vs Q E hr h => ?_)
  · obtain ⟨d, q, k, L, is, rfl, _⟩ := h
    rfl
  obtain ⟨d, q, k, L, is, rfl, hb, ok, hq, hi, h16, kk⟩ := h
  obtain ⟨t, qs, hd, ht, hL⟩ := id hb
  refine ⟨_, (pss_cons (ps_set (i := 2) sc_gains.nd rfl (Or.inl rfl) pe_int)
    (pss_cons (ps_set (i := 3) sc_gains.nd rfl (Or.inl rfl) pe_int)
    (pss_cons (ps_for PassesOwn.never rfl (pi_tup (pv 1)) (pg_name (i := 4) sc_gains.nd rfl (Or.inl rfl))
      (pss_cons (ps_aug (i := 2) sc_gains.nd rfl (Or.inl rfl) (pe_ix ix_tup (pe_ix ix_tup (pe_ix ix_tup (pv 0) pe_int (fun _ _ => rfl)) (pv 4) (fun _ _ => rfl)) pe_int (fun _ _ => rfl)) ip_mul)
    (pss_one (ps_aug (i := 3) sc_gains.nd rfl (Or.inl rfl) (pe_ix ix_tup (pe_ix ix_tup (pe_ix ix_tup (pv 0) pe_int (fun _ _ => rfl)) (pv 4) (fun _ _ => rfl)) pe_int (fun _ _ => rfl)) ip_mul))))
    (pss_one (ps_ret (pe_cmpR op_gt (pv 3) (pv 2) (nomark _))))))), ?_⟩
  refine ⟨_, rfl, _, rfl, ?_⟩
  refine ⟨⟨_, SqT.of hq⟩, ?_⟩
  refine for_tup (K := K) (a := q) (xs := (is.map fun i : Nat => (i : Int)).map V.int) (fun j σ H' => ∃ v4 : Option V, H' = H ∧ σ = [some (.ref d), some (.ref q), some (.int (prX L (is.take j))), some (.int (prY L (is.take j))), v4])
    ⟨none, rfl, rfl⟩ (fun j σ H' _ h => by obtain ⟨_, rfl, _⟩ := h; exact SqT.of hq) ?_ ?_
  · rintro j x σ H2 hx ⟨v4, rfl, rfl⟩
    rw [List.getElem?_map, List.getElem?_map] at hx
    cases e : is[j]? with
    | none => rw [e] at hx; cases hx
    | some i =>
      rw [e] at hx
      have ex : x = .int (i : Int) := (Option.some.inj hx).symm
      subst ex
      have il := hi i (List.mem_of_getElem? e)
      obtain ⟨r, hr1, hr2⟩ := hL.at il
      have o := of_ok ok il
      have h1 := o.x0
      have h2 := o.x1
      have h3 := o.y0
      have h4 := o.y1
      have tk : is.take (j + 1) = is.take j ++ [i] := by rw [List.take_add_one, e]; rfl
      refine ⟨_, rfl, ?_⟩
      refine ⟨_, rfl, _, _, _, _, rfl, rfl, SqT.of hd, atI_nat (j := 1) rfl, _, rfl, _, _, _, _, rfl, rfl, SqT.of ht, atI_nat hr1, _, _, _, _, rfl, rfl, SqT.of hr2, atI_nat (j := 1) rfl, _, _, rfl, rfl, .inr ⟨by omega, by omega⟩, ?_⟩
      refine ⟨_, rfl, ?_⟩
      refine ⟨_, rfl, _, _, _, _, rfl, rfl, SqT.of hd, atI_nat (j := 1) rfl, _, rfl, _, _, _, _, rfl, rfl, SqT.of ht, atI_nat hr1, _, _, _, _, rfl, rfl, SqT.of hr2, atI_nat (j := 3) rfl, _, _, rfl, rfl, .inr ⟨by omega, by omega⟩, ?_⟩
      refine ⟨some (.int (i : Int)), rfl, ?_⟩
      rw [tk, prX_more, prY_more]
      rfl
  · rintro σ H2 ⟨v4, rfl, rfl⟩
    rw [List.length_map, List.length_map, List.take_length]
    exact ⟨_, rfl, _, rfl, _, _, rfl, rfl, kk⟩
end
end Sm

set_option Elab.async false
set_option linter.all false
set_option maxRecDepth 100000
set_option maxHeartbeats 8000000
namespace Sm
open PySem PySem.Spec PyProof.Rows L2
open C8 (pss_cut tCut)
def itm (c : Nat) (o : Of) : Int := if c = 1 then o.x else o.y
def prI (c : Nat) (L : List Of) (is : List Nat) : Int := (is.map fun i => itm c (L.getD i of0)).foldl (· * ·) 1
theorem prI_more (c : Nat) (L : List Of) (is : List Nat) (i : Nat) : prI c L (is ++ [i]) = prI c L is * itm c (L.getD i of0) := by
  unfold prI
  rw [List.map_append, List.foldl_append]
  rfl
def sp_l_product (_ : PySem.W.Frag) : Sp := fun vs H Q _ => ∃ (d q : Addr) (k c : Nat) (L : List Of) (is : List Nat), vs = [.ref d, .ref q, .int (c : Int)] ∧ (c = 1 ∨ c = 3) ∧ BoardAt H d k L ∧ (∀ o ∈ L, OfOk k o) ∧ H q = some (.tup ((is.map fun i : Nat => (i : Int)).map V.int)) ∧ (∀ i ∈ is, i < L.length) ∧
  Q (.int (prI c L is)) H
def sp_l_gains (_ : PySem.W.Frag) : Sp := fun vs H Q _ => ∃ (d q : Addr) (k : Nat) (L : List Of) (is : List Nat), vs = [.ref d, .ref q] ∧ BoardAt H d k L ∧ (∀ o ∈ L, OfOk k o) ∧ H q = some (.tup ((is.map fun i : Nat => (i : Int)).map V.int)) ∧ (∀ i ∈ is, i < L.length) ∧
  Q (.bl (decide (prX L is < prY L is))) H
section
variable {P : Program} {w : World} {K : PySem.W.Frag} {mg : Str → Option Value} {base : Heap}
abbrev s_l_product : Stmt := topS 19
abbrev N_l_product : List Str := ["_law_board_here", "_law_indexes", "_law_item", "_law_found", "_law_index"]
theorem sc_l_product : FnScope N_l_product ["_law_board_here", "_law_indexes", "_law_item"] (defScope s_l_product) := ⟨rfl, rfl, rfl, by decide +kernel, rfl, by decide +kernel, by decide +kernel⟩
theorem ok_l_product (T : Txt mg) (D : Df K mg "_law_product" s_l_product ["_law_board_here", "_law_indexes", "_law_item"]) : Cal P w K mg base "_law_product" ["_law_board_here", "_law_indexes", "_law_item"] 1 (sp_l_product K) := by
  refine D.cal sc_l_product (fun vs H Q E h => ?_) (fun f cdv A outer s H vs Q E hr h => ?_)
  · obtain ⟨d, q, k, c, L, is, rfl, _⟩ := h
    rfl
  obtain ⟨d, q, k, c, L, is, rfl, hc, hb, ok, hq, hi, kk⟩ := h
  obtain ⟨t, qs, hd, ht, hL⟩ := id hb
  refine ⟨_, (pss_cons (ps_set (i := 3) sc_l_product.nd rfl (Or.inl rfl) pe_int)
    (pss_cons (ps_for PassesOwn.never rfl (pi_tup (pv 1)) (pg_name (i := 4) sc_l_product.nd rfl (Or.inl rfl))
      (pss_one (ps_set (i := 3) sc_l_product.nd rfl (Or.inl rfl) (pe_op op_mul (pv 3) (pe_ix ix_tup (pe_ix ix_tup (pe_ix ix_tup (pv 0) pe_int (fun _ _ => rfl)) (pv 4) (fun _ _ => rfl)) (pv 2) (fun _ _ => rfl))))))
    (pss_one (ps_ret (pv 3))))), ?_⟩
  refine ⟨_, rfl, _, rfl, ?_⟩
  refine ⟨⟨_, SqT.of hq⟩, ?_⟩
  refine for_tup (K := K) (a := q) (xs := (is.map fun i : Nat => (i : Int)).map V.int) (fun j σ H' => ∃ v4 : Option V, H' = H ∧ σ = [some (.ref d), some (.ref q), some (.int (c : Int)), some (.int (prI c L (is.take j))), v4])
    ⟨none, rfl, rfl⟩ (fun j σ H' _ h => by obtain ⟨_, rfl, _⟩ := h; exact SqT.of hq) ?_ ?_
  · rintro j x σ H2 hx ⟨v4, rfl, rfl⟩
    rw [List.getElem?_map, List.getElem?_map] at hx
    cases e : is[j]? with
    | none => rw [e] at hx; cases hx
    | some i =>
      rw [e] at hx
      have ex : x = .int (i : Int) := (Option.some.inj hx).symm
      subst ex
      have il := hi i (List.mem_of_getElem? e)
      obtain ⟨r, hr1, hr2⟩ := hL.at il
      have o := of_ok ok il
      have h1 := o.x0
      have h2 := o.x1
      have h3 := o.y0
      have h4 := o.y1
      have tk : is.take (j + 1) = is.take j ++ [i] := by rw [List.take_add_one, e]; rfl
      have hn : ((L.getD i of0).ns.map V.int)[c]? = some (.int (itm c (L.getD i of0))) := by rcases hc with rfl | rfl <;> rfl
      have hm : 0 ≤ itm c (L.getD i of0) ∧ itm c (L.getD i of0) ≤ 30 := by rcases hc with rfl | rfl <;> first | exact ⟨by show 0 ≤ Of.x _; omega, by show Of.x _ ≤ 30; omega⟩ | exact ⟨by show 0 ≤ Of.y _; omega, by show Of.y _ ≤ 30; omega⟩
      refine ⟨_, rfl, _, rfl, _, _, _, _, rfl, rfl, SqT.of hd, atI_nat (j := 1) rfl, _, rfl, _, _, _, _, rfl, rfl, SqT.of ht, atI_nat hr1, _, rfl, _, _, _, _, rfl, rfl, SqT.of hr2, atI_nat hn, _, _, rfl, rfl, .inr ⟨by omega, by omega⟩, ?_⟩
      refine ⟨some (.int (i : Int)), rfl, ?_⟩
      rw [tk, prI_more]
      rfl
  · rintro σ H2 ⟨v4, rfl, rfl⟩
    rw [List.length_map, List.length_map, List.take_length]
    exact ⟨_, rfl, kk⟩
abbrev s_l_gains : Stmt := topS 20
abbrev N_l_gains : List Str := ["_law_board_here", "_law_indexes"]
theorem sc_l_gains : FnScope N_l_gains ["_law_board_here", "_law_indexes"] (defScope s_l_gains) := ⟨rfl, rfl, rfl, by decide +kernel, rfl, by decide +kernel, by decide +kernel⟩
theorem ok_l_gains (T : Txt mg) (D : Df K mg "_law_gains" s_l_gains ["_law_board_here", "_law_indexes"]) (C_l_product : Cal P w K mg base "_law_product" ["_law_board_here", "_law_indexes", "_law_item"] 1 (sp_l_product K)) : Cal P w K mg base "_law_gains" ["_law_board_here", "_law_indexes"] 2 (sp_l_gains K) := by
  obtain ⟨f_l_product, fd_l_product, G_l_product, m_l_product, k_l_product, b_l_product⟩ := C_l_product
  refine D.cal sc_l_gains (fun vs H Q E h => ?_) (fun f cdv A outer s H vs Q E hr h => ?_)
  · obtain ⟨d, q, k, L, is, rfl, _⟩ := h
    rfl
  obtain ⟨d, q, k, L, is, rfl, hb, ok, hq, hi, kk⟩ := h
  refine ⟨_, (pss_one (ps_ret (pe_cmpR op_gt (pe_call G_l_product (hr.mono (by decide)) (by rfl) m_l_product k_l_product b_l_product .nil pass0 (pa_cons (pv 0) (pa_cons (pv 1) (pa_cons pe_int pa_nil)))) (pe_call G_l_product (hr.mono (by decide)) (by rfl) m_l_product k_l_product b_l_product .nil pass0 (pa_cons (pv 0) (pa_cons (pv 1) (pa_cons pe_int pa_nil)))) (nomark _)))), ?_⟩
  refine ⟨_, rfl, _, rfl, d, q, k, 3, L, is, rfl, .inr rfl, hb, ok, hq, hi, ?_⟩
  exact ⟨_, rfl, _, rfl, d, q, k, 1, L, is, rfl, .inl rfl, hb, ok, hq, hi, _, _, rfl, rfl, kk⟩
end
end Sm

set_option Elab.async false
set_option linter.all false
set_option maxRecDepth 100000
set_option maxHeartbeats 8000000
namespace Sm
open PySem PySem.Spec PyProof.Rows L2
open C8 (pss_cut tCut)
section
variable {K : PySem.W.Frag} {H : Hp} {Q : VK}
theorem sl_uni {a : Addr} {xs : List V} {lo hi : Option Int} (h : H a = some (.tup xs)) (q : ∀ u H', Same H H' → H' u = some (.tup (cutV xs lo hi)) → Q (.ref u) H') : rSlA K (.ref a) lo hi H Q := by
  refine ⟨a, xs, rfl, SqT.of h, fun w => q a H (Same.refl H) ?_, fun _ u nu => q u _ (same_upd nu) upd_same⟩
  rw [h]
  unfold cutV
  rw [w.1, w.2, List.drop_zero, Nat.sub_zero, List.take_length]
theorem cat_uni {a b : Addr} {xs ys : List V} (ha : H a = some (.tup xs)) (hb : H b = some (.tup ys)) (l : xs.length + ys.length ≤ sizeLine) (q : ∀ u H', Same H H' → H' u = some (.tup (xs ++ ys)) → Q (.ref u) H') : rCatA K (.ref a) (.ref b) H Q := by
  refine ⟨a, b, xs, ys, rfl, rfl, SqT.of ha, SqT.of hb, l, fun e => q b H (Same.refl H) ?_, fun _ e => q a H (Same.refl H) ?_, fun _ _ u nu => q u _ (same_upd nu) upd_same⟩
  · rw [hb, e, List.nil_append]
  · rw [ha, e, List.append_nil]
end
theorem no_part {σ : L2.St} {H : Hp} {Q : Option Int → Hp → Prop} (h : Q none H) : tNoPart σ H Q := h
theorem cut_from {xs : List V} {n : Nat} : cutV xs (some (n : Int)) none = xs.drop n := by
  unfold cutV
  rw [HT.sIx_none, HT.sIx_nat]
  rcases Nat.le_total n xs.length with h | h
  · rw [Nat.min_eq_left h, List.take_of_length_le (by rw [List.length_drop]; exact Nat.le_refl _)]
  · rw [Nat.min_eq_right h, List.drop_length, List.drop_of_length_le h, List.take_nil]
theorem dec_nat {a b : Nat} : decide (V.int (a : Int) = V.int (b : Int)) = decide (a = b) := by
  by_cases h : a = b
  · rw [decide_eq_true h, h, decide_eq_true rfl]
  · rw [decide_eq_false h, decide_eq_false fun q => h (by have := V.int.inj q; omega)]
/-! ### values as loops -/
def nts (ds : List PyData) : List Nat := ds.map fun d => match d with | .int i => i.toNat | _ => 0
def ixs (n : Nat) (ds : List PyData) : Bool := ds.all fun d => inI d 0 ((n : Int) - 1)
def nxt (is : List Nat) (j : Nat) : Nat := (is.drop 1 ++ is.take 1).getD j 0
def linkB (L : List Of) (is : List Nat) : Bool := (List.range is.length).all fun j => decide ((L.getD (is.getD j 0) of0).b = (L.getD (nxt is j) of0).a)
def glD (L : List Of) : PyData → Bool
  | .tuple ds => ixs L.length ds && (linkB L (nts ds) && decide (prX L (nts ds) < prY L (nts ds)))
  | _ => false
theorem glD_tup (L : List Of) (ds : List PyData) : glD L (.tuple ds) = (ixs L.length ds && (linkB L (nts ds) && decide (prX L (nts ds) < prY L (nts ds)))) := rfl
theorem of_tup (d : PyData) : isOf "tuple" d = (match d with | .tuple _ => true | _ => false) := by
  cases d <;> simp [isOf, isT, tyN]
theorem DqAll.at {K : PySem.W.Frag} {H : Hp} : ∀ {xs : List V} {ds : List PyData} {j : Nat} {x : V}, DqAll K H xs ds → xs[j]? = some x → ∃ d, ds[j]? = some d ∧ Dq K H x d
  | _, _, 0, _, .cons h1 h2, e => ⟨_, rfl, by cases e; exact h1⟩
  | _, _, j + 1, _, .cons h1 h2, e => DqAll.at (j := j) h2 (by simpa using e)
theorem DqAll.len {K : PySem.W.Frag} {H : Hp} : ∀ {xs : List V} {ds : List PyData}, DqAll K H xs ds → xs.length = ds.length
  | _, _, .nil => rfl
  | _, _, .cons h1 h2 => congrArg (· + 1) h2.len
theorem DqAll.same {K : PySem.W.Frag} {H H' : Hp} {xs : List V} {ds : List PyData} (h : DqAll K H xs ds) (s : Same H H') : DqAll K H' xs ds := Dq.monoAll (fun b o => s b o) ds xs h
/-- indexes alone: ints -/
theorem ixs_ints {K : PySem.W.Frag} {H : Hp} {n : Nat} : ∀ {xs : List V} {ds : List PyData}, DqAll K H xs ds → ixs n ds = true → xs = ((nts ds).map fun i : Nat => (i : Int)).map V.int ∧ ∀ i ∈ nts ds, i < n
  | _, _, .nil, _ => ⟨rfl, fun i hi => by cases hi⟩
  | x :: xs, d :: ds, .cons h1 h2, h => by
    have h : (inI d 0 ((n : Int) - 1) && ixs n ds) = true := h
    rw [Bool.and_eq_true] at h
    obtain ⟨e1, e2⟩ := ixs_ints h2 h.2
    cases d with
    | int i =>
      have hh : (decide (0 ≤ i) && decide (i ≤ (n : Int) - 1)) = true := h.1
      rw [Bool.and_eq_true, decide_eq_true_iff, decide_eq_true_iff] at hh
      cases h1
      refine ⟨?_, fun j hj => ?_⟩
      · show V.int i :: xs = V.int ((i.toNat : Nat) : Int) :: ((nts ds).map fun i : Nat => (i : Int)).map V.int
        rw [← e1, Int.toNat_of_nonneg hh.1]
      · rcases List.mem_cons.mp hj with rfl | hj
        · show i.toNat < n
          omega
        · exact e2 j hj
    | _ => cases h.1
theorem all_bl (bs : List Bool) : (bs.all id) = bs.all (fun b => b) := rfl
theorem map_rng {α β : Type} (f : α → β) (ds : List α) (d0 : α) (g : Nat → β) (h : ∀ j d, ds[j]? = some d → g j = f d) : (List.range ds.length).map g = ds.map f := by
  refine List.ext_getElem? fun j => ?_
  rw [List.getElem?_map, List.getElem?_map]
  by_cases hj : j < ds.length
  · rw [List.getElem?_range hj, List.getElem?_eq_getElem hj]
    exact congrArg some (h j _ (List.getElem?_eq_getElem hj))
  · rw [List.getElem?_eq_none (by rw [List.length_range]; omega), List.getElem?_eq_none (by omega)]
    rfl
def sp_is_gaining_loop (K : PySem.W.Frag) : Sp := fun vs H Q _ => ∃ (d : Addr) (k : Nat) (L : List Of) (v : V) (dd : PyData), vs = [.ref d, v] ∧ BoardAt H d k L ∧ (∀ o ∈ L, OfOk k o) ∧ Dq K H v dd ∧ (∀ ds, dd = .tuple ds → ds.length ≤ 16) ∧ ∀ H', Same H H' → Q (.bl (glD L dd)) H'
section
variable {P : Program} {w : World} {K : PySem.W.Frag} {mg : Str → Option Value} {base : Heap}
abbrev s_is_gaining_loop : Stmt := topS 8
abbrev N_is_gaining_loop : List Str := ["board", "value", "offers", "after", "linked", "at", "index"]
theorem sc_is_gaining_loop : FnScope N_is_gaining_loop ["board", "value"] (defScope s_is_gaining_loop) := ⟨rfl, rfl, rfl, by decide +kernel, rfl, by decide +kernel, by decide +kernel⟩
theorem ok_is_gaining_loop (T : Txt mg) (D : Df K mg "is_gaining_loop" s_is_gaining_loop ["board", "value"]) (C_gains : Cal P w K mg base "gains" ["board", "indexes"] 1 (sp_gains K)) (C_is_within : Cal P w K mg base "is_within" ["value", "low", "high"] 2 (sp_is_within K)) : Cal P w K mg base "is_gaining_loop" ["board", "value"] 3 (sp_is_gaining_loop K) := by
  obtain ⟨f_gains, fd_gains, G_gains, m_gains, k_gains, b_gains⟩ := C_gains
  obtain ⟨f_is_within, fd_is_within, G_is_within, m_is_within, k_is_within, b_is_within⟩ := C_is_within
  refine D.cal sc_is_gaining_loop (fun vs H Q E h => ?_) (fun f cdv A outer s H vs Q E hr h => ?_)
  · obtain ⟨d, k, L, v, dd, rfl, _⟩ := h
    rfl
  obtain ⟨d, k, L, v, dd, rfl, hb, ok, hd, h16, kk⟩ := h
  obtain ⟨t, qs, hbd, ht, hL⟩ := id hb
  have lq : (qs.map V.ref).length = L.length := by rw [List.length_map, hL.1]
  refine ⟨_, (pss_cons (ps_set (i := 2) sc_is_gaining_loop.nd rfl (Or.inr rfl) (pe_ix ix_tup (pv 0) pe_int (fun _ _ => rfl)))
    (pss_cons (ps_if (PW.pt (pw_or (pt_not (pt_val (pe_callB call_isQ (by rfl) T.n_isinstance (by decide +kernel) (pa_cons (pv 1) (pa_cons (pe_bltn (v := .ty "tuple") (by rfl) T.n_tuple (by decide +kernel) rfl) pa_nil))))) (pw_or1 (pt_not (pt_val (pe_callB (cr_all rfl) (by rfl) T.n_all (by decide +kernel) (pa_cons (pe_lc (own := [("index", 6)]) (g := gName 6) (tt := tYes) rfl sc_is_gaining_loop.nd (pi_tup (pv 1)) (blkOk_by (own := [("index", 6)]) (N := N_is_gaining_loop) (sc := defScope s_is_gaining_loop) (by decide +kernel)) (fun _ _ _ _ _ => pg_name (i := 6) sc_is_gaining_loop.nd rfl (Or.inl rfl)) (fun _ _ _ _ _ => pts_nil) (fun _ _ _ _ _ => (pe_call G_is_within (hr.mono (by decide)) (by rfl) m_is_within k_is_within b_is_within .nil pass0 (pa_cons (pv 6) (pa_cons pe_int (pa_cons (pe_op op_sub (pe_callB (show CallR _ _ (fun xs H Q => ∃ p ys, xs = [.ref p] ∧ (SqL K H p ys ∨ SqT K H p ys) ∧ Q (.int ys.length) H) from call_len_seq) (by rfl) T.n_len (by decide +kernel) (pa_cons (pv 2) pa_nil)) pe_int) pa_nil)))))) pa_nil))))))) (pss_one (ps_ret pe_bl)) pss_nil)
    (pss_cons (ps_set (i := 3) sc_is_gaining_loop.nd rfl (Or.inr rfl) (pe_op op_catA (pe_slice sl_tupA (pv 1) (po_some pe_int) po_none) (pe_slice sl_tupA (pv 1) po_none (po_some pe_int))))
    (pss_cons (ps_set (i := 4) sc_is_gaining_loop.nd rfl (Or.inl rfl) (pe_callB (cr_all rfl) (by rfl) T.n_all (by decide +kernel) (pa_cons (pe_lc (own := [("at", 5)]) (g := gName 5) (tt := tYes) rfl sc_is_gaining_loop.nd (pi_range1 (by rfl) T.n_range (pa_cons (pe_callB call_len_seq (by rfl) T.n_len (by decide +kernel) (pa_cons (pv 1) pa_nil)) pa_nil)) (blkOk_by (own := [("at", 5)]) (N := N_is_gaining_loop) (sc := defScope s_is_gaining_loop) (by decide +kernel)) (fun _ _ _ _ _ => pg_name (i := 5) sc_is_gaining_loop.nd rfl (Or.inl rfl)) (fun _ _ _ _ _ => pts_nil) (fun _ _ _ _ _ => (pe_cmpR op_eq (pe_ix (show IxR _ (rIxT K) from ix_tup) (pe_ix (show IxR _ (rIxT K) from ix_tup) (pv 2) (pe_ix (show IxR _ (rIxT K) from ix_tup) (pv 1) (pv 5) (fun _ _ => rfl)) (fun _ _ => rfl)) pe_int (fun _ _ => rfl)) (pe_ix (show IxR _ (rIxT K) from ix_tup) (pe_ix (show IxR _ (rIxT K) from ix_tup) (pv 2) (pe_ix (show IxR _ (rIxT K) from ix_tup) (pv 3) (pv 5) (fun _ _ => rfl)) (fun _ _ => rfl)) pe_int (fun _ _ => rfl)) (nomark _)))) pa_nil)))
    (pss_one (ps_ret (pe_and (pv 4) (pe_one (pe_call G_gains (hr.mono (by decide)) (by rfl) m_gains k_gains b_gains .nil pass0 (pa_cons (pv 0) (pa_cons (pv 1) pa_nil))))))))))), ?_⟩
  refine ⟨_, rfl, _, _, _, _, rfl, rfl, SqT.of hbd, atI_nat (j := 1) rfl, ?_⟩
  refine ⟨_, rfl, v, dd, "tuple", rfl, hd, .inr (.inr (.inr (.inl rfl))), ?_⟩
  rw [of_tup]
  cases hd with
  | non => exact ⟨_, rfl, iteT (kk H (Same.refl _))⟩
  | bl b => exact ⟨_, rfl, iteT (kk H (Same.refl _))⟩
  | int i => exact ⟨_, rfl, iteT (kk H (Same.refl _))⟩
  | str x => exact ⟨_, rfl, iteT (kk H (Same.refl _))⟩
  | lst e1 e2 e3 => exact ⟨_, rfl, iteT (kk H (Same.refl _))⟩
  | dic kvs e1 => exact ⟨_, rfl, iteT (kk H (Same.refl _))⟩
  | @tup a xs ds e1 e2 =>
    have ld := e2.len
    have h16 := h16 ds rfl
    refine ⟨_, rfl, iteF ⟨_, rfl, a, rfl, ⟨_, SqT.of e1⟩, fun U nU => ?_⟩⟩
    refine lc_mT (fun j => .bl (inI (ds.getD j .none) 0 ((L.length : Int) - 1))) e1 nU (by omega) ?_ gName_mono ?_
    · intro j x H' hx s' R hR
      obtain ⟨dj, hj, hq⟩ := e2.at hx
      refine ⟨rfl, _, rfl, _, rfl, _, _, rfl, .inr (SqT.of (s' _ _ ht)), _, _, rfl, rfl, x, dj, 0, (((qs.map V.ref).length : Nat) : Int) - 1, rfl, hq.same s', ?_⟩
      rw [lq]
      have := hR H' (Same.refl _)
      rw [List.getD_eq_getElem?_getD, hj] at this
      exact this
    intro H1 s1 hU
    rw [ld, map_rng (fun d => V.bl (inI d 0 ((L.length : Int) - 1))) ds .none _ (fun j d e => by rw [List.getD_eq_getElem?_getD, e]; rfl)] at hU
    have hU : H1 U = some (.lst ((ds.map fun d => inI d 0 ((L.length : Int) - 1)).map V.bl)) := by rw [List.map_map]; exact hU
    refine ⟨U, _, rfl, SqL.of hU, ?_⟩
    have ea : (ds.map fun d => inI d 0 ((L.length : Int) - 1)).all id = ixs L.length ds := by rw [List.all_map]; rfl
    rw [ea]
    cases e : ixs L.length ds with
    | false =>
      refine ⟨_, rfl, iteT ?_⟩
      have := kk H1 s1
      rw [glD_tup, e] at this
      exact this
    | true =>
      obtain ⟨ex, il⟩ := ixs_ints e2 e
      have ln : (nts ds).length = ds.length := by unfold nts; rw [List.length_map]
      refine ⟨_, rfl, iteF ?_⟩
      have e1' := s1 _ _ e1
      rw [ex] at e1'
      have kk : ∀ H', Same H H' → Q (.bl (linkB L (nts ds) && decide (prX L (nts ds) < prY L (nts ds)))) H' := fun H' s' => by
        have := kk H' s'
        rw [glD_tup, e] at this
        exact this
      generalize nts ds = is at e1' il ln kk ex
      refine ⟨_, rfl, _, rfl, no_part ?_⟩
      refine sl_uni e1' fun u1 H2 s2 hu1 => ?_
      refine ⟨_, rfl, no_part ⟨_, rfl, ?_⟩⟩
      refine sl_uni (s2 _ _ e1') fun u2 H3 s3 hu2 => ?_
      refine cat_uni (s3 _ _ hu1) hu2 ?_ fun u3 H4 s4 hu3 => ?_
      · have h1 := cutV_length ((is.map fun i : Nat => (i : Int)).map V.int) (some 1) none
        have h2 := cutV_length ((is.map fun i : Nat => (i : Int)).map V.int) none (some 1)
        rw [List.length_map, List.length_map] at h1 h2
        exact Nat.le_trans (Nat.add_le_add h1 h2) (Nat.le_trans (show is.length + is.length ≤ 1000 by omega) (by decide))
      have sb := s1.trans (s2.trans (s3.trans s4))
      have ea : cutV ((is.map fun i : Nat => (i : Int)).map V.int) (some 1) none ++ cutV ((is.map fun i : Nat => (i : Int)).map V.int) none (some 1) = ((is.drop 1 ++ is.take 1).map fun i : Nat => (i : Int)).map V.int := by
        rw [show (some (1 : Int)) = some ((1 : Nat) : Int) from rfl, cut_from, cut_all, List.map_append, List.map_append, List.map_drop, List.map_drop, List.map_take, List.map_take]
      rw [ea] at hu3
      have e14 := s4 _ _ (s3 _ _ (s2 _ _ e1'))
      refine ⟨_, rfl, _, _, rfl, .inr (SqT.of e14), ?_⟩
      have li : ((is.map fun i : Nat => (i : Int)).map V.int).length = is.length := by rw [List.length_map, List.length_map]
      refine ⟨_, rfl, by rw [li]; omega, by rw [li]; omega, fun W nW => ?_⟩
      rw [show Int.toNat (((((is.map fun i : Nat => (i : Int)).map V.int).length : Nat) : Int)) = is.length by rw [li]; omega]
      have ht4 := sb _ _ ht
      have lnx : (is.drop 1 ++ is.take 1).length = is.length := by rw [List.length_append, List.length_drop, List.length_take]; omega
      refine lc_mR (fun j => .bl (decide ((L.getD (is.getD j 0) of0).b = (L.getD (nxt is j) of0).a))) nW (by omega) ?_ gName_mono ?_
      · intro j H5 hj s5 R hR
        have g1 : is.getD j 0 < L.length := by
          rw [List.getD_eq_getElem?_getD, List.getElem?_eq_getElem hj]
          exact il _ (List.getElem_mem hj)
        have hj2 : j < (is.drop 1 ++ is.take 1).length := by rw [lnx]; exact hj
        have g2 : nxt is j < L.length := by
          unfold nxt
          rw [List.getD_eq_getElem?_getD, List.getElem?_eq_getElem hj2]
          refine il _ ?_
          rcases List.mem_append.mp (List.getElem_mem hj2) with m | m
          · exact List.mem_of_mem_drop m
          · exact List.mem_of_mem_take m
        obtain ⟨q1, c1, c2⟩ := (hL.same (sb.trans s5)).at g1
        obtain ⟨q2, c3, c4⟩ := (hL.same (sb.trans s5)).at g2
        have v1 : ((is.map fun i : Nat => (i : Int)).map V.int)[j]? = some (.int ((is.getD j 0 : Nat) : Int)) := by
          rw [List.getElem?_map, List.getElem?_map, List.getD_eq_getElem?_getD, List.getElem?_eq_getElem hj]
          rfl
        have v2 : (((is.drop 1 ++ is.take 1).map fun i : Nat => (i : Int)).map V.int)[j]? = some (.int ((nxt is j : Nat) : Int)) := by
          unfold nxt
          rw [List.getElem?_map, List.getElem?_map, List.getD_eq_getElem?_getD, List.getElem?_eq_getElem hj2]
          rfl
        refine ⟨rfl, _, rfl, _, rfl, _, rfl, _, _, _, _, rfl, rfl, SqT.of (s5 _ _ e14), at_of (Int.zero_add _) v1, _, _, _, _, rfl, rfl, SqT.of (s5 _ _ ht4), atI_nat c1, _, _, _, _, rfl, rfl, SqT.of c2, atI_nat (j := 2) rfl, ?_⟩
        refine ⟨_, rfl, _, rfl, _, rfl, _, _, _, _, rfl, rfl, SqT.of (s5 _ _ hu3), at_of (Int.zero_add _) v2, _, _, _, _, rfl, rfl, SqT.of (s5 _ _ ht4), atI_nat c3, _, _, _, _, rfl, rfl, SqT.of c4, atI_nat (j := 0) rfl, rfl, ?_⟩
        have := hR H5 (Same.refl _)
        rw [dec_nat]
        exact this
      intro H5 s5 hW
      have hW : H5 W = some (.lst (((List.range is.length).map fun j => decide ((L.getD (is.getD j 0) of0).b = (L.getD (nxt is j) of0).a)).map V.bl)) := by rw [List.map_map]; exact hW
      refine ⟨W, _, rfl, SqL.of hW, ?_⟩
      have lk : ((List.range is.length).map fun j => decide ((L.getD (is.getD j 0) of0).b = (L.getD (nxt is j) of0).a)).all id = linkB L is := by rw [List.all_map]; rfl
      rw [lk]
      have sz := sb.trans s5
      cases eL : linkB L is with
      | false =>
        refine ⟨_, rfl, _, rfl, iteF ?_⟩
        have := kk H5 sz
        rw [eL] at this
        exact this
      | true =>
        refine ⟨_, rfl, _, rfl, iteT ⟨_, rfl, _, rfl, d, a, k, L, is, rfl, hb.same sz, ok, s5 _ _ e14, il, by omega, ?_⟩⟩
        have := kk H5 sz
        rw [eL] at this
        exact this
end
end Sm

set_option Elab.async false
set_option linter.all false
set_option maxRecDepth 100000
set_option maxHeartbeats 8000000
namespace Sm
open PySem PySem.Spec PyProof.Rows L2
open C8 (pss_cut tCut)
def prv (is : List Nat) (j : Nat) : Nat := is.getD (if j = 0 then is.length - 1 else j - 1) 0
def lkB (L : List Of) (is : List Nat) : Bool := (List.range is.length).all fun j => decide ((L.getD (prv is j) of0).b = (L.getD (is.getD j 0) of0).a) && decide (0 < (L.getD (is.getD j 0) of0).y)
def lpD (L : List Of) : PyData → Bool
  | .tuple ds => !ds.isEmpty && (ixs L.length ds && lkB L (nts ds))
  | _ => false
theorem nxt_lt {is : List Nat} {j : Nat} (h : j + 1 < is.length) : nxt is j = is.getD (j + 1) 0 := by
  unfold nxt
  rw [List.getD_eq_getElem?_getD, List.getD_eq_getElem?_getD, List.getElem?_append_left (by rw [List.length_drop]; omega), List.getElem?_drop, Nat.add_comm 1 j]
theorem nxt_last {is : List Nat} {j : Nat} (h : j + 1 = is.length) : nxt is j = is.getD 0 0 := by
  unfold nxt
  rw [List.getD_eq_getElem?_getD, List.getD_eq_getElem?_getD, List.getElem?_append_right (by rw [List.length_drop]; omega), List.length_drop, show j - (is.length - 1) = 0 by omega, List.getElem?_take_of_lt (by decide)]
theorem link_iff {L : List Of} {is : List Nat} : linkB L is = true ↔ ∀ j, j < is.length → (L.getD (is.getD j 0) of0).b = (L.getD (nxt is j) of0).a := by
  unfold linkB
  rw [List.all_eq_true]
  exact ⟨fun h j hj => of_decide_eq_true (h j (List.mem_range.mpr hj)), fun h j hj => decide_eq_true (h j (List.mem_range.mp hj))⟩
theorem lk_iff {L : List Of} {is : List Nat} : lkB L is = true ↔ ∀ j, j < is.length → (L.getD (prv is j) of0).b = (L.getD (is.getD j 0) of0).a ∧ 0 < (L.getD (is.getD j 0) of0).y := by
  unfold lkB
  rw [List.all_eq_true]
  constructor
  · intro h j hj
    have := h j (List.mem_range.mpr hj)
    rw [Bool.and_eq_true] at this
    exact ⟨of_decide_eq_true this.1, of_decide_eq_true this.2⟩
  · intro h j hj
    obtain ⟨a, b⟩ := h j (List.mem_range.mp hj)
    rw [decide_eq_true a, decide_eq_true b]
    rfl
theorem fold_zero : ∀ xs : List Int, xs.foldl (· * ·) 0 = 0
  | [] => rfl
  | x :: xs => by
    show xs.foldl (· * ·) (0 * x) = 0
    rw [Int.zero_mul]
    exact fold_zero xs
theorem prods {L : List Of} {k : Nat} (ok : ∀ o ∈ L, OfOk k o) : ∀ (is : List Nat), (∀ i ∈ is, i < L.length) → ∀ (a b : Int), 1 ≤ a → 0 ≤ b →
    1 ≤ (is.map fun i => (L.getD i of0).x).foldl (· * ·) a ∧ 0 ≤ (is.map fun i => (L.getD i of0).y).foldl (· * ·) b ∧ ((is.map fun i => (L.getD i of0).y).foldl (· * ·) b ≠ 0 → ∀ i ∈ is, 0 < (L.getD i of0).y)
  | [], _, a, b, ha, hb => ⟨ha, hb, fun _ i hi => by cases hi⟩
  | i :: is, h, a, b, ha, hb => by
    have o := of_ok ok (h i List.mem_cons_self)
    have x0 := o.x0
    have y0 := o.y0
    have h' : ∀ j ∈ is, j < L.length := fun j hj => h j (List.mem_cons_of_mem _ hj)
    have e1 : 1 ≤ a * (L.getD i of0).x := by
      have := Int.mul_le_mul ha x0 (by decide) (by omega)
      omega
    have e2 : 0 ≤ b * (L.getD i of0).y := Int.mul_nonneg hb y0
    obtain ⟨p1, p2, p3⟩ := prods ok is h' _ _ e1 e2
    refine ⟨p1, p2, fun ne j hj => ?_⟩
    rcases List.mem_cons.mp hj with rfl | hj
    · rcases Int.lt_or_eq_of_le y0 with y | y
      · exact y
      · exfalso
        apply ne
        show (is.map fun i => (L.getD i of0).y).foldl (· * ·) (b * (L.getD j of0).y) = 0
        rw [← y, Int.mul_zero]
        exact fold_zero _
    · exact p3 ne j hj
/-- both judge loops alike -/
theorem loops_alike {L : List Of} {k : Nat} (ok : ∀ o ∈ L, OfOk k o) (is : List Nat) (il : ∀ i ∈ is, i < L.length) : (!is.isEmpty && lkB L is && decide (prX L is < prY L is)) = (linkB L is && decide (prX L is < prY L is)) := by
  by_cases g : prX L is < prY L is
  · rw [decide_eq_true g, Bool.and_true, Bool.and_true]
    have P := prods ok is il 1 1 (by decide) (by decide)
    have ne : is ≠ [] := fun e => by rw [e] at g; exact absurd g (show ¬ (1 : Int) < 1 by decide)
    have pos := P.2.2 (by
      have a : 1 ≤ prX L is := P.1
      have : prY L is ≠ 0 := by omega
      exact this)
    have n0 : 0 < is.length := List.length_pos_iff.mpr ne
    have e : is.isEmpty = false := by cases is; exact (ne rfl).elim; rfl
    rw [e]
    show (true && lkB L is) = linkB L is
    rw [Bool.true_and, Bool.eq_iff_iff, lk_iff, link_iff]
    constructor
    · intro h j hj
      by_cases q : j + 1 < is.length
      · rw [nxt_lt q]
        have := (h (j + 1) q).1
        unfold prv at this
        rw [if_neg (by omega), Nat.add_sub_cancel] at this
        exact this
      · have q : j + 1 = is.length := by omega
        rw [nxt_last q]
        have := (h 0 n0).1
        unfold prv at this
        rw [if_pos rfl, ← q, Nat.add_sub_cancel] at this
        exact this
    · intro h j hj
      refine ⟨?_, pos _ (by rw [List.getD_eq_getElem?_getD, List.getElem?_eq_getElem hj]; exact List.getElem_mem hj)⟩
      unfold prv
      by_cases q : j = 0
      · subst q
        rw [if_pos rfl]
        have := h (is.length - 1) (by omega)
        rw [nxt_last (by omega)] at this
        exact this
      · rw [if_neg q]
        have := h (j - 1) (by omega)
        rw [nxt_lt (by omega), show j - 1 + 1 = j by omega] at this
        exact this
  · rw [decide_eq_false g, Bool.and_false, Bool.and_false]
theorem alike_D {L : List Of} {k : Nat} (ok : ∀ o ∈ L, OfOk k o) {ds : List PyData} (h : ixs L.length ds = true) (il : ∀ i ∈ nts ds, i < L.length) : (lpD L (.tuple ds) && decide (prX L (nts ds) < prY L (nts ds))) = glD L (.tuple ds) := by
  have e := loops_alike ok (nts ds) il
  rw [glD_tup, h, Bool.true_and, ← e]
  show ((!ds.isEmpty && (ixs L.length ds && lkB L (nts ds))) && _) = _
  rw [h, Bool.true_and]
  congr 2
  unfold nts
  cases ds <;> rfl
theorem ixs_no {n j : Nat} {ds : List PyData} {d : PyData} (h : ds[j]? = some d) (z : inI d 0 ((n : Int) - 1) = false) : ixs n ds = false := by
  unfold ixs
  rw [List.all_eq_false]
  exact ⟨d, List.mem_of_getElem? h, by rw [z]; exact Bool.false_ne_true⟩
theorem ixs_all {n : Nat} {ds : List PyData} (h : ∀ (j : Nat) d, ds[j]? = some d → inI d 0 ((n : Int) - 1) = true) : ixs n ds = true := by
  unfold ixs
  rw [List.all_eq_true]
  intro d hd
  obtain ⟨j, hj, e⟩ := List.getElem_of_mem hd
  exact h j d (by rw [List.getElem?_eq_getElem hj, e])
def sp_l_is_loop (K : PySem.W.Frag) : Sp := fun vs H Q _ => ∃ (d : Addr) (k : Nat) (L : List Of) (v : V) (dd : PyData), vs = [.ref d, v] ∧ BoardAt H d k L ∧ (∀ o ∈ L, OfOk k o) ∧ Dq K H v dd ∧ (∀ ds, dd = .tuple ds → ds.length ≤ 16) ∧ ∀ H', Same H H' → Q (.bl (lpD L dd)) H'
section
variable {P : Program} {w : World} {K : PySem.W.Frag} {mg : Str → Option Value} {base : Heap}
abbrev s_l_is_loop : Stmt := topS 18
abbrev N_l_is_loop : List Str := ["_law_board_here", "_law_value", "_law_index", "_law_rows", "_law_k"]
theorem sc_l_is_loop : FnScope N_l_is_loop ["_law_board_here", "_law_value"] (defScope s_l_is_loop) := ⟨rfl, rfl, rfl, by decide +kernel, rfl, by decide +kernel, by decide +kernel⟩
theorem ok_l_is_loop (T : Txt mg) (D : Df K mg "_law_is_loop" s_l_is_loop ["_law_board_here", "_law_value"]) : Cal P w K mg base "_law_is_loop" ["_law_board_here", "_law_value"] 1 (sp_l_is_loop K) := by
  refine D.cal sc_l_is_loop (fun vs H Q E h => ?_) (fun f cdv A outer s H vs Q E hr h => ?_)
  · obtain ⟨d, k, L, v, dd, rfl, _⟩ := h
    rfl
  obtain ⟨d, k, L, v, dd, rfl, hb, ok, hd, h16, kk⟩ := h
  obtain ⟨t, qs, hbd, ht, hL⟩ := id hb
  have lq : (qs.map V.ref).length = L.length := by rw [List.length_map, hL.1]
  refine ⟨_, (pss_cons (ps_if (PW.pt (pw_or (pt_not (pt_val (pe_callB call_isQ (by rfl) T.n_isinstance (by decide +kernel) (pa_cons (pv 1) (pa_cons (pe_bltn (v := .ty "tuple") (by rfl) T.n_tuple (by decide +kernel) rfl) pa_nil))))) (pw_or1 (pt_cmpR op_eq (pe_callB call_len_seq (by rfl) T.n_len (by decide +kernel) (pa_cons (pv 1) pa_nil)) pe_int (nomark _))))) (pss_one (ps_ret pe_bl)) pss_nil)
    (pss_cons (ps_for PassesOwn.never rfl (pi_tup (pv 1)) (pg_name (i := 2) sc_l_is_loop.nd rfl (Or.inl rfl))
      (pss_one (ps_if (PW.pt (pw_or (pt_not (pt_val (pe_callB call_isQ (by rfl) T.n_isinstance (by decide +kernel) (pa_cons (pv 2) (pa_cons (pe_bltn (v := .ty "int") (by rfl) T.n_int (by decide +kernel) rfl) pa_nil))))) (pw_or (pt_val (pe_callB call_isQ (by rfl) T.n_isinstance (by decide +kernel) (pa_cons (pv 2) (pa_cons (pe_bltn (v := .ty "bool") (by rfl) T.n_bool (by decide +kernel) rfl) pa_nil)))) (pw_or1 (pt_not (pt_chain op_le op_lt pe_int (pv 2) (pe_callB call_len_seq (by rfl) T.n_len (by decide +kernel) (pa_cons (pe_ix ix_tup (pv 0) pe_int (fun _ _ => rfl)) pa_nil)))))))) (pss_one (ps_ret pe_bl)) pss_nil)))
    (pss_cons (ps_set (i := 3) sc_l_is_loop.nd rfl (Or.inr rfl) (pe_lc (own := [("_law_index", 2)]) (g := gName 2) (tt := tYes) rfl sc_l_is_loop.nd (pi_tup (pv 1)) (blkOk_by (own := [("_law_index", 2)]) (N := N_l_is_loop) (sc := defScope s_l_is_loop) (by decide +kernel)) (fun _ _ _ _ _ => pg_name (i := 2) sc_l_is_loop.nd rfl (Or.inl rfl)) (fun _ _ _ _ _ => pts_nil) (fun _ _ _ _ _ => (pe_ix (show IxR _ (rIxT K) from ix_tup) (pe_ix (show IxR _ (rIxT K) from ix_tup) (pv 0) pe_int (fun _ _ => rfl)) (pv 2) (fun _ _ => rfl)))))
    (pss_one (ps_ret (pe_callB (cr_all rfl) (by rfl) T.n_all (by decide +kernel) (pa_cons (pe_lc (own := [("_law_k", 4)]) (g := gName 4) (tt := tYes) rfl sc_l_is_loop.nd (pi_range1 (by rfl) T.n_range (pa_cons (pe_callB call_len_seq (by rfl) T.n_len (by decide +kernel) (pa_cons (pv 3) pa_nil)) pa_nil)) (blkOk_by (own := [("_law_k", 4)]) (N := N_l_is_loop) (sc := defScope s_l_is_loop) (by decide +kernel)) (fun _ _ _ _ _ => pg_name (i := 4) sc_l_is_loop.nd rfl (Or.inl rfl)) (fun _ _ _ _ _ => pts_nil) (fun _ _ _ _ _ => (pe_and (pe_cmpR op_eq (pe_ix (show IxR _ (rIxT K) from ix_tup) (pe_ix (show IxR _ (rIxL K) from ix_list) (pv 3) (pe_op op_sub (pv 4) pe_int) (fun _ _ => rfl)) pe_int (fun _ _ => rfl)) (pe_ix (show IxR _ (rIxT K) from ix_tup) (pe_ix (show IxR _ (rIxL K) from ix_list) (pv 3) (pv 4) (fun _ _ => rfl)) pe_int (fun _ _ => rfl)) (nomark _)) (pe_one (pe_cmpR op_gt (pe_ix (show IxR _ (rIxT K) from ix_tup) (pe_ix (show IxR _ (rIxL K) from ix_list) (pv 3) (pv 4) (fun _ _ => rfl)) pe_int (fun _ _ => rfl)) pe_int (nomark _)))))) pa_nil))))))), ?_⟩
  refine ⟨_, rfl, v, dd, "tuple", rfl, hd, .inr (.inr (.inr (.inl rfl))), ?_⟩
  rw [of_tup]
  cases hd with
  | non => exact ⟨_, rfl, iteT (kk H (Same.refl _))⟩
  | bl b => exact ⟨_, rfl, iteT (kk H (Same.refl _))⟩
  | int i => exact ⟨_, rfl, iteT (kk H (Same.refl _))⟩
  | str x => exact ⟨_, rfl, iteT (kk H (Same.refl _))⟩
  | lst e1 e2 e3 => exact ⟨_, rfl, iteT (kk H (Same.refl _))⟩
  | dic kvs e1 => exact ⟨_, rfl, iteT (kk H (Same.refl _))⟩
  | @tup a xs ds e1 e2 =>
    have ld := e2.len
    have h16 := h16 ds rfl
    refine ⟨_, rfl, iteF ⟨_, rfl, _, _, rfl, .inr (SqT.of e1), ?_⟩⟩
    refine ⟨rfl, ?_⟩
    by_cases e0 : ds = []
    · subst e0
      have ex : xs = [] := List.length_eq_zero_iff.mp ld
      subst ex
      exact ⟨_, rfl, iteT (kk H (Same.refl _))⟩
    have n0 : xs ≠ [] := fun e => e0 (List.length_eq_zero_iff.mp (by rw [← ld, e]; rfl))
    have l0 : 0 < xs.length := List.length_pos_iff.mpr n0
    rw [show decide (V.int (xs.length : Int) = V.int 0) = false from decide_eq_false fun q => by have := V.int.inj q; omega]
    refine ⟨_, rfl, iteF ?_⟩
    have kk : ∀ H', Same H H' → Q (.bl (ixs L.length ds && lkB L (nts ds))) H' := fun H' s' => by
      have := kk H' s'
      rw [show lpD L (.tuple ds) = (!ds.isEmpty && (ixs L.length ds && lkB L (nts ds))) from rfl, show ds.isEmpty = false by cases ds; exact (e0 rfl).elim; rfl] at this
      exact this
    refine ⟨_, rfl, a, rfl, ⟨_, SqT.of e1⟩, ?_⟩
    refine for_tup (K := K) (a := a) (xs := xs) (fun j σ H' => ∃ v2 : Option V, H' = H ∧ σ = [some (.ref d), some (.ref a), v2, none, none] ∧ ∀ i, i < j → inI (ds.getD i .none) 0 ((L.length : Int) - 1) = true)
      ⟨none, rfl, rfl, fun i hi => absurd hi (Nat.not_lt_zero _)⟩ (fun j σ H' _ h => by obtain ⟨_, rfl, _⟩ := h; exact SqT.of e1) ?_ ?_
    · rintro j x σ H2 hx ⟨v2, rfl, rfl, all⟩
      obtain ⟨dj, hj, hq⟩ := e2.at hx
      have gj : ds.getD j .none = dj := by rw [List.getD_eq_getElem?_getD, hj]; rfl
      have bad : inI dj 0 ((L.length : Int) - 1) = false → Q (.bl false) H2 := fun z => by
        have := kk H2 (Same.refl _)
        rw [ixs_no hj z] at this
        exact this
      refine ⟨_, rfl, x, dj, "int", rfl, hq, .inl rfl, _, rfl, ?_⟩
      rw [of_int]
      cases hq with
      | non => exact iteT (bad rfl)
      | str z => exact iteT (bad rfl)
      | lst f1 f2 f3 => exact iteT (bad rfl)
      | tup f1 f2 => exact iteT (bad rfl)
      | dic kvs f1 => exact iteT (bad rfl)
      | bl b =>
        refine iteF ⟨_, rfl, _, .bool b, "bool", rfl, .bl b, .inr (.inl rfl), _, rfl, ?_⟩
        rw [of_bool]
        exact iteT (bad rfl)
      | int i =>
        refine iteF ⟨_, rfl, _, .int i, "bool", rfl, .int i, .inr (.inl rfl), _, rfl, ?_⟩
        rw [of_bool]
        refine iteF ⟨_, rfl, _, _, rfl, rfl, _, rfl, ?_⟩
        by_cases c : (0 : Int) ≤ i
        · rw [decide_eq_true c]
          refine iteT ⟨_, rfl, _, _, _, _, rfl, rfl, SqT.of hbd, atI_nat (j := 1) rfl, _, _, rfl, .inr (SqT.of ht), _, _, rfl, rfl, ?_⟩
          rw [lq]
          by_cases c2 : i < (L.length : Int)
          · refine ⟨decide (i < (L.length : Int)), rfl, ?_⟩
            rw [decide_eq_true c2]
            refine iteF ⟨_, rfl, rfl, fun i' hi' => ?_⟩
            rcases Nat.lt_succ_iff_lt_or_eq.mp hi' with h | h
            · exact all i' h
            · rw [h, gj]
              show (decide (0 ≤ i) && decide (i ≤ (L.length : Int) - 1)) = true
              rw [decide_eq_true c, decide_eq_true (by omega)]
              rfl
          · refine ⟨decide (i < (L.length : Int)), rfl, ?_⟩
            rw [decide_eq_false c2]
            refine iteT (bad ?_)
            show (decide (0 ≤ i) && decide (i ≤ (L.length : Int) - 1)) = false
            rw [decide_eq_false (show ¬ i ≤ (L.length : Int) - 1 by omega), Bool.and_false]
        · rw [decide_eq_false c]
          refine iteF ⟨_, rfl, iteT (bad ?_)⟩
          show (decide (0 ≤ i) && decide (i ≤ (L.length : Int) - 1)) = false
          rw [decide_eq_false c, Bool.false_and]
    · rintro σ H2 ⟨v2, rfl, rfl, all⟩
      have e : ixs L.length ds = true := ixs_all fun j d hj => by
        have hl := (List.getElem?_eq_some_iff.mp hj).1
        have := all j (by omega)
        rw [List.getD_eq_getElem?_getD, hj] at this
        exact this
      obtain ⟨ex, il⟩ := ixs_ints e2 e
      have ln : (nts ds).length = ds.length := by unfold nts; rw [List.length_map]
      rw [e] at kk
      rw [ex] at e1
      generalize nts ds = is at e1 il ln kk
      have li : ((is.map fun i : Nat => (i : Int)).map V.int).length = is.length := by rw [List.length_map, List.length_map]
      refine ⟨_, rfl, a, rfl, ⟨_, SqT.of e1⟩, fun R nR => ?_⟩
      refine lc_mT (fun j => (qs.map V.ref).getD (is.getD j 0) .non) e1 nR (by rw [li]; omega) ?_ gName_mono ?_
      · intro j x H3 hx s3 R' hR
        rw [List.getElem?_map, List.getElem?_map] at hx
        cases e : is[j]? with
        | none => rw [e] at hx; cases hx
        | some i =>
          rw [e] at hx
          have ex : x = .int (i : Int) := (Option.some.inj hx).symm
          subst ex
          obtain ⟨q, c1, _⟩ := hL.at (il i (List.mem_of_getElem? e))
          refine ⟨rfl, _, rfl, _, _, _, _, rfl, rfl, SqT.of (s3 _ _ hbd), atI_nat (j := 1) rfl, _, rfl, _, _, _, _, rfl, rfl, SqT.of (s3 _ _ ht), atI_nat c1, ?_⟩
          have := hR H3 (Same.refl _)
          rw [List.getD_eq_getElem?_getD, List.getD_eq_getElem?_getD, e] at this
          rw [show (some i).getD 0 = i from rfl, c1] at this
          exact this
      intro H3 s3 hR
      rw [li] at hR
      obtain ⟨rows, hrows⟩ : ∃ rows, rows = (List.range is.length).map fun j => (qs.map V.ref).getD (is.getD j 0) .non := ⟨_, rfl⟩
      rw [← hrows] at hR
      have lr : rows.length = is.length := by rw [hrows, List.length_map, List.length_range]
      have row : ∀ j, j < is.length → ∃ q, rows[j]? = some (.ref q) ∧ H2 q = some (.tup ((L.getD (is.getD j 0) of0).ns.map V.int)) := fun j hj => by
        have g : is.getD j 0 < L.length := by
          rw [List.getD_eq_getElem?_getD, List.getElem?_eq_getElem hj]
          exact il _ (List.getElem_mem hj)
        obtain ⟨q, c1, c2⟩ := hL.at g
        refine ⟨q, ?_, c2⟩
        rw [hrows, List.getElem?_map, List.getElem?_range hj]
        show some ((qs.map V.ref).getD (is.getD j 0) .non) = _
        rw [List.getD_eq_getElem?_getD, c1]
        rfl
      refine ⟨_, rfl, _, _, rfl, .inl (SqL.of hR), _, rfl, by rw [lr]; omega, by rw [lr]; omega, fun W nW => ?_⟩
      rw [show Int.toNat ((rows.length : Nat) : Int) = is.length by rw [lr]; omega]
      refine lc_mR (fun j => .bl (decide ((L.getD (prv is j) of0).b = (L.getD (is.getD j 0) of0).a) && decide (0 < (L.getD (is.getD j 0) of0).y))) nW (by omega) ?_ gName_mono ?_
      · intro j H4 hj s4 R' hR'
        have s14 := s3.trans s4
        obtain ⟨q1, c1, c2⟩ := row (if j = 0 then is.length - 1 else j - 1) (by split <;> omega)
        obtain ⟨q2, c3, c4⟩ := row j hj
        have c1' : atI rows ((0 : Int) + (j : Int) - 1) = some (.ref q1) := by
          unfold atI ixN
          rw [lr]
          by_cases z : j = 0
          · subst z
            rw [if_pos rfl] at c1
            rw [if_neg (by omega), if_pos (by omega)]
            show rows[((0 : Int) + ((0 : Nat) : Int) - 1 + (is.length : Int)).toNat]? = _
            rw [show ((0 : Int) + ((0 : Nat) : Int) - 1 + (is.length : Int)).toNat = is.length - 1 by omega]
            exact c1
          · rw [if_neg z] at c1
            rw [if_pos (by omega), if_pos (by omega)]
            show rows[((0 : Int) + (j : Int) - 1).toNat]? = _
            rw [show ((0 : Int) + (j : Int) - 1).toNat = j - 1 by omega]
            exact c1
        have c2 : H2 q1 = some (.tup ((L.getD (prv is j) of0).ns.map V.int)) := c2
        have hR4 := s4 _ _ hR
        refine ⟨rfl, _, rfl, _, rfl, _, _, rfl, rfl, _, _, _, _, rfl, rfl, SqL.of hR4, c1', _, _, _, _, rfl, rfl, SqT.of (s14 _ _ c2), atI_nat (j := 2) rfl, ?_⟩
        refine ⟨_, rfl, _, rfl, _, _, _, _, rfl, rfl, SqL.of hR4, at_of (Int.zero_add _) c3, _, _, _, _, rfl, rfl, SqT.of (s14 _ _ c4), atI_nat (j := 0) rfl, rfl, ?_⟩
        rw [dec_nat]
        have := hR' H4 (Same.refl _)
        by_cases g : (L.getD (prv is j) of0).b = (L.getD (is.getD j 0) of0).a
        · rw [decide_eq_true g] at this ⊢
          exact ⟨_, rfl, iteT ⟨_, rfl, _, rfl, _, _, _, _, rfl, rfl, SqL.of hR4, at_of (Int.zero_add _) c3, _, _, _, _, rfl, rfl, SqT.of (s14 _ _ c4), atI_nat (j := 3) rfl, _, _, rfl, rfl, this⟩⟩
        · rw [decide_eq_false g] at this ⊢
          exact ⟨_, rfl, iteF this⟩
      intro H4 s4 hW
      have hW : H4 W = some (.lst (((List.range is.length).map fun j => decide ((L.getD (prv is j) of0).b = (L.getD (is.getD j 0) of0).a) && decide (0 < (L.getD (is.getD j 0) of0).y)).map V.bl)) := by rw [List.map_map]; exact hW
      refine ⟨W, _, rfl, SqL.of hW, ?_⟩
      have lk : ((List.range is.length).map fun j => decide ((L.getD (prv is j) of0).b = (L.getD (is.getD j 0) of0).a) && decide (0 < (L.getD (is.getD j 0) of0).y)).all id = lkB L is := by rw [List.all_map]; rfl
      rw [lk]
      exact kk H4 (s3.trans s4)
end
end Sm

set_option Elab.async false
set_option linter.all false
set_option maxRecDepth 100000
set_option maxHeartbeats 8000000
namespace Sm
open PySem PySem.Spec PyProof.Rows L2
open C8 (pss_cut tCut)
theorem un65 {k : Nat} {A : Around} (r : Room k A) : A.units + 65 < cLine := by have := r.un; omega
/-- a method's call within a comprehension -/
theorem pe_bmK {X : Cx} {K : PySem.W.Frag} {o e : Expr} {es : List Expr} {to : TE} {t : TA} {name : Str} {apos cpos : Pos} {T id : String} {r : V → List V → Hp → VK → Prop} (hK : X.K = K) (pa : PlainAttrs T) (slot : Slot T name id) (hty : typeOf (.builtin id) = pure (.type "method_descriptor")) (hm : MtR X id r) (ho : PE X o to) (ha : PA X (e :: es) t)
    (hbase : attributeBase o name X.env (eval o X.env) = eval o X.env := by rfl)
    (few : ((backTo cpos (starEach (e :: es) X.env)).all (fun x => !x.1) && (backToKw cpos (keywordEach [] X.env)).all (fun x => x.1.isSome) && decide ((e :: es).length + ([] : List Keyword).length + (if ([] : List Keyword).isEmpty then 0 else 1) < 30)) = true := by rfl)
    (hline : (apos.endLine == cpos.line) = true := by rfl) (hs : starEach (e :: es) X.env = (false, eval e X.env) :: starEach es X.env := by rfl) (plain : (backTo cpos (starEach es X.env)).any (·.1) = false := by rfl) : PE X (.Call (.Attribute o name apos) (e :: es) [] cpos) (tBM K T r to t) := by
  subst hK
  exact pe_bm pa slot hty hm ho ha hbase few hline hs plain
/-- sorted(set(..)) of offers, told for the list that stands at U -/
theorem set_offs {K : PySem.W.Frag} {P : Program} {w : World} {H : Hp} {U : Addr} {ks : List (Addr × Of)} {k : Nat} (hU : H U = some (.lst (ks.map fun e => V.ref e.1))) (hk : ∀ e ∈ ks, OffAt H e.1 e.2 ∧ OfOk k e.2) (k4 : k ≤ 4) (h64 : ks.length < 64)
    {Q : VK} (q : ∀ H' t (qs : List Addr) (L : List Of), Same H H' → H' t = some (.lst (qs.map V.ref)) → OffsAt H' qs L → (∀ o ∈ L, OfOk k o) → L.length < 64 → (∀ e ∈ ks, e.2 ∈ L) → Q (.ref t) H') :
    rSetOfT K P w [.ref U] H fun x H1 => rSortedT K P w [x] H1 Q := by
  have lm : (ks.map fun e => (e.1, e.2.ns)).map (fun p : Addr × List Int => V.ref p.1) = ks.map fun e => V.ref e.1 := by
    rw [List.map_map]
    rfl
  refine ⟨U, ks.map fun e => (e.1, e.2.ns), rfl, ?_, fun p hp => ?_, by rw [List.length_map]; exact h64, fun a L na hL hM => ?_⟩
  · rw [lm]
    exact SqL.of hU
  · obtain ⟨e, he, rfl⟩ := List.mem_map.mp hp
    exact SqT.of (hk e he).1
  have sa := same_upd (o := SetTO P w a L) na
  have own : ∀ p ∈ L, ∃ e ∈ ks, p = (e.1, e.2.ns) := fun p hp => by
    obtain ⟨e, he, h⟩ := List.mem_map.mp (hL p hp)
    exact ⟨e, he, h.symm⟩
  refine ⟨a, L, 4, 100, rfl, upd_same, fun p hp => ?_, by decide, fun p hp => ?_, fun L' r pm nd l64 pw nr => ?_⟩
  · obtain ⟨e, he, rfl⟩ := own p hp
    exact SqT.of (sa _ _ (hk e he).1)
  · obtain ⟨e, he, rfl⟩ := own p hp
    exact bd_ns (hk e he).2 k4
  have sr := same_upd (o := .lst (L'.map fun q => V.ref q.1)) nr
  have s := sa.trans sr
  refine q _ r (L'.map (·.1)) (L'.map fun p => ofNs p.2) s (by rw [upd_same, List.map_map]; rfl) (offs_of L' fun p hp => ?_) (fun o ho => ?_) (by rw [List.length_map]; exact l64) (fun e he => ?_)
  · obtain ⟨e, he, rfl⟩ := own p (pm.mem_iff.mp hp)
    exact ⟨e.2, rfl, s _ _ (hk e he).1⟩
  · obtain ⟨p, hp, rfl⟩ := List.mem_map.mp ho
    obtain ⟨e, he, rfl⟩ := own p (pm.mem_iff.mp hp)
    show OfOk k (ofNs e.2.ns)
    rw [ofNs_ns]
    exact (hk e he).2
  · have m := hM (e.1, e.2.ns) (List.mem_map.mpr ⟨e, he, rfl⟩)
    obtain ⟨p, hp, ep⟩ := List.mem_map.mp m
    refine List.mem_map.mpr ⟨p, pm.mem_iff.mpr hp, ?_⟩
    show ofNs p.2 = e.2
    rw [show p.2 = e.2.ns from ep, ofNs_ns]
/-- offers as data -/
def ofD (o : Of) : PyData := .tuple (o.ns.map PyData.int)
theorem DpAll.ints {K : PySem.W.Frag} {H : Hp} : ∀ xs : List Int, DpAll K H (xs.map V.int) (xs.map PyData.int)
  | [] => .nil
  | x :: xs => .cons (.int x) (DpAll.ints xs)
theorem dp_off {K : PySem.W.Frag} {H : Hp} {q : Addr} {o : Of} (h : OffAt H q o) : Dp K H (.ref q) (ofD o) := .tup (SqT.of h) (DpAll.ints o.ns)
theorem dp_offs {K : PySem.W.Frag} {H : Hp} : ∀ {qs : List Addr} {L : List Of}, OffsAt H qs L → DpAll K H (qs.map V.ref) (L.map ofD)
  | [], [], _ => .nil
  | [], _ :: _, h => nomatch h.1
  | _ :: _, [], h => nomatch h.1
  | q :: qs, o :: L, h => by
    obtain ⟨o', e1, h1⟩ := h.2 0 q rfl
    have e1 : o = o' := Option.some.inj e1
    subst e1
    exact .cons (dp_off h1) (dp_offs ⟨Nat.succ.inj h.1, fun i q e => h.2 (i + 1) q e⟩)
theorem ofD_lay (o : Of) : (ofD o).canLay0 = true := by simp [ofD, Of.ns, PyData.canLay0, PyData.canLayAll0]
theorem ofD_depth (o : Of) : (ofD o).depth ≤ 2 := by simp [ofD, Of.ns, PyData.depth, PyData.depthAll]
theorem ofDs_lay : ∀ L : List Of, PyData.canLayAll0 (L.map ofD) = true
  | [] => by simp [PyData.canLayAll0]
  | z :: zs => by simp [PyData.canLayAll0, ofD_lay z, ofDs_lay zs]
theorem ofDs_depth : ∀ L : List Of, PyData.depthAll (L.map ofD) ≤ 2
  | [] => by simp [PyData.depthAll]
  | z :: zs => by
    have h1 := ofDs_depth zs
    have h2 := ofD_depth z
    simp only [List.map_cons, PyData.depthAll]
    omega
theorem ofD_shaped (o : Of) : SeqAt.shaped (ofD o) = true := by
  have h := ofD_depth o
  show ((ofD o).canLay0 && decide ((ofD o).depth ≤ 64)) = true
  rw [Bool.and_eq_true]
  exact ⟨ofD_lay o, decide_eq_true (by omega)⟩
theorem ofDs_shaped (L : List Of) : SeqAt.shaped (.list (L.map ofD)) = true := by
  have h1 := ofDs_depth L
  have h2 : PyData.depth (.list (L.map ofD)) ≤ 64 := by
    simp only [PyData.depth]
    omega
  show (PyData.canLay0 (.list (L.map ofD)) && decide (PyData.depth (.list (L.map ofD)) ≤ 64)) = true
  rw [Bool.and_eq_true]
  exact ⟨by simp only [PyData.canLay0]; exact ofDs_lay L, decide_eq_true h2⟩
theorem ofD_self (o : Of) : PyData.eqv (ofD o) (ofD o) = true := by simp [ofD, Of.ns, PyData.eqv, PyData.eqvAll]
/-- the first place where something holds -/
theorem first_ix {α : Type} (p : α → Bool) : ∀ (ds : List α), (∃ z ∈ ds, p z = true) → ∃ (j : Nat) (z : α), j < ds.length ∧ ds[j]? = some z ∧ p z = true ∧ ∀ (m : Nat) (z' : α), m < j → ds[m]? = some z' → p z' = false
  | [], ⟨_, h, _⟩ => nomatch h
  | d :: ds, ⟨z, hz, h⟩ => by
    cases e : p d with
    | true => exact ⟨0, d, Nat.succ_pos _, rfl, e, fun m z' hm => absurd hm (Nat.not_lt_zero m)⟩
    | false =>
      have hz : z ∈ ds := by
        rcases List.mem_cons.mp hz with rfl | hz
        · rw [e] at h; cases h
        · exact hz
      obtain ⟨j, y, h0, h1, h2, h3⟩ := first_ix p ds ⟨z, hz, h⟩
      refine ⟨j + 1, y, Nat.succ_lt_succ h0, h1, h2, fun m z' hm hz' => ?_⟩
      cases m with
      | zero => cases hz'; exact e
      | succ m => exact h3 m z' (Nat.lt_of_succ_lt_succ hm) hz'
def ixOf (L : List Of) (o : Of) : Nat := (L.map ofD).findIdx fun z => PyData.eqv z (ofD o)
theorem ixOf_ok {L : List Of} {o : Of} (h : o ∈ L) : ixOf L o < L.length ∧ ∃ z, (L.map ofD)[ixOf L o]? = some z ∧ PyData.eqv z (ofD o) = true ∧ ∀ (m : Nat) (z' : PyData), m < ixOf L o → (L.map ofD)[m]? = some z' → PyData.eqv z' (ofD o) = false := by
  have h1 : ixOf L o < (L.map ofD).length := List.findIdx_lt_length_of_exists ⟨ofD o, List.mem_map.mpr ⟨o, h, rfl⟩, ofD_self o⟩
  refine ⟨by rwa [List.length_map] at h1, _, List.getElem?_eq_getElem h1, List.findIdx_getElem (p := fun z => PyData.eqv z (ofD o)) (w := h1), fun m z' hm hz => ?_⟩
  obtain ⟨hl, rfl⟩ := List.getElem?_eq_some_iff.mp hz
  have := List.not_of_lt_findIdx (p := fun z => PyData.eqv z (ofD o)) hm
  simpa using this
/-- the offers of a list in pairs with where they stand -/
theorem offs_pairs {H : Hp} : ∀ {qs : List Addr} {L : List Of}, OffsAt H qs L → ∃ ps : List (Addr × Of), (ps.map fun e => V.ref e.1) = qs.map V.ref ∧ ps.length = L.length ∧ ∀ e ∈ ps, OffAt H e.1 e.2 ∧ e.2 ∈ L
  | [], [], _ => ⟨[], rfl, rfl, fun e he => nomatch he⟩
  | [], _ :: _, h => nomatch h.1
  | _ :: _, [], h => nomatch h.1
  | q :: qs, o :: L, h => by
    obtain ⟨o', e1, h1⟩ := h.2 0 q rfl
    have e1 : o = o' := Option.some.inj e1
    subst e1
    obtain ⟨ps, p1, p2, p3⟩ := offs_pairs (H := H) (qs := qs) (L := L) ⟨Nat.succ.inj h.1, fun i q e => h.2 (i + 1) q e⟩
    refine ⟨(q, o) :: ps, by rw [List.map_cons, List.map_cons, p1], by rw [List.length_cons, List.length_cons, p2], fun e he => ?_⟩
    rcases List.mem_cons.mp he with rfl | he
    · exact ⟨h1, List.mem_cons_self ..⟩
    · exact ⟨(p3 e he).1, List.mem_cons_of_mem _ (p3 e he).2⟩
/-- the ring found so far -/
def RW (p l U : Addr) (k : Nat) (n : Int) (H : Hp) (i : Nat) (σ : L2.St) (H' : Hp) : Prop := ∃ (n' : Int) (ks : List (Addr × Of)) (v3 v4 v5 v6 : Option V), σ = [some (.ref p), some (.int (k : Int)), some (.ref U), v3, v4, v5, v6] ∧ Deck H' p l n' ∧ n ≤ n' ∧ n' ≤ n + 2 * (i : Int) ∧ Fr p l H H' ∧
      H' U = some (.lst (ks.map fun e => V.ref e.1)) ∧ ks.length = i ∧ ∀ e ∈ ks, OffAt H' e.1 e.2 ∧ OfOk k e.2
def sp_l_ring (_ : PySem.W.Frag) : Sp := fun vs H Q _ => ∃ (p l : Addr) (n : Int) (k : Nat), vs = [.ref p, .int (k : Int)] ∧ Deck H p l n ∧ 0 ≤ n ∧ n ≤ 800000 ∧ 2 ≤ k ∧ k ≤ 4 ∧
  ∀ H' b d r L (is : List Nat) n', Fr p l H H' → Deck H' p l n' → n ≤ n' → n' ≤ n + 300 → H' b = some (.tup [.ref d, .ref r]) → BoardAt H' d k L → (∀ o ∈ L, OfOk k o) → (L.length : Int) ≤ 63 → H' r = some (.tup ((is.map fun i : Nat => (i : Int)).map V.int)) → is.length = k → (∀ i ∈ is, i < L.length) → Q (.ref b) H'
section
variable {P : Program} {w : World} {K : PySem.W.Frag} {mg : Str → Option Value} {base : Heap}
abbrev s_l_ring : Stmt := topS 16
abbrev N_l_ring : List Str := ["_law_deck_here", "_law_kinds", "_law_ring_here", "_law_a", "_law_x", "_law_offers", "_law_offer"]
theorem sc_l_ring : FnScope N_l_ring ["_law_deck_here", "_law_kinds"] (defScope s_l_ring) := ⟨rfl, rfl, rfl, by decide +kernel, rfl, by decide +kernel, by decide +kernel⟩
theorem ok_l_ring (T : Txt mg) (D : Df K mg "_law_ring" s_l_ring ["_law_deck_here", "_law_kinds"]) (C_l_board : Cal P w K mg base "_law_board" ["_law_deck_here", "_law_kinds", "_law_many", "_law_upto"] 2 (sp_l_board K)) (C_l_draw : Cal P w K mg base "_law_draw" ["_law_deck_here", "_law_many"] 1 (sp_l_draw K)) : Cal P w K mg base "_law_ring" ["_law_deck_here", "_law_kinds"] 3 (sp_l_ring K) := by
  obtain ⟨f_l_board, fd_l_board, G_l_board, m_l_board, k_l_board, b_l_board⟩ := C_l_board
  obtain ⟨f_l_draw, fd_l_draw, G_l_draw, m_l_draw, k_l_draw, b_l_draw⟩ := C_l_draw
  refine D.cal sc_l_ring (fun vs H Q E h => ?_) (fun f cdv A outer s H vs Q E hr h => ?_)
  · obtain ⟨p, l, n, k, rfl, _⟩ := h
    rfl
  obtain ⟨p, l, n, k, rfl, D0, n0, n1, k2, k4, kk⟩ := h
  refine ⟨_, (pss_cons (ps_set (i := 2) sc_l_ring.nd rfl (Or.inl rfl) (pe_lst pa_nil))
    (pss_cons (ps_for PassesOwn.never rfl (pi_range1 (by rfl) T.n_range (pa_cons (pv 1) pa_nil)) (pg_name (i := 3) sc_l_ring.nd rfl (Or.inl rfl))
      (pss_cons (ps_set (i := 4) sc_l_ring.nd rfl (Or.inl rfl) (pe_op op_add pe_int (pe_call G_l_draw (hr.mono (by decide)) (by rfl) m_l_draw k_l_draw b_l_draw .nil pass0 (pa_cons (pv 0) (pa_cons pe_int pa_nil)))))
    (pss_one (ps_expr (pe_bm PySem.F.plainAttrs_list PySem.F.slot_list_append PySem.F.type_list_append mt_append (pv 2) (pa_cons (pe_tup (pa_cons (pv 3) (pa_cons (pv 4) (pa_cons (pe_op op_modN (pe_callTy call_int1 (by rfl) T.n_int (by decide +kernel) (pa_cons (pe_op op_add (pv 3) pe_int) pa_nil)) (pv 1)) (pa_cons (pe_callB (call_max2 rfl) (by rfl) T.n_max (by decide +kernel) (pa_cons pe_int (pa_cons (pe_op op_add (pe_op op_sub (pv 4) pe_int) (pe_call G_l_draw (hr.mono (by decide)) (by rfl) m_l_draw k_l_draw b_l_draw .nil pass0 (pa_cons (pv 0) (pa_cons pe_int pa_nil)))) pa_nil))) pa_nil))))) pa_nil))))))
    (pss_cons (ps_set (i := 5) sc_l_ring.nd rfl (Or.inr rfl) (pe_callB (cr_sortedT rfl) (by rfl) T.n_sorted (by decide +kernel) (pa_cons (pe_callTy (cr_setOfT rfl hr.units) (by rfl) T.n_set (by decide +kernel) (pa_cons (pe_op op_cat (pv 2) (pe_callTy call_list_of (by rfl) T.n_list (by decide +kernel) (pa_cons (pe_ix ix_tup (pe_call G_l_board (hr.mono (by decide)) (by rfl) m_l_board k_l_board b_l_board .nil pass0 (pa_cons (pv 0) (pa_cons (pv 1) (pa_cons (pe_call G_l_draw (hr.mono (by decide)) (by rfl) m_l_draw k_l_draw b_l_draw .nil pass0 (pa_cons (pv 0) (pa_cons pe_int pa_nil))) (pa_cons pe_int pa_nil))))) pe_int (fun _ _ => rfl)) pa_nil))) pa_nil)) pa_nil)))
    (pss_one (ps_ret (pe_tup (pa_cons (pe_tup (pa_cons (pv 1) (pa_cons (pe_callTy call_tuple_of (by rfl) T.n_tuple (by decide +kernel) (pa_cons (pv 5) pa_nil)) pa_nil))) (pa_cons (pe_callTy call_tuple_of (by rfl) T.n_tuple (by decide +kernel) (pa_cons (pe_lc (own := [("_law_offer", 6)]) (g := gName 6) (tt := tYes) rfl sc_l_ring.nd (pi_list (pv 2)) (blkOk_by (own := [("_law_offer", 6)]) (N := N_l_ring) (sc := defScope s_l_ring) (by decide +kernel)) (fun _ _ _ _ _ => pg_name (i := 6) sc_l_ring.nd rfl (Or.inl rfl)) (fun _ _ _ _ _ => pts_nil) (fun _ _ _ _ _ => (pe_bmK (K := K) rfl PySem.F.plainAttrs_list PySem.F.slot_list_index PySem.F.type_list_index (show MtR _ "list.index" (rIndexD K) from mt_indexD (un65 hr)) (pv 5) (pa_cons (pv 6) pa_nil)))) pa_nil)) pa_nil)))))))), ?_⟩
  refine ⟨(by show 0 ≤ sizeLine; decide), fun U nU => ?_⟩
  obtain ⟨Up, Ul⟩ := D0.lne nU
  have sU := same_upd (o := .lst []) nU
  have hn : ∀ b o, H b = some o → b ≠ U := fun b o hb => ne_of_none hb nU
  refine ⟨_, rfl, (k : Int), rfl, (by omega), (by omega), ?_⟩
  refine for_range (lo := 0) (n := _) (RW p l U k n H)
    ⟨n, [], none, none, none, none, rfl, D0.same sU, by omega, by omega, Same.fr sU, upd_same, rfl, fun e he => nomatch he⟩ ?_ ?_
  · rintro i σ H2 hi ⟨n', ks, v3, v4, v5, v6, rfl, D2, m0, m1, f2, hU, kl, hk⟩
    have hi : i < (k : Int).toNat := hi
    have hi : i < k := by omega
    refine ⟨_, rfl, p, l, n', _, rfl, D2, by omega, by omega, by omega, by omega, fun rx H3 x0 x1 f3 D3 => ?_⟩
    refine ⟨_, _, rfl, rfl, ?_⟩
    refine ⟨_, rfl, .inl ⟨rfl, _, SqL.of (f3 U _ Up Ul hU)⟩, ?_⟩
    refine ⟨_, rfl, _, rfl, _, rfl, _, _, rfl, rfl, .inl ⟨_, rfl, _, rfl, _, _, rfl, rfl, (show (k : Int) ≠ 0 by omega), ?_⟩⟩
    refine ⟨_, rfl, _, _, rfl, rfl, _, rfl, p, l, n' + 1, _, rfl, D3, by omega, by omega, by omega, by omega, fun ry H4 y0 y1 f4 D4 => ?_⟩
    refine ⟨_, _, rfl, rfl, _, _, rfl, (by show 4 ≤ sizeLine; decide), fun t nt => ?_⟩
    have hU4 := f4 U _ Up Ul (f3 U _ Up Ul hU)
    have ft := f3.trans f4
    have fm : (0 + (i : Int) + 1).fmod (k : Int) = (0 + (i : Int) + 1) % (k : Int) := fmod_pos (by omega)
    have c0 : 0 ≤ (0 + (i : Int) + 1).fmod (k : Int) := by rw [fm]; exact Int.emod_nonneg _ (by omega)
    have c1 : (0 + (i : Int) + 1).fmod (k : Int) < (k : Int) := by rw [fm]; exact Int.emod_lt_of_pos _ (by omega)
    have cn : (0 + (i : Int) + 1).fmod (k : Int) ≠ 0 + (i : Int) := by
      rw [fm]
      obtain rfl | rfl | rfl : k = 2 ∨ k = 3 ∨ k = 4 := by omega
      · show (0 + (i : Int) + 1) % 2 ≠ _
        omega
      · show (0 + (i : Int) + 1) % 3 ≠ _
        omega
      · show (0 + (i : Int) + 1) % 4 ≠ _
        omega
    have z0 : 0 ≤ (if 1 + rx - 1 + ry > 0 then 1 + rx - 1 + ry else 0) := by split <;> omega
    have z1 : (if 1 + rx - 1 + ry > 0 then 1 + rx - 1 + ry else 0) ≤ 30 := by split <;> omega
    have st := same_upd (o := .tup [.int (0 + (i : Int)), .int (1 + rx), .int ((0 + (i : Int) + 1).fmod (k : Int)), .int (if 1 + rx - 1 + ry > 0 then 1 + rx - 1 + ry else 0)]) nt
    have neU : ∀ b xs, upd H4 t (.tup [.int (0 + (i : Int)), .int (1 + rx), .int ((0 + (i : Int) + 1).fmod (k : Int)), .int (if 1 + rx - 1 + ry > 0 then 1 + rx - 1 + ry else 0)]) b = some (.tup xs) → b ≠ U := fun b xs hb => ne_of hb (st _ _ hU4) (by intro q; cases q)
    refine ⟨U, _, _, rfl, rfl, st _ _ hU4, ?_, ?_⟩
    · rw [List.length_map, kl]
      exact Nat.lt_of_le_of_lt (show i ≤ 40 by omega) (by decide)
    refine ⟨n' + 1 + 1, ks ++ [(t, ⟨i, 1 + rx, ((0 + (i : Int) + 1).fmod (k : Int)).toNat, (if 1 + rx - 1 + ry > 0 then 1 + rx - 1 + ry else 0)⟩)], _, _, _, _, rfl, ⟨by rw [upd_ne Up.symm]; exact (D4.same st).hp, ?_⟩, by omega, by omega, ?_, ?_, ?_, ?_⟩
    · obtain ⟨cells, q1, q2⟩ := (D4.same st).hl
      exact ⟨cells, by rw [upd_ne Ul.symm]; exact q1, q2⟩
    · have fq := f2.trans (ft.trans (Same.fr st))
      intro b o h1 h2 hb
      rw [upd_ne (hn b o hb)]
      exact fq b o h1 h2 hb
    · rw [upd_same, List.map_append]
      rfl
    · rw [List.length_append, List.length_singleton, kl]
    · intro e he
      rcases List.mem_append.mp he with he | he
      · have h1 := st _ _ (ft.tup D2 (hk e he).1)
        refine ⟨?_, (hk e he).2⟩
        unfold OffAt
        rw [upd_ne (neU _ _ h1)]
        exact h1
      · rw [List.mem_singleton.mp he]
        refine ⟨?_, ⟨hi, by show ((0 + (i : Int) + 1).fmod (k : Int)).toNat < k; omega, by show i ≠ ((0 + (i : Int) + 1).fmod (k : Int)).toNat; omega, by show 1 ≤ 1 + rx; omega, by show 1 + rx ≤ 30; omega, z0, z1⟩⟩
        unfold OffAt
        rw [upd_ne (neU _ _ upd_same), upd_same]
        show some (HO.tup [.int (0 + (i : Int)), .int (1 + rx), .int ((0 + (i : Int) + 1).fmod (k : Int)), .int (if 1 + rx - 1 + ry > 0 then 1 + rx - 1 + ry else 0)]) = some (.tup [.int (i : Int), .int (1 + rx), .int (((0 + (i : Int) + 1).fmod (k : Int)).toNat : Int), .int (if 1 + rx - 1 + ry > 0 then 1 + rx - 1 + ry else 0)])
        rw [Int.toNat_of_nonneg c0, Int.zero_add]
  · rintro σ H2 ⟨n', ks, v3, v4, v5, v6, rfl, D2, m0, m1, f2, hU, kl, hk⟩
    have kl : ks.length = k := by rw [kl]; show (k : Int).toNat = k; omega
    refine ⟨_, rfl, _, rfl, _, rfl, _, rfl, p, l, n', _, rfl, D2, by omega, by omega, by omega, by omega, fun rm H3 b0 b1 f3 D3 => ?_⟩
    refine ⟨p, l, n' + 1, k, rm, 8, rfl, D3, by omega, by omega, k2, k4, b0, by omega, by omega, by omega, fun H4 d LB n4 f4 D4 e0 e1 hB okB lB => ?_⟩
    obtain ⟨t, qs, hd, ht, hL⟩ := hB
    refine ⟨_, _, _, _, rfl, rfl, SqT.of hd, atI_nat (j := 1) rfl, ?_⟩
    refine ⟨t, _, rfl, .inr (SqT.of ht), fun W nW => ?_⟩
    have sW := same_upd (o := .lst (qs.map V.ref)) nW
    have hU4 := f4 U _ Up Ul (f3 U _ Up Ul hU)
    have kb : (qs.map V.ref).length = LB.length := by rw [List.length_map, hL.1]
    have hle : ks.length + LB.length ≤ 20 := by omega
    refine ⟨U, W, _, _, rfl, rfl, sW _ _ hU4, upd_same, by rw [List.length_map, kb]; exact Nat.le_trans hle (by decide), fun q nq => ?_⟩
    have sq := same_upd (o := .lst ((ks.map fun e => V.ref e.1) ++ qs.map V.ref)) nq
    have s4 := sW.trans sq
    obtain ⟨ps, p1, p2, p3⟩ := offs_pairs (hL.same s4)
    have hq : upd (upd H4 W (.lst (qs.map V.ref))) q (.lst ((ks.map fun e => V.ref e.1) ++ qs.map V.ref)) q = some (.lst ((ks ++ ps).map fun e => V.ref e.1)) := by
      rw [upd_same, List.map_append, p1]
    have ft := f3.trans (f4.trans (Same.fr s4))
    have old : ∀ e ∈ ks, OffAt (upd (upd H4 W (.lst (qs.map V.ref))) q (.lst ((ks.map fun e => V.ref e.1) ++ qs.map V.ref))) e.1 e.2 := fun e he => ft.tup D2 (hk e he).1
    have hU5 := s4 _ _ hU4
    generalize upd (upd H4 W (.lst (qs.map V.ref))) q (.lst ((ks.map fun e => V.ref e.1) ++ qs.map V.ref)) = H5 at *
    refine set_offs (K := K) (P := P) (w := w) (k := k) (Q := fun y H2 => gName 5 y _ H2 _) hq (fun e he => ?_) k4 (by rw [List.length_append]; omega) fun H6 u us L s6 hu hL6 ok l64 mem => ?_
    · rcases List.mem_append.mp he with he | he
      · exact ⟨old e he, (hk e he).2⟩
      · exact ⟨(p3 e he).1, okB _ (p3 e he).2⟩
    have fa := f2.trans (ft.trans (Same.fr s6))
    have ks6 : ∀ e ∈ ks, OffAt H6 e.1 e.2 := fun e he => s6 _ _ (old e he)
    have D6 := (D4.same s4).same s6
    have hU6 := s6 _ _ hU5
    have mem : ∀ e ∈ ks, e.2 ∈ L := fun e he => mem e (List.mem_append_left _ he)
    refine ⟨_, rfl, _, rfl, u, _, rfl, .inl ⟨SqL.of hu, fun t1 nt1 => ⟨(by show 2 ≤ sizeLine; decide), fun d1 nd1 => ?_⟩⟩⟩
    have sa := (same_upd (o := .tup (us.map V.ref)) nt1)
    have sb := sa.trans (same_upd (o := .tup [.int (k : Int), .ref t1]) nd1)
    have ht1 : upd (upd H6 t1 (.tup (us.map V.ref))) d1 (.tup [.int (k : Int), .ref t1]) t1 = some (.tup (us.map V.ref)) := same_upd (o := .tup [.int (k : Int), .ref t1]) nd1 _ _ upd_same
    have hd1 : upd (upd H6 t1 (.tup (us.map V.ref))) d1 (.tup [.int (k : Int), .ref t1]) d1 = some (.tup [.int (k : Int), .ref t1]) := upd_same
    refine ⟨_, rfl, U, rfl, ⟨_, SqL.of (sb _ _ hU6)⟩, fun R nR => ?_⟩
    refine lc_mL (fun j => .int ((ixOf L (ks.getD j (0, of0)).2 : Nat) : Int)) (sb _ _ hU6) nR (by rw [List.length_map]; omega) ?_ gName_mono ?_
    · intro j x H' hx s' R' hR
      obtain ⟨e, he, rfl⟩ : ∃ e, ks[j]? = some e ∧ V.ref e.1 = x := by
        rw [List.getElem?_map] at hx
        cases z : ks[j]? with
        | none => rw [z] at hx; cases hx
        | some e => rw [z] at hx; exact ⟨e, rfl, Option.some.inj hx⟩
      have me := List.mem_of_getElem? he
      obtain ⟨_, z, h1, h2, h3⟩ := ixOf_ok (mem e me)
      have eg : ks.getD j (0, of0) = e := by rw [List.getD_eq_getElem?_getD, he]; rfl
      have hR := hR H' (Same.refl _)
      rw [eg] at hR
      exact ⟨rfl, _, rfl, .inl ⟨rfl, _, SqL.of ((sb.trans s') _ _ hu)⟩, _, rfl, u, _, ofD e.2, L.map ofD, ixOf L e.2, z, rfl, rfl, .lst (SqL.of ((sb.trans s') _ _ hu)) (dp_offs (hL6.same (sb.trans s'))), dp_off ((sb.trans s') _ _ (ks6 e me)), ofDs_shaped L, ofD_shaped _, h1, h2, h3, hR⟩
    intro H9 s9 hR
    rw [List.length_map, map_rng (fun e => V.int ((ixOf L e.2 : Nat) : Int)) ks (0, of0) _ (fun j d e => by rw [List.getD_eq_getElem?_getD, e]; rfl)] at hR
    refine ⟨R, _, rfl, .inl ⟨SqL.of hR, fun r nr => ⟨(by show 2 ≤ sizeLine; decide), fun b nb => ?_⟩⟩⟩
    have sc := (same_upd (o := .tup (ks.map fun e => V.int ((ixOf L e.2 : Nat) : Int))) nr).trans (same_upd (o := .tup [.ref d1, .ref r]) nb)
    have sd := sb.trans (s9.trans sc)
    refine kk _ b d1 r L (ks.map fun e => ixOf L e.2) n4 (fa.trans (Same.fr sd)) (D6.same sd) (by omega) (by omega) upd_same ⟨t1, us, sc _ _ (s9 _ _ hd1), sc _ _ (s9 _ _ ht1), hL6.same sd⟩ ok (by omega) ?_ (by rw [List.length_map, kl]) fun i hi => ?_
    · rw [upd_ne (ne_of_none upd_same nb), upd_same, List.map_map, List.map_map]
      rfl
    · obtain ⟨e, he, rfl⟩ := List.mem_map.mp hi
      exact (ixOf_ok (mem e he)).1
end
end Sm

/-! ### how often each offer of a loop is used: step by step, and by products through their gcd -/
set_option Elab.async false
set_option linter.all false
namespace Sm
def gcdL (l : List Nat) : Nat := l.foldl Nat.gcd 0
theorem gcdL_app (l : List Nat) (a : Nat) : gcdL (l ++ [a]) = Nat.gcd (gcdL l) a := by
  unfold gcdL
  rw [List.foldl_append]
  rfl
theorem foldl_gcd (c : Nat) : ∀ (l : List Nat) (a : Nat), (l.map (c * ·)).foldl Nat.gcd (c * a) = c * l.foldl Nat.gcd a
  | [], _ => rfl
  | x :: l, a => by
    show (l.map (c * ·)).foldl Nat.gcd (Nat.gcd (c * a) (c * x)) = c * l.foldl Nat.gcd (Nat.gcd a x)
    rw [Nat.gcd_mul_left]
    exact foldl_gcd c l _
theorem gcdL_mul (c : Nat) (l : List Nat) : gcdL (l.map (c * ·)) = c * gcdL l := foldl_gcd c l 0
/-- one more offer: the program's step -/
def stepT (ts : List Nat) (given x : Nat) : List Nat := ts.map (· * (x / Nat.gcd given x)) ++ [given * (x / Nat.gcd given x) / x]
theorem step_one {ts : List Nat} {given x : Nat} (h : gcdL ts = 1) (x0 : 0 < x) : gcdL (stepT ts given x) = 1 := by
  have g0 : 0 < Nat.gcd given x := Nat.gcd_pos_of_pos_right _ x0
  obtain ⟨b, hb⟩ := Nat.gcd_dvd_right given x
  obtain ⟨a, ha⟩ := Nat.gcd_dvd_left given x
  have eb : x / Nat.gcd given x = b := by rw [Nat.div_eq_of_eq_mul_right g0 hb]
  have ea : given * b / x = a := by
    refine Nat.div_eq_of_eq_mul_right x0 ?_
    generalize Nat.gcd given x = g at *
    rw [ha, hb, Nat.mul_assoc, Nat.mul_assoc, Nat.mul_comm a b]
  have co : Nat.gcd b a = 1 := by
    obtain ⟨G, hG⟩ : ∃ G, G = Nat.gcd given x := ⟨_, rfl⟩
    rw [← hG] at ha hb g0
    rw [ha, hb, Nat.gcd_mul_left] at hG
    rw [Nat.gcd_comm]
    exact (Nat.eq_of_mul_eq_mul_left g0 ((Nat.mul_one G).trans hG)).symm
  unfold stepT
  rw [eb, ea, gcdL_app, show (fun t : Nat => t * b) = (fun t => b * t) from funext fun t => Nat.mul_comm t b, gcdL_mul, h, Nat.mul_one]
  exact co
/-- the products grow as the times do -/
theorem step_mul {ts : List Nat} {given x g : Nat} (x0 : 0 < x) : (ts.map (g * ·)).map (· * x) ++ [g * given] = (stepT ts given x).map (g * Nat.gcd given x * ·) := by
  have g0 : 0 < Nat.gcd given x := Nat.gcd_pos_of_pos_right _ x0
  obtain ⟨b, hb⟩ := Nat.gcd_dvd_right given x
  obtain ⟨a, ha⟩ := Nat.gcd_dvd_left given x
  have eb : x / Nat.gcd given x = b := by rw [Nat.div_eq_of_eq_mul_right g0 hb]
  have ea : given * b / x = a := by
    refine Nat.div_eq_of_eq_mul_right x0 ?_
    generalize Nat.gcd given x = g at *
    rw [ha, hb, Nat.mul_assoc, Nat.mul_assoc, Nat.mul_comm a b]
  unfold stepT
  rw [eb, ea]
  generalize hG : Nat.gcd given x = G at *
  rw [List.map_append, List.map_map, List.map_map]
  congr 1
  · refine List.map_congr_left fun t _ => ?_
    show g * t * x = g * G * (t * b)
    rw [hb, Nat.mul_assoc, Nat.mul_assoc, Nat.mul_left_comm t G b]
  · show [g * given] = [g * G * a]
    rw [ha, Nat.mul_assoc]
/-- what is told of both at the end -/
theorem same_times {ns ts : List Nat} {g : Nat} (g0 : 0 < g) (h : ns = ts.map (g * ·)) (one : gcdL ts = 1) : gcdL ns = g ∧ ns.map (· / gcdL ns) = ts := by
  have e : gcdL ns = g := by rw [h, gcdL_mul, one, Nat.mul_one]
  refine ⟨e, ?_⟩
  rw [e, h, List.map_map]
  refine (List.map_congr_left fun t _ => ?_).trans (List.map_id ts)
  show g * t / g = t
  exact Nat.mul_div_cancel_left t g0
end Sm

set_option Elab.async false
set_option linter.all false
set_option maxRecDepth 100000
set_option maxHeartbeats 8000000
namespace Sm
open PySem PySem.Spec PyProof.Rows L2
/-! ### the law's numbers: of offer j the product of all y ahead of it and all x behind it -/
def xN (L : List Of) (is : List Nat) (j : Nat) : Nat := (L.getD (is.getD j 0) of0).x.toNat
def yN (L : List Of) (is : List Nat) (j : Nat) : Nat := (L.getD (is.getD j 0) of0).y.toNat
def numF (L : List Of) (is : List Nat) (j i : Nat) : Nat := if i < j then yN L is i else if j < i then xN L is i else 1
def numB (L : List Of) (is : List Nat) : Nat → Nat → Nat
  | 0, _ => 1
  | m + 1, j => numB L is m j * numF L is j m
def nums (L : List Of) (is : List Nat) : List Nat := (List.range is.length).map (numB L is is.length)
/-- the numbers of the first m offers -/
def nm (L : List Of) (is : List Nat) (m : Nat) : List Nat := (List.range m).map (numB L is m)
theorem nums_nm (L : List Of) (is : List Nat) : nums L is = nm L is is.length := rfl
theorem numB_past (L : List Of) (is : List Nat) : ∀ (m j j' : Nat), m ≤ j → m ≤ j' → numB L is m j = numB L is m j'
  | 0, _, _, _, _ => rfl
  | m + 1, j, j', h, h' => by
    show numB L is m j * numF L is j m = numB L is m j' * numF L is j' m
    rw [numB_past L is m j j' (by omega) (by omega)]
    unfold numF
    rw [if_pos (by omega), if_pos (by omega)]
/-- one offer more -/
theorem nm_step (L : List Of) (is : List Nat) (m : Nat) : nm L is (m + 2) = (nm L is (m + 1)).map (· * xN L is (m + 1)) ++ [numB L is (m + 1) m * yN L is m] := by
  unfold nm
  rw [List.range_succ, List.map_append, List.map_map]
  congr 1
  · refine List.map_congr_left fun j hj => ?_
    have hj := List.mem_range.mp hj
    show numB L is (m + 1) j * numF L is j (m + 1) = numB L is (m + 1) j * xN L is (m + 1)
    unfold numF
    rw [if_neg (by omega), if_pos hj]
  · show [numB L is (m + 1) (m + 1) * numF L is (m + 1) (m + 1)] = _
    have e1 : numF L is (m + 1) (m + 1) = 1 := by unfold numF; rw [if_neg (by omega), if_neg (by omega)]
    have e2 : numB L is (m + 1) (m + 1) = numB L is m m * yN L is m := by
      show numB L is m (m + 1) * numF L is (m + 1) m = _
      rw [numB_past L is m (m + 1) m (by omega) (Nat.le_refl m)]
      unfold numF
      rw [if_pos (by omega)]
    have e3 : numB L is (m + 1) m = numB L is m m := by
      show numB L is m m * numF L is m m = _
      unfold numF
      rw [if_neg (by omega), if_neg (by omega), Nat.mul_one]
    rw [e1, e2, e3, Nat.mul_one]
/-- the program's times after m offers -/
def tsB (L : List Of) (is : List Nat) : Nat → List Nat
  | 0 => []
  | 1 => [1]
  | m + 2 => stepT (tsB L is (m + 1)) ((tsB L is (m + 1)).getD m 0 * yN L is m) (xN L is (m + 1))
theorem tsB_len (L : List Of) (is : List Nat) : ∀ m, (tsB L is m).length = m
  | 0 => rfl
  | 1 => rfl
  | m + 2 => by
    show (stepT (tsB L is (m + 1)) _ _).length = m + 2
    unfold stepT
    rw [List.length_append, List.length_map, List.length_singleton, tsB_len L is (m + 1)]
theorem nm_len (L : List Of) (is : List Nat) (m : Nat) : (nm L is m).length = m := by unfold nm; rw [List.length_map, List.length_range]
/-- the numbers are the times, each as many times -/
theorem nm_ts (L : List Of) (is : List Nat) : ∀ m, (∀ j, j ≤ m → 1 ≤ xN L is j) → ∃ g, 0 < g ∧ nm L is (m + 1) = (tsB L is (m + 1)).map (g * ·) ∧ gcdL (tsB L is (m + 1)) = 1
  | 0, _ => ⟨1, by decide, rfl, rfl⟩
  | m + 1, hx => by
    obtain ⟨g, g0, e, one⟩ := nm_ts L is m fun j hj => hx j (by omega)
    have x0 : 0 < xN L is (m + 1) := hx (m + 1) (Nat.le_refl _)
    refine ⟨g * Nat.gcd ((tsB L is (m + 1)).getD m 0 * yN L is m) (xN L is (m + 1)), Nat.mul_pos g0 (Nat.gcd_pos_of_pos_right _ x0), ?_, step_one one x0⟩
    rw [nm_step]
    have last : numB L is (m + 1) m = g * (tsB L is (m + 1)).getD m 0 := by
      have h1 : (nm L is (m + 1))[m]? = some (numB L is (m + 1) m) := by
        unfold nm
        rw [List.getElem?_map, List.getElem?_range (by omega)]
        rfl
      rw [e, List.getElem?_map, List.getElem?_eq_getElem (by rw [tsB_len]; omega)] at h1
      rw [List.getD_eq_getElem?_getD, List.getElem?_eq_getElem (by rw [tsB_len]; omega)]
      exact (Option.some.inj h1).symm
    rw [e, last, Nat.mul_assoc]
    exact step_mul x0
/-- what the law tells of the way is what the program tells -/
theorem due_times {L : List Of} {is : List Nat} (l1 : 1 ≤ is.length) (hx : ∀ j, j < is.length → 1 ≤ xN L is j) : 0 < gcdL (nums L is) ∧ (nums L is).map (· / gcdL (nums L is)) = tsB L is is.length := by
  obtain ⟨m, hm⟩ : ∃ m, is.length = m + 1 := ⟨is.length - 1, by omega⟩
  obtain ⟨g, g0, e, one⟩ := nm_ts L is m fun j hj => hx j (by omega)
  rw [nums_nm, hm]
  obtain ⟨h1, h2⟩ := same_times g0 e one
  exact ⟨by rw [h1]; exact g0, h2⟩
end Sm

set_option Elab.async false
set_option linter.all false
set_option maxRecDepth 100000
set_option maxHeartbeats 4000000
namespace L2
open PySem PySem.Spec PyProof.Rows
/-! ### len(set(xs)), xs a list of ints, whether or not one stands twice -/
/-- how many different ones -/
def cntS (ns : List Int) : Nat := (firstMet (fun i => ns.getD i 0) ns.length).length
theorem cntS_le (ns : List Int) : cntS ns ≤ ns.length := firstMet_length_le _ _
theorem dedup_len : ∀ (xs acc : List Int), (xs.foldl step_dedup acc).length ≤ acc.length + xs.length
  | [], acc => Nat.le_refl _
  | x :: xs, acc => by
    have h := dedup_len xs (step_dedup acc x)
    have : (step_dedup acc x).length ≤ acc.length + 1 := by
      unfold step_dedup
      split
      · omega
      · rw [List.length_append, List.length_singleton]
        omega
    rw [List.foldl_cons, List.length_cons]
    omega
theorem dedup_full : ∀ (xs acc : List Int), acc.Nodup → (xs.foldl step_dedup acc).length = acc.length + xs.length → (acc ++ xs).Nodup
  | [], acc, h, _ => by rw [List.append_nil]; exact h
  | x :: xs, acc, h, e => by
    rw [List.foldl_cons, List.length_cons] at e
    have l := dedup_len xs (step_dedup acc x)
    by_cases m : acc.any (· == x) = true
    · have s : step_dedup acc x = acc := by unfold step_dedup; rw [if_pos m]
      rw [s] at l e
      omega
    · have s : step_dedup acc x = acc ++ [x] := by unfold step_dedup; rw [if_neg m]
      have nd : (acc ++ [x]).Nodup := by
        refine List.nodup_append.mpr ⟨h, List.nodup_cons.mpr ⟨List.not_mem_nil, List.nodup_nil⟩, fun a ha b hb => ?_⟩
        rw [List.mem_singleton.mp hb]
        rintro rfl
        exact m (List.any_eq_true.mpr ⟨a, ha, beq_self_eq_true a⟩)
      have := dedup_full xs (acc ++ [x]) nd (by rw [← s, e, s, List.length_append, List.length_singleton]; omega)
      rwa [List.append_assoc, List.singleton_append] at this
theorem range_getD (ns : List Int) : (List.range ns.length).map (fun i => ns.getD i 0) = ns := by
  refine List.ext_getElem (by rw [List.length_map, List.length_range]) fun i h1 h2 => ?_
  rw [List.getElem_map, List.getElem_range, List.getD_eq_getElem?_getD, List.getElem?_eq_getElem h2]
  rfl
/-- all of them differ if none is lost -/
theorem cntS_nodup {ns : List Int} (h : cntS ns = ns.length) : ns.Nodup := by
  unfold cntS firstMet at h
  rw [range_getD] at h
  have := dedup_full ns [] List.nodup_nil (by rw [h]; show ns.length = 0 + ns.length; omega)
  exact this
variable {X : Cx}
def tLenSetA (K : PySem.W.Frag) (ta : TE) : TE := fun σ H Q => ta σ H fun x H1 => ∃ (l : Addr) (ns : List Int), x = V.ref l ∧ SqL K H1 l (ns.map V.int) ∧ ns.length < 64 ∧ Q (.int (cntS ns : Nat)) H1
theorem pe_lenSetA {a : Expr} {ta : TE} {p p2 q pos : Pos} (hc : X.calm = true) (hg : Gl X "len") (hm : X.mg "len" = none) (hg2 : Gl X "set") (hm2 : X.mg "set" = none) (ha : PE X a ta)
    (na : starEach [a] X.env = (false, eval a X.env) :: starEach [] X.env := by rfl) : PE X (.Call (.Name "len" p) [.Call (.Name "set" p2) [a] [] q] [] pos) (tLenSetA X.K ta) := by
  refine ⟨fun pins s σ H Q I h => Call_ (ld_blt I hg hm PySem.boot_len (PyProof.Rows.callWith_builtin1 (PyProof.Rows.args_cons (Call_ (ld_blt I hg2 hm2 PyProof.Rows.boot_set ?_)) rfl) rfl rfl))⟩
  refine PyProof.Rows.callWith_type1 (PyProof.Rows.args_cons (thn (ha.run pins s σ H _ I h) fun v s1 got => PyProof.Rows.args_nil ?_) na) na rfl
  obtain ⟨x, H1, I1, r1, l, ns, rfl, hq, h1, q1⟩ := got
  cases r1
  obtain ⟨its, r, pl, hz⟩ := I1.list hq
  have hl : its.toArray.size = ns.length := by rw [List.size_toArray, ← r.length, List.length_map]
  refine call_set_list (I1.ok.hd hc) pl.isList (ns := ns) (by simpa using r.ints) (by unfold scanBound; omega) fun h' tk hS hk => PyProof.Rows.args_nil ?_
  rw [hl] at hS
  obtain ⟨o, es, ep, t, ho, hex, hd, _, _, _, hf, hn⟩ := hS
  have cl : (firstMet (fun i => ns.getD i 0) ns.length).length ≤ ns.length := firstMet_length_le _ _
  exact call_len_set ho hex hd hf (by rw [hn] <;> omega) ⟨.int (cntS ns : Nat), H1, (I1.kept fun b o e => hk b o (Heap.lt_size e) e).tok _, ⟨_, by rw [hn]; rfl⟩, q1⟩
end L2

set_option Elab.async false
set_option linter.all false
set_option maxRecDepth 100000
set_option maxHeartbeats 4000000
namespace Sm
open PySem PySem.Spec PyProof.Rows L2
/-! ### zip of a tuple and a list -/
/-- the tuple at a and the list at b as they stand at each turn, the items in new pairs -/
def ItzM (K : PySem.W.Frag) (a b : Addr) : It :=
  ⟨fun i H => ∃ (xs ys : List V) (x y : V), SqT K H a xs ∧ SqL K H b ys ∧ xs[i]? = some x ∧ ys[i]? = some y,
    fun i H v H' => ∃ T x y, v = .ref T ∧ H T = none ∧ H' = upd H T (.tup [x, y]) ∧ (∀ xs, SqT K H a xs → xs[i]? = some x) ∧ ∀ ys, SqL K H b ys → ys[i]? = some y,
    fun i H => ∃ xs ys : List V, SqT K H a xs ∧ SqL K H b ys ∧ xs.length = ys.length ∧ xs.length = i⟩
/-- the cells of such a zip lie apart -/
structure ZipM (z TI TO i1 i2 a b : Addr) : Prop where
  TIz : TI ≠ z
  TOz : TO ≠ z
  TITO : TI ≠ TO
  TIi1 : TI ≠ i1
  TIi2 : TI ≠ i2
  zi1 : z ≠ i1
  zi2 : z ≠ i2
  za : z ≠ a
  zb : z ≠ b
  TOi1 : TO ≠ i1
  TOi2 : TO ≠ i2
  TOa : TO ≠ a
  TOb : TO ≠ b
  i12 : i1 ≠ i2
  i1a : a ≠ i1
  i1b : i1 ≠ b
  i2a : i2 ≠ a
  i2b : b ≠ i2
theorem ZipM.of {z TI TO i1 i2 a b : Addr} (D : ZipApart z TI TO i1 i2 a b) : ZipM z TI TO i1 i2 a b :=
  ⟨D.TIz, D.TOz, D.TITO, D.TIi1, D.TIi2, D.i1z.symm, D.i2z.symm, D.l1z.symm, D.l2z.symm, D.TOi1, D.TOi2, D.l1TO.symm, D.l2TO.symm, D.i12, D.l1i1, D.l2i1.symm, D.l1i2.symm, D.l2i2⟩
theorem ZipM.sep {z TI TO i1 i2 a b : Addr} (D : ZipM z TI TO i1 i2 a b) : ZipSep2 z TI TO i1 i2 [i1, a] [i2, b] where
  TIz := D.TIz
  TOz := D.TOz
  TITO := D.TITO
  TIi1 := D.TIi1
  mem1 := by simp
  zf1 := by simp [D.zi1, D.za]
  Tf1 := by simp [D.TOi1, D.TOa]
  TIi2 := D.TIi2
  mem2 := by simp
  zf2 := by simp [D.zi2, D.zb]
  Tf2 := by simp [D.TOi2, D.TOb]
  sep1_2 := by simp [D.i12, D.i1b]
  sep2_1 := by simp [D.i12.symm, D.i2a]
theorem turn_zipM {P : Program} {w : World} {K : PySem.W.Frag} {elts : List Expr} {kk : Nat} {tpos : Pos} {a b z TI TO i1 i2 : Addr} (D : ZipM z TI TO i1 i2 a b) :
    Turn P w K (.Tuple elts kk tpos) (ItzM K a b) [z, TI, TO, i1, i2] z (fun i h => IsZip h z TI TO .none ∧ IsTupOf2 h TI (.ref i1) (.ref i2) ∧ (∃ x y, IsTupOf2 h TO x y) ∧ h.IsTupleIter i1 a i ∧ h.IsListIter i2 b i) where
  mem := by simp
  obj := fun i h st c hc => by
    obtain ⟨hz, hTI, ⟨x, y, hTO⟩, ⟨o1, e1, _, d1⟩, ⟨o2, e2, _, d2⟩⟩ := st
    have e' : c = z ∨ c = TI ∨ c = TO ∨ c = i1 ∨ c = i2 := by simpa using hc
    rcases e' with q | q | q | q | q
    · rw [q]; exact ⟨_, hz, fun v q => nomatch q⟩
    · rw [q]; exact ⟨_, hTI, fun v q => nomatch q⟩
    · rw [q]; exact ⟨_, hTO, fun v q => nomatch q⟩
    · rw [q]; exact ⟨o1, e1, fun v q => by rw [d1] at q; cases q⟩
    · rw [q]; exact ⟨o2, e2, fun v q => by rw [d2] at q; cases q⟩
  keep := fun i h h' st k => by
    obtain ⟨hz, hTI, ⟨x, y, hTO⟩, h1, h2⟩ := st
    exact ⟨k z (by simp) _ hz, k TI (by simp) _ hTI, ⟨x, y, k TO (by simp) _ hTO⟩, h1.at fun o q => k i1 (by simp) o q, h2.at fun o q => k i2 (by simp) o q⟩
  item := by
    intro X hP hw hK hc i pins s σ H E I hf st hg
    subst hP hw hK
    obtain ⟨hz, hTI, ⟨x0, y0, hTO⟩, h1, h2⟩ := st
    obtain ⟨xs, ys, x, y, hqx, hqy, hx, hy⟩ := hg
    obtain ⟨its, rv, p, _⟩ := I.tuple hqx
    obtain ⟨its2, rv2, p2, _⟩ := I.list hqy
    obtain ⟨u, hu, ru⟩ := rv.get hx
    obtain ⟨u2, hu2, ru2⟩ := rv2.get hy
    have hzl : z < s.heap.objs.size := Heap.lt_size hz
    have n1 : i < its.toArray.size := by
      have := (List.getElem?_eq_some_iff.mp hu).1
      simpa using this
    have n2 : i < its2.toArray.size := by
      have := (List.getElem?_eq_some_iff.mp hu2).1
      simpa using this
    refine wpAny_pyNext_zipD2_item D.sep (Draws.tuple (A := X.A.in1) (I.ok.hd hc) i1 a D.i1a its.toArray) (Draws.list (A := X.A.in1) (I.ok.hd hc) i2 b D.i2b its2.toArray) hz hTI hTO ⟨h1, p⟩ ⟨h2, p2.isList⟩ n1 n2 fun y1 y2 h' tk px py z' TO' st1 st2 hT hsz hk => ?_
    have px : y1 = u := by
      have px : its[i]? = some y1 := by simpa using px
      rw [hu] at px
      exact (Option.some.inj px).symm
    have py : y2 = u2 := by
      have py : its2[i]? = some y2 := by simpa using py
      rw [hu2] at py
      exact (Option.some.inj py).symm
    subst px py
    refine ⟨_, rfl, wpAny_letOwnedTupleGo_zip (s := { s with heap := h', toks := tk }) z' fun h'' z'' sb => ?_⟩
    have hT2 : h''.get? s.heap.objs.size = some { cls := .type "tuple", data := .seq #[y1, y2] } := (sb.2 _ (Nat.ne_of_gt hzl)).trans hT
    have new : ObjOk X.prog X.w (upd H s.heap.objs.size (.tup [x, y])) h'' s.heap.objs.size (.tup [x, y]) :=
      ⟨by show 2 ≤ sizeLine; decide, [y1, y2], .cons ru (.cons ru2 .nil), ⟨_, hT2, rfl, _, rfl⟩⟩
    have I1 : Inv X pins σ (upd H s.heap.objs.size (.tup [x, y])) { s with heap := h'', toks := tk } :=
      I.turnedNew (t' := tk) (ch := [z, TI, TO, i1, i2]) (fun c o hb q => (sb.2 c (fun q' => hb (by simp [q']))).trans (hk c o (fun q' => hb (by simp [q'])) (fun q' => hb (by simp [q'])) (fun q' => hb (by simp [q'])) (fun q' => hb (by simp [q'])) q)) hf (Nat.le_refl _) new
    refine ⟨.ref s.heap.objs.size, _, I1, rfl, ⟨_, x, y, rfl, I.hok.fresh (Nat.le_refl _), rfl, fun l hl => by rw [I.tuple_inj hl hqx]; exact hx, fun l hl => by rw [I.list_inj hl hqy]; exact hy⟩, ⟨z'', ?_, ⟨y1, y2, ?_⟩, ?_, ?_⟩, fun c hcm => ?_⟩
    · exact (sb.2 _ D.TIz).trans (hk _ _ D.TIz D.TITO D.TIi1 D.TIi2 hTI)
    · exact (sb.2 _ D.TOz).trans TO'
    · exact st1.1.at fun o q => (sb.2 _ D.zi1.symm).trans q
    · exact st2.1.at fun o q => (sb.2 _ D.zi2.symm).trans q
    · have hlt : c < s.heap.objs.size := by
        have e' : c = z ∨ c = TI ∨ c = TO ∨ c = i1 ∨ c = i2 := by simpa using hcm
        rcases e' with q | q | q | q | q
        · rw [q]; exact hzl
        · rw [q]; exact Heap.lt_size hTI
        · rw [q]; exact Heap.lt_size hTO
        · rw [q]; obtain ⟨_, e1, _⟩ := h1; exact Heap.lt_size e1
        · rw [q]; obtain ⟨_, e2, _⟩ := h2; exact Heap.lt_size e2
      rw [upd_ne (Nat.ne_of_lt hlt)]
      exact (hf c hcm).1
  done := by
    intro X hP hw hK hc i pins s σ H E I hf st hg
    subst hP hw hK
    obtain ⟨hz, hTI, ⟨x0, y0, hTO⟩, h1, h2⟩ := st
    obtain ⟨xs, ys, hqx, hqy, hl, hi⟩ := hg
    obtain ⟨its, rv, p, _⟩ := I.tuple hqx
    obtain ⟨its2, rv2, p2, _⟩ := I.list hqy
    have l1 := rv.length
    have l2 := rv2.length
    have n1 : i = its.toArray.size := by rw [List.size_toArray]; omega
    have n2 : i ≤ its2.toArray.size := by rw [List.size_toArray]; omega
    exact wpAny_pyNext_zipD2_end D.sep (Draws.tuple (A := X.A.in1) (I.ok.hd hc) i1 a D.i1a its.toArray) (Draws.list (A := X.A.in1) (I.ok.hd hc) i2 b D.i2b its2.toArray) hz hTI hTO ⟨h1, p⟩ ⟨h2, p2.isList⟩ (Nat.le_of_eq n1) n2 (.inl n1) fun h' tk hk => ⟨rfl, I.turnedL (t' := tk) (ch := [z, TI, TO, i1, i2]) (fun c o hb q =>
      hk c o (fun q' => hb (by simp [q'])) (fun q' => hb (by simp [q'])) (fun q' => hb (by simp [q'])) (fun q' => hb (by simp [q'])) q) hf⟩
  self := fun A i s Q E st h => wpAny_pyIter_zip st.1 h
def iZipM (K : PySem.W.Frag) (ta : TA) : TI := fun σ H R => ta σ H fun vs H1 => ∃ a b xs ys, vs = [.ref a, .ref b] ∧ SqT K H1 a xs ∧ SqL K H1 b ys ∧ R (ItzM K a b) H1
theorem pi_zipM {X : Cx} {e e2 : Expr} {ta : TA} {p pos tpos : Pos} {elts : List Expr} {kk : Nat} (hg : Gl X "zip") (hm : X.mg "zip" = none) (ha : PA X [e, e2] ta)
    (hs : starEach [e, e2] X.env = (false, eval e X.env) :: starEach [e2] X.env := by rfl) (hpl : (backTo pos (starEach [e2] X.env)).any (·.1) = false := by rfl) :
    PI X (.Tuple elts kk tpos) (.Call (.Name "zip" p) [e, e2] [] pos) (iZipM X.K ta) := by
  refine ⟨fun pins s σ H R I h => ?_⟩
  refine Call_ (ld_blt I hg hm PyProof.Rows.boot_zip (PyProof.Rows.callWith_type1 (thn (ha.run pos pins s σ H _ I h) fun us s1 ⟨vs, H1, I1, r1, q1⟩ => ?_) hs hpl))
  obtain ⟨a, b, xs, ys, ex, hqx, hqy, q⟩ := q1
  subst ex
  cases r1 with
  | cons r rr =>
    cases rr with
    | cons r' rr =>
      cases rr
      cases r
      cases r'
      obtain ⟨its, rv, p1, _⟩ := I1.tuple hqx
      obtain ⟨its2, rv2, p2, _⟩ := I1.list hqy
      have la : a < s1.heap.objs.size := by
        obtain ⟨o, ho, _⟩ := id p1
        exact Heap.lt_size ho
      have lb : b < s1.heap.objs.size := p2.lt
      refine zip_begins2 (begins_tuple a its.toArray) (begins_list b its2.toArray) p1 p2.isList fun h' hz hTI hTO h1 h2 hsz hk => wpAny_pyIter_zip hz ?_
      have I2 : Inv X pins σ H1 { s1 with heap := h' } := I1.kept (t' := s1.toks) hk
      have D := ZipM.of (PySem.W.ktu_apart s1.heap.objs.size a b la lb)
      refine ⟨s1.heap.objs.size + 4, [s1.heap.objs.size + 4, s1.heap.objs.size + 2, s1.heap.objs.size + 3, s1.heap.objs.size, s1.heap.objs.size + 1], _, _, H1, rfl, I2, turn_zipM D, ⟨hz, hTI, ⟨_, _, hTO⟩, ⟨_, h1, rfl, rfl⟩, ⟨_, h2, rfl, rfl⟩⟩, fun c hcm => ?_, q⟩
      have e' : c = s1.heap.objs.size + 4 ∨ c = s1.heap.objs.size + 2 ∨ c = s1.heap.objs.size + 3 ∨ c = s1.heap.objs.size ∨ c = s1.heap.objs.size + 1 := by simpa using hcm
      have hle : s1.heap.objs.size ≤ c := by
        rcases e' with z | z | z | z | z <;> rw [z] <;> first | exact Nat.le_refl _ | exact Nat.le_add_right _ _
      exact I1.fpOk hle (I1.hok.fresh hle)
theorem walk_zipM {K : PySem.W.Frag} {a b : Addr} {xs ys : List V} (hl : xs.length = ys.length) : Walk (ItzM K a b) xs.length (fun H => SqT K H a xs ∧ SqL K H b ys) (YPair (fun i => xs[i]?) fun i => ys[i]?) where
  goes := fun i H hi q => ⟨xs, ys, xs[i], ys[i]'(by omega), q.1, q.2, by simp [hi], by simp [hl ▸ hi]⟩
  stops := fun H q => ⟨xs, ys, q.1, q.2, hl, rfl⟩
  yields := by
    rintro i H v H' hi q ⟨T, x, y, h1, h2, h3, h4, h5⟩
    exact ⟨T, x, y, h1, h2, h3, h4 xs q.1, h5 ys q.2⟩
end Sm

set_option Elab.async false
set_option linter.all false
set_option maxRecDepth 100000
set_option maxHeartbeats 4000000
namespace Sm
open PySem PySem.Spec PyProof.Rows L2
/-- a comprehension over zip of a tuple and a list that makes a new tuple of each pair -/
theorem lc_pM {K : PySem.W.Frag} {a b : Addr} {xs ys : List V} {n : Nat} {g : TG} {te : TE} {vs : List Nat} {σ : L2.St} {H : Hp} {D : Addr} {Qd : Hp → Prop} (fv : Nat → List V) (ha : H a = some (.tup xs)) (hb : H b = some (.lst ys)) (l1 : xs.length = n) (l2 : ys.length = n) (nD : H D = none) (ln : n ≤ 20000)
    (hs : ∀ i x y T H', xs[i]? = some x → ys[i]? = some y → Same H H' → H' T = some (.tup [x, y]) → ∀ R : VK, (∀ H4 w, Same H' H4 → H4 w = some (.tup (fv i)) → R (.ref w) H4) → g (.ref T) (wipe σ vs) H' fun σ2 H2 => wipe σ2 vs = wipe σ vs ∧ te σ2 H2 R)
    (mono : ∀ x H' (A B : L2.St → Hp → Prop), (∀ σ2 H2, A σ2 H2 → B σ2 H2) → g x (wipe σ vs) H' A → g x (wipe σ vs) H' B)
    (hd : ∀ H' (ws : List Addr), Same H H' → H' D = some (.lst (ws.map V.ref)) → ws.length = n → (∀ j w, ws[j]? = some w → H' w = some (.tup (fv j))) → Qd H') :
    ∃ W : Nat → Nat → Hp → Prop, (∃ m, W 0 m (upd H D (.lst []))) ∧ ∀ i m H, W i m H → ((ItzM K a b).stop i H ∧ Qd H) ∨ ((ItzM K a b).go i H ∧ ∃ Nx : Hp → Prop, (∀ H', Nx H' → ∃ m', m' < m ∧ W (i + 1) m' H') ∧ ∀ x H', (ItzM K a b).yld i H x H' → g x (wipe σ vs) H' fun σ2 H2 => wipe σ2 vs = wipe σ vs ∧ tYes σ2 H2 fun b H3 =>
        if b = true then te σ2 H3 fun y H4 => ∃ acc, H4 D = some (.lst acc) ∧ acc.length < sizeLine ∧ Nx (upd H4 D (.lst (acc ++ [y]))) else Nx H3) := by
  subst l1
  refine lc_it (walk_zipM (K := K) (a := a) (b := b) l2.symm) (fun i H' => ∃ ws : List Addr, Same H H' ∧ H' D = some (.lst (ws.map V.ref)) ∧ ws.length = i ∧ ∀ j w, ws[j]? = some w → H' w = some (.tup (fv j))) ⟨[], same_upd nD, upd_same, rfl, fun j w e => nomatch e⟩ (fun i H' _ h => by obtain ⟨ws, s, _⟩ := h; exact ⟨SqT.of (s _ _ ha), SqL.of (s _ _ hb)⟩) ?_ (fun H' h => by obtain ⟨ws, s, h1, h2, h3⟩ := h; exact hd H' ws s h1 h2 h3)
  rintro i x H1 H1' il ⟨ws, s, hD, hl, hw⟩ ⟨T, x1, y1, rfl, hT, rfl, hx, hy⟩
  have sT := same_upd (o := .tup [x1, y1]) hT
  refine mono _ _ _ _ ?_ (hs i x1 y1 T _ hx hy (s.trans sT) upd_same (fun y H4 => ∃ acc, H4 D = some (.lst acc) ∧ acc.length < sizeLine ∧ ∃ ws : List Addr, Same H (upd H4 D (.lst (acc ++ [y]))) ∧ upd H4 D (.lst (acc ++ [y])) D = some (.lst (ws.map V.ref)) ∧ ws.length = i + 1 ∧ ∀ j w, ws[j]? = some w → upd H4 D (.lst (acc ++ [y])) w = some (.tup (fv j))) fun H4 w s4 h4 => ?_)
  · rintro σ2 H2 ⟨e, h⟩
    refine ⟨e, ?_⟩
    unfold tYes
    exact iteT h
  have hD4 : H4 D = some (.lst (ws.map V.ref)) := s4 _ _ (sT _ _ hD)
  have off : ∀ {c : Addr} {zs : List V}, H4 c = some (.tup zs) → c ≠ D := fun h e => by
    rw [e, hD4] at h
    cases h
  refine ⟨_, hD4, ?_, ws ++ [w], fun c o hc => ?_, ?_, ?_, fun j v hj => ?_⟩
  · rw [List.length_map, hl]
    exact Nat.lt_of_le_of_lt (show i ≤ 20000 by omega) (by decide)
  · rw [upd_ne (ne_of_none hc nD)]
    exact s4 _ _ (sT _ _ (s _ _ hc))
  · rw [upd_same, List.map_append]
    rfl
  · rw [List.length_append, hl]
    rfl
  · rw [List.getElem?_append] at hj
    split at hj
    · have := s4 _ _ (sT _ _ (hw j v hj))
      rw [upd_ne (off this)]
      exact this
    · rename_i q
      have e : j = i := by
        have := (List.getElem?_eq_some_iff.mp hj).1
        rw [List.length_singleton] at this
        omega
      subst e
      rw [hl, Nat.sub_self] at hj
      cases (show w = v from Option.some.inj hj)
      rw [upd_ne (off h4)]
      exact h4
end Sm

set_option Elab.async false
set_option linter.all false
set_option maxRecDepth 100000
set_option maxHeartbeats 4000000
namespace Sm
open PySem PySem.Spec PyProof.Rows L2
/-! ### max of a tuple of ints -/
section
variable {prog : Program} {w : World} {A : Around} {E : Value → Shared → Prop} {s : Shared} {l : Addr} {its : List Value} {ns : List Int} {Q : Value → Shared → Prop}
theorem iter_intTup {xs : Array (Int × Tok)} (hl : s.heap.IsTuple l (intItems xs))
    (h : ∀ s₂ : Shared, s₂ = { s with heap := s.heap.push { cls := .type "tuple_iterator", data := .fields #[.ref l, .int 0 0] } } →
      (s₂.heap.IsTupleIter s.heap.objs.size l 0 ∧ s₂.heap.IsTuple l (intItems xs)) → (∀ b ∈ [s.heap.objs.size, l], b < s₂.heap.objs.size) → l ≠ s.heap.objs.size → Q (.ref s.heap.objs.size) s₂) :
    wpAny (model prog w) A (pyIter (.ref l)) Q E s := by
  have hlt : l < s.heap.objs.size := by obtain ⟨_, e, _⟩ := hl; exact Heap.lt_size e
  refine wpAny_pyIter_tuple hl (h _ rfl ⟨⟨_, Heap.get?_push_size _ rfl, rfl, rfl⟩, hl.push _⟩ (fun b hb => ?_) (Nat.ne_of_lt hlt))
  show b < (s.heap.push _).objs.size
  rw [Heap.size_push]
  rcases List.mem_cons.mp hb with rfl | hb
  · exact Nat.lt_succ_self _
  · rcases List.mem_cons.mp hb with rfl | hb
    · exact Nat.lt_succ_of_lt hlt
    · cases hb
theorem old_keptT {h' : Heap} (hk : ∀ b o, b ∉ [s.heap.objs.size] → (s.heap.push { cls := .type "tuple_iterator", data := .fields #[.ref l, .int 0 0] }).get? b = some o → h'.get? b = some o) :
    ∀ b o, s.heap.get? b = some o → h'.get? b = some o := fun b o e => by
  refine hk b o (fun hm => ?_) (Heap.get?_push_of_some _ e)
  rcases List.mem_cons.mp hm with e1 | hm
  · exact absurd (e1 ▸ Heap.lt_size e) (Nat.lt_irrefl _)
  · cases hm
theorem max_intTup {xs : Array (Int × Tok)} (hh : A.handled = none) (hl : s.heap.IsTuple l (intItems xs)) (hne : 0 < xs.size)
    (h : ∀ v h' tk, (intItems xs)[argBest (fun i j => decide (numAt xs i > numAt xs j)) (xs.size - 1)]? = some v → (∀ b o, s.heap.get? b = some o → h'.get? b = some o) → Q v { s with heap := h', toks := tk }) :
    wpAny (model prog w) A (call (.builtin "max") [.ref l]) Q E s := by
  have hlt : l < s.heap.objs.size := by obtain ⟨_, e, _⟩ := hl; exact Heap.lt_size e
  refine call_max_walk (iter_intTup hl fun s₂ e st hfp hlI => ?_)
  subst e
  refine ⟨_, _, _, _, _, _, _, rfl, Walks.tuple (A := A.in1) hh _ l hlI (intItems xs), st, hfp, by simpa [intItems] using hne, CmpOf.ints_gt (numAt xs) (fun _ _ => intItems_at), fun v h' tk hP hk => ?_⟩
  exact h v h' tk (by simpa [intItems] using hP) (old_keptT hk)
theorem max_rawT (hh : A.handled = none) (hl : s.heap.IsTuple l its.toArray) (hi : IntsAre its ns) (hne : 0 < ns.length)
    (h : ∀ h' tk M t', (∀ b o, s.heap.get? b = some o → h'.get? b = some o) → M ∈ ns → (∀ a, a ∈ ns → a ≤ M) → Q (.int M t') { s with heap := h', toks := tk }) : wpAny (model prog w) A (call (.builtin "max") [.ref l]) Q E s := by
  obtain ⟨xs, e⟩ := hi.allInts.items
  have hn : numsOf (intItems xs).toList = ns := by rw [← e]; exact hi.numsOf
  rw [nums_intItems] at hn
  subst hn
  rw [e] at hl
  have hsz : 0 < xs.size := by simpa using hne
  refine max_intTup hh hl hsz fun v h' tk hv hk => ?_
  obtain ⟨t, rfl⟩ := intItems_at hv
  obtain ⟨h1, h2⟩ := argBest_gt (numAt xs) (xs.size - 1)
  refine h h' tk _ t hk ?_ fun a ha => ?_
  · rw [numAt_eq]; exact PySem.getD_mem (by rw [List.length_map, Array.length_toList]; omega)
  · obtain ⟨j, hj, rfl⟩ := mem_getD ha
    rw [List.length_map, Array.length_toList] at hj
    rw [← numAt_eq]; exact h2 j (by omega)
end
section
variable {X : Cx}
def rMaxT (K : PySem.W.Frag) : List V → Hp → VK → Prop := fun vs H Q => ∃ (a : Addr) (ns : List Int), vs = [V.ref a] ∧ SqT K H a (ns.map V.int) ∧ 0 < ns.length ∧ ∀ m, m ∈ ns → (∀ y, y ∈ ns → y ≤ m) → Q (.int m) H
theorem cr_maxT (hc : X.calm = true) : CallR X (.builtin "max") (rMaxT X.K) := by
  intro pins s σ H vs us Q I r h
  obtain ⟨a, ns, rfl, hs, hne, q⟩ := h
  obtain ⟨its, rv, hl, _⟩ := I.tuple hs
  rw [Vals.ref1 r]
  exact max_rawT (I.ok.hd hc) hl (rv.ints) hne fun h' tk m t' hk h1 h2 => ⟨.int _, H, I.kept hk, ⟨_, rfl⟩, q m h1 h2⟩
end
theorem walk_zipT {K : PySem.W.Frag} {a b : Addr} {xs ys : List V} {n : Nat} (h1 : xs.length = n) (h2 : ys.length = n) : Walk (RZ.ItzT K a b) n (fun H => SqT K H a xs ∧ SqT K H b ys) (YPair (fun i => xs[i]?) (fun i => ys[i]?)) := by
  refine ⟨fun i _ hi q => ?_, fun _ q => ⟨xs, ys, q.1, q.2, by omega⟩, fun i H v H' _ q y => ?_⟩
  · have h1 : i < xs.length := by omega
    have h2 : i < ys.length := by omega
    exact ⟨xs, ys, xs[i], ys[i], q.1, q.2, by simp [h1], by simp [h2]⟩
  · obtain ⟨T, x, z, h1, h2, h3, h4, h5⟩ := y
    exact ⟨T, x, z, h1, h2, h3, h4 xs q.1, h5 ys q.2⟩
end Sm

set_option Elab.async false
set_option linter.all false
set_option maxRecDepth 100000
set_option maxHeartbeats 4000000
namespace Sm
open PySem PySem.Spec PyProof.Rows L2
/-! ### comprehensions over zip of two tuples, over an enumerate, told item by item -/
theorem gTup2_mono {K : PySem.W.Frag} {p q : Nat} {σ : L2.St} : ∀ (x : V) (H' : Hp) (A B : L2.St → Hp → Prop), (∀ σ2 H2, A σ2 H2 → B σ2 H2) → gTup K 2 (gCons (gName p) (gCons (gName q) gNil)) x σ H' A → gTup K 2 (gCons (gName p) (gCons (gName q) gNil)) x σ H' B := by
  rintro x H' A B h ⟨a, xs, e, hq, hl, v, r, e2, v2, r2, e3, e4, z⟩
  exact ⟨a, xs, e, hq, hl, v, r, e2, v2, r2, e3, e4, h _ _ z⟩
theorem lc_mZ {K : PySem.W.Frag} {a b : Addr} {xs ys : List V} {n : Nat} {g : TG} {te : TE} {vs : List Nat} {σ : L2.St} {H : Hp} {D : Addr} {Qd : Hp → Prop} (fv : Nat → V) (ha : H a = some (.tup xs)) (hb : H b = some (.tup ys)) (l1 : xs.length = n) (l2 : ys.length = n) (nD : H D = none) (ln : n ≤ 20000)
    (hs : ∀ i x y T H', xs[i]? = some x → ys[i]? = some y → Same H H' → H' T = some (.tup [x, y]) → ∀ R : VK, (∀ H4, Same H' H4 → R (fv i) H4) → g (.ref T) (wipe σ vs) H' fun σ2 H2 => wipe σ2 vs = wipe σ vs ∧ te σ2 H2 R)
    (mono : ∀ x H' (A B : L2.St → Hp → Prop), (∀ σ2 H2, A σ2 H2 → B σ2 H2) → g x (wipe σ vs) H' A → g x (wipe σ vs) H' B)
    (hd : ∀ H', Same H H' → H' D = some (.lst ((List.range n).map fv)) → Qd H') :
    ∃ W : Nat → Nat → Hp → Prop, (∃ m, W 0 m (upd H D (.lst []))) ∧ ∀ i m H, W i m H → ((RZ.ItzT K a b).stop i H ∧ Qd H) ∨ ((RZ.ItzT K a b).go i H ∧ ∃ Nx : Hp → Prop, (∀ H', Nx H' → ∃ m', m' < m ∧ W (i + 1) m' H') ∧ ∀ x H', (RZ.ItzT K a b).yld i H x H' → g x (wipe σ vs) H' fun σ2 H2 => wipe σ2 vs = wipe σ vs ∧ tYes σ2 H2 fun b H3 =>
        if b = true then te σ2 H3 fun y H4 => ∃ acc, H4 D = some (.lst acc) ∧ acc.length < sizeLine ∧ Nx (upd H4 D (.lst (acc ++ [y]))) else Nx H3) := by
  refine lc_it (walk_zipT (K := K) (a := a) (b := b) l1 l2) (fun i H' => Same H H' ∧ H' D = some (.lst ((List.range i).map fv))) ⟨same_upd nD, upd_same⟩ (fun i H' _ h => ⟨SqT.of (h.1 _ _ ha), SqT.of (h.1 _ _ hb)⟩) ?_ (fun H' h => hd H' h.1 h.2)
  rintro i x H1 H1' il ⟨s, hD⟩ ⟨T, x1, y1, rfl, hT, rfl, hx, hy⟩
  have sT := same_upd (o := .tup [x1, y1]) hT
  refine mono _ _ _ _ ?_ (hs i x1 y1 T _ hx hy (s.trans sT) upd_same (lcmQ H D fv i) fun H4 s4 => lcm_step nD (s.trans sT) (sT _ _ hD) (Nat.le_of_lt il) ln s4)
  rintro σ2 H2 ⟨e, h⟩
  refine ⟨e, ?_⟩
  unfold tYes
  exact iteT h
end Sm

set_option Elab.async false
set_option linter.all false
set_option maxRecDepth 100000
set_option maxHeartbeats 8000000
namespace Sm
open PySem PySem.Spec PyProof.Rows L2
open C8 (pss_cut tCut)
theorem by_one {c : Prop} [Decidable c] {p q : Prop} (h1 : c → p) (h2 : ¬c → q) : if decide c = true then p else q := by
  by_cases hc : c
  · rw [decide_eq_true hc]
    exact iteT (h1 hc)
  · rw [decide_eq_false hc]
    exact iteF (h2 hc)
theorem foldl_gcd_dvd : ∀ (l : List Nat) (g : Nat), l.foldl Nat.gcd g ∣ g ∧ ∀ a, a ∈ l → l.foldl Nat.gcd g ∣ a
  | [], g => ⟨Nat.dvd_refl g, fun a h => nomatch h⟩
  | x :: l, g => by
    obtain ⟨h1, h2⟩ := foldl_gcd_dvd l (Nat.gcd g x)
    refine ⟨Nat.dvd_trans h1 (Nat.gcd_dvd_left ..), fun a ha => ?_⟩
    rcases List.mem_cons.mp ha with e | e
    · rw [e]
      exact Nat.dvd_trans h1 (Nat.gcd_dvd_right ..)
    · exact h2 a e
theorem numF_le {L : List Of} {is : List Nat} {k : Nat} (ok : ∀ o ∈ L, OfOk k o) (il : ∀ i ∈ is, i < L.length) {j i : Nat} (hi : i < is.length) : numF L is j i ≤ 30 := by
  have g : is.getD i 0 < L.length := by
    rw [List.getD_eq_getElem?_getD, List.getElem?_eq_getElem hi]
    exact il _ (List.getElem_mem hi)
  have o := of_ok ok g
  have h1 := o.x1
  have h2 := o.y1
  unfold numF xN yN
  split
  · omega
  · split <;> omega
theorem numB_le {L : List Of} {is : List Nat} {k : Nat} (ok : ∀ o ∈ L, OfOk k o) (il : ∀ i ∈ is, i < L.length) (j : Nat) : ∀ m, m ≤ is.length → numB L is m j ≤ 30 ^ m
  | 0, _ => Nat.le_refl 1
  | m + 1, h => by
    have a := numB_le ok il j m (by omega)
    have b := numF_le ok il (j := j) (show m < is.length by omega)
    show numB L is m j * numF L is j m ≤ 30 ^ m * 30
    exact Nat.mul_le_mul a b
theorem gcd_small {L : List Of} {is : List Nat} {k : Nat} (ok : ∀ o ∈ L, OfOk k o) (il : ∀ i ∈ is, i < L.length) (l1 : 1 ≤ is.length) (l4 : is.length ≤ 4) (g0 : 0 < (nums L is).getD 0 0) : gcdL (nums L is) ≤ 810000 := by
  have m : (nums L is).getD 0 0 ∈ nums L is := by
    rw [List.getD_eq_getElem?_getD, List.getElem?_eq_getElem (by unfold nums; rw [List.length_map, List.length_range]; omega)]
    exact List.getElem_mem _
  have d := (foldl_gcd_dvd (nums L is) 0).2 _ m
  have le := Nat.le_of_dvd g0 d
  have e : (nums L is).getD 0 0 = numB L is is.length 0 := by
    unfold nums
    rw [List.getD_eq_getElem?_getD, List.getElem?_map, List.getElem?_range (by omega)]
    rfl
  have b := numB_le ok il 0 is.length (Nat.le_refl _)
  have p : 30 ^ is.length ≤ 30 ^ 4 := Nat.pow_le_pow_right (by decide) l4
  have q : (30 : Nat) ^ 4 = 810000 := by decide
  unfold gcdL at *
  omega
/-- what loop_purse tells: a purse, and a way of as many times of each offer -/
def LoopAt (H : Hp) (e : Addr) (ps : List Int) (is ts : List Nat) : Prop := ∃ (a b : Addr) (ws : List Addr), H e = some (.tup [.ref a, .ref b]) ∧ H a = some (.tup (ps.map V.int)) ∧ H b = some (.tup (ws.map V.ref)) ∧ ws.length = is.length ∧ ∀ j w, ws[j]? = some w → H w = some (.tup [.int ((is.getD j 0 : Nat) : Int), .int ((ts.getD j 0 : Nat) : Int)])
theorem LoopAt.same {H H' : Hp} {e : Addr} {ps : List Int} {is ts : List Nat} (h : LoopAt H e ps is ts) (s : Same H H') : LoopAt H' e ps is ts := by
  obtain ⟨a, b, ws, h1, h2, h3, h4, h5⟩ := h
  exact ⟨a, b, ws, s _ _ h1, s _ _ h2, s _ _ h3, h4, fun j w e => s _ _ (h5 j w e)⟩
/-- the purse that the loop begins with -/
def begP (k : Nat) (L : List Of) (is : List Nat) : List Int := (List.replicate k 0).set (L.getD (is.getD 0 0) of0).a (((xN L is 0 * (tsB L is is.length).getD 0 0 : Nat) : Int))
theorem rep_one (n : Nat) (x : Int) : (List.replicate n [V.int x]).flatten = (List.replicate n x).map V.int := by
  rw [List.flatten_replicate_singleton, List.map_replicate]
def sp_l_due (K : PySem.W.Frag) : Sp := fun vs H Q _ => ∃ (d q : Addr) (k : Nat) (L : List Of) (is : List Nat), vs = [.ref d, .ref q] ∧ BoardAt H d k L ∧ (∀ o ∈ L, OfOk k o) ∧ H q = some (.tup ((is.map fun i : Nat => (i : Int)).map V.int)) ∧ is.length ≤ 4 ∧ 1 ≤ is.length ∧ (∀ i ∈ is, i < L.length) ∧ k ≤ 1000 ∧
  ∀ H' e, Same H H' → LoopAt H' e (begP k L is) is (tsB L is is.length) → Q (.ref e) H'
section
variable {P : Program} {w : World} {K : PySem.W.Frag} {mg : Str → Option Value} {base : Heap}
abbrev s_l_due : Stmt := topS 22
abbrev N_l_due : List Str := ["_law_board_here", "_law_indexes", "_law_rows", "_law_numbers", "_law_by", "_law_k", "_law_number", "_law_j", "_law_way", "_law_purse", "_law_index"]
theorem sc_l_due : FnScope N_l_due ["_law_board_here", "_law_indexes"] (defScope s_l_due) := ⟨rfl, rfl, rfl, by decide +kernel, rfl, by decide +kernel, by decide +kernel⟩
theorem ok_l_due (T : Txt mg) (D : Df K mg "_law_due" s_l_due ["_law_board_here", "_law_indexes"]) (C_l_gcd : Cal P w K mg base "_law_gcd" ["_law_one_here", "_law_other"] 1 (sp_l_gcd K)) : Cal P w K mg base "_law_due" ["_law_board_here", "_law_indexes"] 2 (sp_l_due K) := by
  obtain ⟨f_l_gcd, fd_l_gcd, G_l_gcd, m_l_gcd, k_l_gcd, b_l_gcd⟩ := C_l_gcd
  refine D.cal sc_l_due (fun vs H Q E h => ?_) (fun f cdv A outer s H vs Q E hr h => ?_)
  · obtain ⟨d, q, k, L, is, rfl, _⟩ := h
    rfl
  obtain ⟨d, q, k, L, is, rfl, hb, ok, hq, l4, l1, il, k1, kk⟩ := h
  obtain ⟨t, qs, hbd, ht, hL⟩ := id hb
  refine ⟨_, (pss_cons (ps_asg (pe_tup (pa_cons (pe_lc (own := [("_law_index", 10)]) (g := gName 10) (tt := tYes) rfl sc_l_due.nd (pi_tup (pv 1)) (blkOk_by (own := [("_law_index", 10)]) (N := N_l_due) (sc := defScope s_l_due) (by decide +kernel)) (fun _ _ _ _ _ => pg_name (i := 10) sc_l_due.nd rfl (Or.inl rfl)) (fun _ _ _ _ _ => pts_nil) (fun _ _ _ _ _ => (pe_ix (show IxR _ (rIxT K) from ix_tup) (pe_ix (show IxR _ (rIxT K) from ix_tup) (pv 0) pe_int (fun _ _ => rfl)) (pv 10) (fun _ _ => rfl)))) (pa_cons (pe_lst pa_nil) (pa_cons pe_int pa_nil)))) (pg_tup (by rfl) (pgs_cons (pg_name (i := 2) sc_l_due.nd rfl (Or.inl rfl)) (pgs_cons (pg_name (i := 3) sc_l_due.nd rfl (Or.inl rfl)) (pgs_cons (pg_name (i := 4) sc_l_due.nd rfl (Or.inr rfl)) pgs_nil)))))
    (pss_cons (ps_for PassesOwn.never rfl (pi_range1 (by rfl) T.n_range (pa_cons (pe_callB call_len_seq (by rfl) T.n_len (by decide +kernel) (pa_cons (pv 2) pa_nil)) pa_nil)) (pg_name (i := 5) sc_l_due.nd rfl (Or.inl rfl))
      (pss_cons (ps_set (i := 6) sc_l_due.nd rfl (Or.inl rfl) pe_int)
    (pss_cons (ps_for PassesOwn.never rfl (pi_range1 (by rfl) T.n_range (pa_cons (pe_callB call_len_seq (by rfl) T.n_len (by decide +kernel) (pa_cons (pv 2) pa_nil)) pa_nil)) (pg_name (i := 7) sc_l_due.nd rfl (Or.inl rfl))
      (pss_cons (ps_if (pt_cmpR op_lt (pv 7) (pv 5) (nomark _)) (pss_one (ps_set (i := 6) sc_l_due.nd rfl (Or.inl rfl) (pe_op op_mul (pv 6) (pe_ix ix_tup (pe_ix ix_list (pv 2) (pv 7) (fun _ _ => rfl)) pe_int (fun _ _ => rfl))))) pss_nil)
    (pss_one (ps_if (pt_cmpR op_gt (pv 7) (pv 5) (nomark _)) (pss_one (ps_set (i := 6) sc_l_due.nd rfl (Or.inl rfl) (pe_op op_mul (pv 6) (pe_ix ix_tup (pe_ix ix_list (pv 2) (pv 7) (fun _ _ => rfl)) pe_int (fun _ _ => rfl))))) pss_nil))))
    (pss_one (ps_expr (pe_bm PySem.F.plainAttrs_list PySem.F.slot_list_append PySem.F.type_list_append mt_append (pv 3) (pa_cons (pv 6) pa_nil)))))))
    (pss_cons (ps_for PassesOwn.never rfl (pi_list (pv 3)) (pg_name (i := 6) sc_l_due.nd rfl (Or.inl rfl))
      (pss_one (ps_set (i := 4) sc_l_due.nd rfl (Or.inr rfl) (pe_call G_l_gcd (hr.mono (by decide)) (by rfl) m_l_gcd k_l_gcd b_l_gcd .nil pass0 (pa_cons (pv 4) (pa_cons (pv 6) pa_nil))))))
    (pss_cons (ps_set (i := 8) sc_l_due.nd rfl (Or.inl rfl) (pe_callTy call_tuple_of (by rfl) T.n_tuple (by decide +kernel) (pa_cons (pe_lc (own := [("_law_index", 10), ("_law_number", 6)]) (g := gTup K 2 (gCons (gName 10) (gCons (gName 6) gNil))) (tt := tYes) rfl sc_l_due.nd (pi_zipM (by rfl) T.n_zip (pa_cons (pv 1) (pa_cons (pv 3) pa_nil))) (blkOk_by (own := [("_law_index", 10), ("_law_number", 6)]) (N := N_l_due) (sc := defScope s_l_due) (by decide +kernel)) (fun _ _ _ _ _ => pg_tup (by rfl) (pgs_cons (pg_name (i := 10) sc_l_due.nd rfl (Or.inl rfl)) (pgs_cons (pg_name (i := 6) sc_l_due.nd rfl (Or.inl rfl)) pgs_nil))) (fun _ _ _ _ _ => pts_nil) (fun _ _ _ _ _ => (pe_tup (pa_cons (pv 10) (pa_cons (pe_op op_fdivW (pv 6) (pv 4)) pa_nil))))) pa_nil)))
    (pss_cons (ps_set (i := 9) sc_l_due.nd rfl (Or.inl rfl) (pe_op op_rep (pe_lst (pa_cons pe_int pa_nil)) (pe_ix ix_tup (pv 0) pe_int (fun _ _ => rfl))))
    (pss_cons (ps_asg (pe_op op_mul (pe_ix ix_tup (pe_ix ix_list (pv 2) pe_int (fun _ _ => rfl)) pe_int (fun _ _ => rfl)) (pe_ix ix_tup (pe_ix ix_tup (pv 8) pe_int (fun _ _ => rfl)) pe_int (fun _ _ => rfl))) (pg_sub (pv 9) (pe_ix ix_tup (pe_ix ix_list (pv 2) pe_int (fun _ _ => rfl)) pe_int (fun _ _ => rfl)) set_list))
    (pss_one (ps_ret (pe_tup (pa_cons (pe_callTy call_tuple_of (by rfl) T.n_tuple (by decide +kernel) (pa_cons (pv 9) pa_nil)) (pa_cons (pv 8) pa_nil))))))))))), ?_⟩
  have li : ((is.map fun i : Nat => (i : Int)).map V.int).length = is.length := by rw [List.length_map, List.length_map]
  refine ⟨_, rfl, q, rfl, ⟨_, SqT.of hq⟩, fun R nR => ?_⟩
  refine lc_mT (fun j => (qs.map V.ref).getD (is.getD j 0) .non) hq nR (by rw [li]; omega) ?_ gName_mono ?_
  · intro j x H3 hx s3 R' hR
    rw [List.getElem?_map, List.getElem?_map] at hx
    cases e : is[j]? with
    | none => rw [e] at hx; cases hx
    | some i =>
      rw [e] at hx
      have ex : x = .int (i : Int) := (Option.some.inj hx).symm
      subst ex
      obtain ⟨q, c1, _⟩ := hL.at (il i (List.mem_of_getElem? e))
      refine ⟨rfl, _, rfl, _, _, _, _, rfl, rfl, SqT.of (s3 _ _ hbd), atI_nat (j := 1) rfl, _, rfl, _, _, _, _, rfl, rfl, SqT.of (s3 _ _ ht), atI_nat c1, ?_⟩
      have := hR H3 (Same.refl _)
      rw [List.getD_eq_getElem?_getD, List.getD_eq_getElem?_getD, e] at this
      rw [show (some i).getD 0 = i from rfl, c1] at this
      exact this
  intro H3 s3 hR
  rw [li] at hR
  obtain ⟨rows, hrows⟩ : ∃ rows, rows = (List.range is.length).map fun j => (qs.map V.ref).getD (is.getD j 0) .non := ⟨_, rfl⟩
  rw [← hrows] at hR
  have lr : rows.length = is.length := by rw [hrows, List.length_map, List.length_range]
  have row : ∀ j, j < is.length → ∃ q, rows[j]? = some (.ref q) ∧ H q = some (.tup ((L.getD (is.getD j 0) of0).ns.map V.int)) ∧ OfOk k (L.getD (is.getD j 0) of0) := fun j hj => by
    have g : is.getD j 0 < L.length := by
      rw [List.getD_eq_getElem?_getD, List.getElem?_eq_getElem hj]
      exact il _ (List.getElem_mem hj)
    obtain ⟨q, c1, c2⟩ := hL.at g
    refine ⟨q, ?_, c2, of_ok ok g⟩
    rw [hrows, List.getElem?_map, List.getElem?_range hj]
    show some ((qs.map V.ref).getD (is.getD j 0) .non) = _
    rw [List.getD_eq_getElem?_getD, c1]
    rfl
  refine ⟨(by show 0 ≤ sizeLine; decide), fun N nN => ⟨(by show 3 ≤ sizeLine; decide), fun tt ntt => ?_⟩⟩
  refine ⟨tt, _, rfl, SqT.of upd_same, rfl, _, _, rfl, _, _, rfl, _, _, rfl, rfl, ?_⟩
  have sN := same_upd (o := .lst []) nN
  have st := same_upd (o := .tup [.ref R, .ref N, .int 0]) ntt
  have hN0 := st _ _ (upd_same (H := H3) (a := N) (o := .lst []))
  have s5 := sN.trans st
  have hR5 := s5 _ _ hR
  have sH := s3.trans s5
  refine ⟨_, rfl, _, _, rfl, .inl (SqL.of hR5), _, rfl, by rw [lr]; omega, by rw [lr]; omega, ?_⟩
  rw [show Int.toNat ((rows.length : Nat) : Int) = is.length by rw [lr]; omega]
  refine for_range (lo := 0) (n := is.length) (fun i σ H' => ∃ v5 v6 v7 v8 v9 v10 : Option V, σ = [some (.ref d), some (.ref q), some (.ref R), some (.ref N), some (.int 0), v5, v6, v7, v8, v9, v10] ∧ Same H3 H' ∧ H' N = some (.lst ((List.range i).map fun j => V.int ((numB L is is.length j : Nat) : Int)))) ⟨_, _, _, _, _, _, rfl, s5, hN0⟩ ?_ ?_
  · rintro i σ H2 hi ⟨v5, v6, v7, v8, v9, v10, rfl, s2, hN⟩
    have hR2 := s2 _ _ hR
    refine ⟨_, rfl, _, _, rfl, .inl (SqL.of hR2), _, rfl, by rw [lr]; omega, by rw [lr]; omega, ?_⟩
    rw [show Int.toNat ((rows.length : Nat) : Int) = is.length by rw [lr]; omega]
    refine for_range (lo := 0) (n := is.length) (fun m σ H' => ∃ v7 v8 v9 v10 : Option V, σ = [some (.ref d), some (.ref q), some (.ref R), some (.ref N), some (.int 0), some (.int (0 + (i : Int))), some (.int ((numB L is m i : Nat) : Int)), v7, v8, v9, v10] ∧ H' = H2) ⟨_, _, _, _, rfl, rfl⟩ ?_ ?_
    · rintro m σ H' hm ⟨v7, v8, v9, v10, rfl, rfl⟩
      obtain ⟨z, r1, r2, o⟩ := row m hm
      have r2 := s2 _ _ (s3 _ _ r2)
      have h1 := o.x0
      have h2 := o.x1
      have h3 := o.y0
      have h4 := o.y1
      have em : (0 : Int) + (m : Int) = (m : Int) := Int.zero_add _
      have xe : (L.getD (is.getD m 0) of0).x = ((xN L is m : Nat) : Int) := (Int.toNat_of_nonneg (by omega)).symm
      have ye : (L.getD (is.getD m 0) of0).y = ((yN L is m : Nat) : Int) := (Int.toNat_of_nonneg (by omega)).symm
      have fin : ∀ (v7 v8 v9 v10 : Option V) (z : Int), z = ((numB L is (m + 1) i : Nat) : Int) → ∃ w7 w8 w9 w10 : Option V, [some (.ref d), some (.ref q), some (.ref R), some (.ref N), some (.int 0), some (.int (0 + (i : Int))), some (.int z), v7, v8, v9, v10] = [some (.ref d), some (.ref q), some (.ref R), some (.ref N), some (.int 0), some (.int (0 + (i : Int))), some (.int ((numB L is (m + 1) i : Nat) : Int)), w7, w8, w9, w10] ∧ H' = H' := by
        rintro v7 v8 v9 v10 z rfl
        exact ⟨_, _, _, _, rfl, rfl⟩
      refine ⟨_, rfl, _, rfl, _, _, rfl, rfl, _, rfl, by_one (fun c => ?_) (fun c => ?_)⟩
      · have c : m < i := by omega
        refine ⟨_, rfl, _, rfl, _, rfl, _, _, _, _, rfl, rfl, SqL.of hR2, at_of em r1, _, _, _, _, rfl, rfl, SqT.of r2, atI_nat (j := 3) rfl, _, _, rfl, rfl, .inr ⟨by omega, by omega⟩, ?_⟩
        refine ⟨_, rfl, _, rfl, _, _, rfl, rfl, _, rfl, by_one (fun c' => absurd c' (by omega)) (fun _ => ?_)⟩
        refine fin _ _ _ _ _ ?_
        show ((numB L is m i : Nat) : Int) * _ = ((numB L is m i * numF L is i m : Nat) : Int)
        rw [ye, ← Int.natCast_mul, show numF L is i m = yN L is m from if_pos c]
      · have c : ¬ m < i := by omega
        refine ⟨_, rfl, _, rfl, _, _, rfl, rfl, _, rfl, by_one (fun c' => ?_) (fun c' => ?_)⟩
        · refine ⟨_, rfl, _, rfl, _, rfl, _, _, _, _, rfl, rfl, SqL.of hR2, at_of em r1, _, _, _, _, rfl, rfl, SqT.of r2, atI_nat (j := 1) rfl, _, _, rfl, rfl, .inr ⟨by omega, by omega⟩, ?_⟩
          refine fin _ _ _ _ _ ?_
          show ((numB L is m i : Nat) : Int) * _ = ((numB L is m i * numF L is i m : Nat) : Int)
          rw [xe, ← Int.natCast_mul, show numF L is i m = xN L is m by unfold numF; rw [if_neg c, if_pos (by omega)]]
        · refine fin _ _ _ _ _ ?_
          show _ = ((numB L is m i * numF L is i m : Nat) : Int)
          rw [show numF L is i m = 1 by unfold numF; rw [if_neg c, if_neg (by omega)], Nat.mul_one]
    · rintro σ H' ⟨v7, v8, v9, v10, rfl, rfl⟩
      refine ⟨_, rfl, .inl ⟨rfl, _, SqL.of hN⟩, _, rfl, N, _, _, rfl, rfl, hN, ?_, _, _, _, _, _, _, rfl, ?_, ?_⟩
      · rw [List.length_map, List.length_range]
        exact Nat.lt_of_le_of_lt (show i ≤ 4 by omega) (by decide)
      · intro b o hb
        rw [upd_ne (ne_of_none hb nN)]
        exact s2 _ _ hb
      · rw [upd_same, List.range_succ, List.map_append]
        rfl
  · rintro σ H2 ⟨v5, v6, v7, v8, v9, v10, rfl, s2, hN⟩
    have hN : H2 N = some (.lst ((nums L is).map fun n : Nat => V.int (n : Int))) := by rw [hN]; unfold nums; rw [List.map_map]; rfl
    refine ⟨_, rfl, N, rfl, ⟨_, SqL.of hN⟩, ?_⟩
    refine for_list (K := K) (a := N) (xs := (nums L is).map fun n : Nat => V.int (n : Int)) (fun j σ H' => ∃ v6 : Option V, σ = [some (.ref d), some (.ref q), some (.ref R), some (.ref N), some (.int ((gcdL ((nums L is).take j) : Nat) : Int)), v5, v6, v7, v8, v9, v10] ∧ H' = H2) ⟨_, rfl, rfl⟩ (fun i σ H' _ h => by obtain ⟨_, _, rfl⟩ := h; exact SqL.of hN) ?_ ?_
    · rintro j x σ H' hx ⟨v6, rfl, rfl⟩
      rw [List.getElem?_map] at hx
      cases e : (nums L is)[j]? with
      | none => rw [e] at hx; cases hx
      | some n =>
        rw [e] at hx
        have ex : x = .int (n : Int) := (Option.some.inj hx).symm
        subst ex
        have eg : gcdL ((nums L is).take (j + 1)) = (gcdL ((nums L is).take j)).gcd n := by rw [List.take_succ, e, show (some n).toList = [n] from rfl, gcdL_app]
        rw [eg]
        exact ⟨_, rfl, _, rfl, _, n, rfl, _, rfl, rfl⟩
    · rintro σ H' ⟨v6, rfl, rfl⟩
      rw [List.length_map, List.take_length]
      have x1 : ∀ j, j < is.length → 1 ≤ xN L is j := fun j hj => by
        obtain ⟨z, _, _, o⟩ := row j hj
        have := o.x0
        unfold xN
        omega
      obtain ⟨g0, gt⟩ := due_times l1 x1
      have tl : (tsB L is is.length).length = is.length := tsB_len L is is.length
      have nl : (nums L is).length = is.length := by unfold nums; rw [List.length_map, List.length_range]
      have n0 : 0 < (nums L is).getD 0 0 := by
        rcases Nat.eq_zero_or_pos ((nums L is).getD 0 0) with z | z
        · exfalso
          have hz : ∀ j m : Nat, (∀ i, i < m → j ≤ i → 1 ≤ xN L is i) → j = 0 → 0 < numB L is m j := by
            intro j m hx e
            subst e
            induction m with
            | zero => exact Nat.one_pos
            | succ m ih =>
              have a := ih fun i hi => hx i (by omega)
              refine Nat.mul_pos a ?_
              unfold numF
              rw [if_neg (by omega)]
              split
              · exact hx m (by omega) (by omega)
              · exact Nat.one_pos
          have e : (nums L is).getD 0 0 = numB L is is.length 0 := by
            unfold nums
            rw [List.getD_eq_getElem?_getD, List.getElem?_map, List.getElem?_range (by omega)]
            rfl
          have := hz 0 is.length (fun i hi _ => x1 i hi) rfl
          omega
        · exact z
      have gs := gcd_small ok il l1 l4 n0
      generalize hg : gcdL (nums L is) = g at g0 gt gs
      -- the way
      refine ⟨_, rfl, _, rfl, q, N, _, _, rfl, SqT.of (s2 _ _ (s3 _ _ hq)), SqL.of hN, fun U nU => ?_⟩
      refine lc_pM (K := K) (n := is.length) (fun j => [.int ((is.getD j 0 : Nat) : Int), .int (((tsB L is is.length).getD j 0 : Nat) : Int)]) (s2 _ _ (s3 _ _ hq)) hN li (by rw [List.length_map, nl]) nU (by omega) ?_ gTup2_mono ?_
      · intro j x y T H' hx hy s' hT R' hR
        have hj : j < is.length := by
          have := (List.getElem?_eq_some_iff.mp hx).1
          rw [li] at this
          exact this
        have ex : x = .int ((is.getD j 0 : Nat) : Int) := by
          rw [List.getElem?_map, List.getElem?_map, List.getElem?_eq_getElem hj] at hx
          rw [List.getD_eq_getElem?_getD, List.getElem?_eq_getElem hj]
          exact (Option.some.inj hx).symm
        have ey : y = .int (((nums L is).getD j 0 : Nat) : Int) := by
          rw [List.getElem?_map, List.getElem?_eq_getElem (by rw [nl]; exact hj)] at hy
          rw [List.getD_eq_getElem?_getD, List.getElem?_eq_getElem (by rw [nl]; exact hj)]
          exact (Option.some.inj hy).symm
        subst ex ey
        have ed : (((nums L is).getD j 0 : Nat) : Int) / (g : Int) = (((tsB L is is.length).getD j 0 : Nat) : Int) := by
          rw [← gt, List.getD_eq_getElem?_getD, List.getD_eq_getElem?_getD, List.getElem?_map, List.getElem?_eq_getElem (by rw [nl]; exact hj)]
          exact (Int.natCast_ediv ..).symm
        refine ⟨_, _, rfl, SqT.of hT, rfl, _, _, rfl, _, _, rfl, rfl, rfl, ?_⟩
        refine ⟨_, rfl, _, rfl, _, rfl, _, _, rfl, rfl, wide_div (b := 20) (by omega) (by omega) (by decide) (by decide), ?_⟩
        refine ⟨(by show 2 ≤ sizeLine; decide), fun w nw => hR _ w (same_upd nw) ?_⟩
        show upd H' w (.tup [.int ((is.getD j 0 : Nat) : Int), .int ((((nums L is).getD j 0 : Nat) : Int) / (g : Int))]) w = _
        rw [upd_same, ed]
      intro H4 ws s4 hU wl hw
      -- the purse
      refine ⟨_, _, rfl, .inl ⟨SqL.of hU, fun W nW => ?_⟩⟩
      have sW := same_upd (o := .tup (ws.map V.ref)) nW
      have hW : upd H4 W (.tup (ws.map V.ref)) W = some (.tup (ws.map V.ref)) := upd_same
      have w4 : ∀ j w, ws[j]? = some w → upd H4 W (.tup (ws.map V.ref)) w = some (.tup [.int ((is.getD j 0 : Nat) : Int), .int (((tsB L is is.length).getD j 0 : Nat) : Int)]) := fun j w e => sW _ _ (hw j w e)
      have sHW : Same H (upd H4 W (.tup (ws.map V.ref))) := s3.trans (s2.trans (s4.trans sW))
      have hRW := sW _ _ (s4 _ _ (s2 _ _ hR))
      generalize upd H4 W (.tup (ws.map V.ref)) = H5 at hW w4 sHW hRW ⊢
      refine ⟨(by show 1 ≤ sizeLine; decide), fun Z nZ => ?_⟩
      have sZ := same_upd (o := .lst [.int 0]) nZ
      refine ⟨_, rfl, _, _, _, _, rfl, rfl, SqT.of (sZ _ _ (sHW _ _ hbd)), atI_nat (j := 0) rfl, Z, _, _, rfl, rfl, upd_same, by omega, by omega, ?_, fun Pz nP => ?_⟩
      · show 1 * ((k : Int)).toNat ≤ sizeLine
        exact Nat.le_trans (show 1 * ((k : Int)).toNat ≤ 1000 by omega) (by decide)
      rw [show ((k : Int)).toNat = k by omega, rep_one]
      have sP := same_upd (o := .lst ((List.replicate k (0 : Int)).map V.int)) nP
      have hP : upd (upd H5 Z (.lst [.int 0])) Pz (.lst ((List.replicate k (0 : Int)).map V.int)) Pz = some (.lst ((List.replicate k (0 : Int)).map V.int)) := upd_same
      have s56 : Same H5 (upd (upd H5 Z (.lst [.int 0])) Pz (.lst ((List.replicate k (0 : Int)).map V.int))) := sZ.trans sP
      generalize upd (upd H5 Z (.lst [.int 0])) Pz (.lst ((List.replicate k (0 : Int)).map V.int)) = H6 at hP s56 ⊢
      have nP5 : ∀ c o, H5 c = some o → c ≠ Pz := fun c o e => ne_of_none (sZ _ _ e) nP
      have hR6 := s56 _ _ hRW
      have hW6 := s56 _ _ hW
      obtain ⟨z0, ra, rb, o0⟩ := row 0 l1
      have rb6 := s56 _ _ (sHW _ _ rb)
      obtain ⟨w0, hw0⟩ : ∃ w0, ws[0]? = some w0 := ⟨ws[0]'(by omega), List.getElem?_eq_getElem (by omega)⟩
      have hw06 := s56 _ _ (w4 0 w0 hw0)
      have gw : (ws.map V.ref)[0]? = some (.ref w0) := by rw [List.getElem?_map, hw0]; rfl
      have b1 := o0.x0
      have b2 := o0.x1
      have ba := o0.a
      refine ⟨_, rfl, _, _, _, _, rfl, rfl, SqL.of hR6, atI_nat (j := 0) ra, _, _, _, _, rfl, rfl, SqT.of rb6, atI_nat (j := 1) rfl, ?_⟩
      refine ⟨_, rfl, _, _, _, _, rfl, rfl, SqT.of hW6, atI_nat (j := 0) gw, _, _, _, _, rfl, rfl, SqT.of hw06, atI_nat (j := 1) rfl, _, _, rfl, rfl, .inl ⟨by omega, by omega⟩, ?_⟩
      refine ⟨_, rfl, _, rfl, _, _, _, _, rfl, rfl, SqL.of hR6, atI_nat (j := 0) ra, _, _, _, _, rfl, rfl, SqT.of rb6, atI_nat (j := 0) rfl, ?_⟩
      have ix : ixN ((List.replicate k (0 : Int)).map V.int).length (((L.getD (is.getD 0 0) of0).a : Nat) : Int) = some (L.getD (is.getD 0 0) of0).a := by
        rw [List.length_map, List.length_replicate]
        unfold ixN
        rw [if_pos (by omega), if_pos (by omega), Int.toNat_natCast]
      have ev : V.int ((L.getD (is.getD 0 0) of0).x * (((tsB L is is.length).getD 0 0 : Nat) : Int)) = V.int (((xN L is 0 * (tsB L is is.length).getD 0 0 : Nat) : Int)) := by
        rw [Int.natCast_mul]
        congr 2
        unfold xN
        omega
      refine ⟨Pz, _, _, _, rfl, rfl, hP, ix, ?_⟩
      have eb : ((List.replicate k (0 : Int)).map V.int).set (L.getD (is.getD 0 0) of0).a (V.int ((L.getD (is.getD 0 0) of0).x * (((tsB L is is.length).getD 0 0 : Nat) : Int))) = (begP k L is).map V.int := by
        rw [ev]
        unfold begP
        rw [List.map_set]
      have hP7 : upd H6 Pz (.lst (((List.replicate k (0 : Int)).map V.int).set (L.getD (is.getD 0 0) of0).a (V.int ((L.getD (is.getD 0 0) of0).x * (((tsB L is is.length).getD 0 0 : Nat) : Int))))) Pz = some (.lst ((begP k L is).map V.int)) := by rw [upd_same, eb]
      have s57 : Same H5 (upd H6 Pz (.lst (((List.replicate k (0 : Int)).map V.int).set (L.getD (is.getD 0 0) of0).a (V.int ((L.getD (is.getD 0 0) of0).x * (((tsB L is is.length).getD 0 0 : Nat) : Int)))))) := fun c o e => by
        rw [upd_ne (nP5 c o e)]
        exact s56 _ _ e
      refine ⟨_, rfl, _, _, rfl, .inl ⟨SqL.of hP7, fun A1 nA => ?_⟩⟩
      have sA := same_upd (o := .tup ((begP k L is).map V.int)) nA
      have s58 := s57.trans sA
      refine ⟨_, rfl, (by show 2 ≤ sizeLine; decide), fun e ne => ?_⟩
      have se := same_upd (o := .tup [.ref A1, .ref W]) ne
      have s59 := s58.trans se
      exact kk _ e (sHW.trans s59) ⟨A1, W, ws, upd_same, se _ _ upd_same, s59 _ _ hW, wl, fun j w e' => s59 _ _ (w4 j w e')⟩
end
end Sm

set_option Elab.async false
set_option linter.all false
set_option maxRecDepth 100000
set_option maxHeartbeats 4000000
namespace Sm
open PySem PySem.Spec PyProof.Rows L2
/-- isinstance of the exception that the suite holds, with its dict: one class, or a tuple of classes just laid -/
def rIsX (K : PySem.W.Frag) (cls : Value) (d : Option Addr) (a : Addr) : List V → Hp → VK → Prop := fun xs H Q => ∃ (D dd : Addr) (fs : List (Str × V)), cls = .ref D ∧ d = some dd ∧ H dd = some (.xd fs) ∧ ExcC K D ∧
  ((∃ (c : V) (cv : Value) (b : Bool), xs = [.ref a, c] ∧ ClsV c cv ∧ PySem.W.kitOne K (.ref D) cv = some b ∧ Q (.bl b) H) ∨
   ∃ (tp : Addr) (cs : List V) (us : List Value) (b : Bool), xs = [.ref a, .ref tp] ∧ H tp = some (.tup cs) ∧ Paired ClsV cs us ∧ PySem.W.kitAny K (.ref D) us = some b ∧ Q (.bl b) H)
theorem call_isX {X : Cx} {a : Addr} {cls : Value} {d : Option Addr} {oe : Obj} {pn : List (Addr × Obj)} (hz : Zc cls d oe) (hf : ∃ vs, oe.data = .fields vs) : CallR (X.suite a ((a, oe) :: pn)) (.builtin "isinstance") (rIsX X.K cls d a) := by
  intro pins s σ H xs us Q I r h
  obtain ⟨D, dd, fs, rfl, rfl, ea, C, h⟩ := h
  obtain ⟨ha, _⟩ := I.pin (a, oe) (List.mem_append_left _ List.mem_cons_self)
  obtain ⟨vs, hd⟩ := hf
  have hx : ObjOk X.prog X.w H s.heap dd (.xd fs) := I.hok dd _ ea
  obtain ⟨mA, hns, hr⟩ := hx
  obtain ⟨od, ho, hl⟩ := lookIn_ns hns
  have J : PySem.W.InstAt s.heap a oe D (some od) := ⟨ha, hz.1, by unfold PySem.W.notCls; rw [hd] <;> rfl, by rw [hz.2]; exact ho⟩
  obtain ⟨cd, hc, _⟩ := PySem.W.any_some C.hd
  have Z := PySem.W.kitx_exc (x := a) (ox := oe) (od := some od) (by rw [hc]; rfl) C.hg C.hk C.hs C.ha C.hn C.ht C.hm
  rcases h with ⟨c, cv, b, rfl, k, e, q⟩ | ⟨tp, cs, ws, b, rfl, hT, k, e, q⟩
  · obtain ⟨u1, u2, rfl, r1, r2⟩ := vals2 r
    cases (show u1 = Value.ref a from r1)
    cases k.eq r2
    exact PySem.W.kia_one Z I.kIn J e (fun z => nomatch z) fun tk => ⟨.bl b, H, I.kept (t' := tk) fun _ _ z => z, rfl, q⟩
  · obtain ⟨u1, u2, rfl, r1, r2⟩ := vals2 r
    cases (show u1 = Value.ref a from r1)
    cases (show u2 = Value.ref tp from r2)
    obtain ⟨_, its, rv, o, h1, h2, n, h3⟩ := (show ObjOk X.prog X.w H s.heap tp (.tup cs) from I.hok tp _ hT)
    have e3 := ClsV.all k rv
    subst e3
    obtain ⟨oc, od', dt, sl⟩ := o
    simp only at h2 h3
    subst h2 h3
    exact PySem.W.kia_tup Z I.kIn J h1 e (fun z => nomatch z) fun tk => ⟨.bl b, H, I.kept (t' := tk) fun _ _ z => z, rfl, q⟩
theorem kit_own {K : PySem.W.Frag} {D C : Addr} {b : Bool} (h1 : PySem.W.isClsIn K C = true) (h2 : PySem.W.typeIn K (.ref C) = some (.type "type")) (h3 : PySem.W.subIn K (.ref D) (.ref C) = some b) (h4 : PySem.W.subIn K (.ref D) (.ref D) = some true) : PySem.W.kitOne K (.ref D) (.ref C) = some b := by
  unfold PySem.W.kitOne
  by_cases e : D = C
  · subst e
    rw [h4] at h3
    rw [if_pos (beq_self_eq_true _)]
    exact h3
  · rw [if_neg (fun q => e (Value.ref.inj (beq_iff_eq.mp q)))]
    have h1' : (PySem.W.clsIn K C).isSome = true := h1
    have z : ((PySem.W.clsIn K C).isSome && PySem.W.typeIn K (.ref C) == some (.type "type")) = true := by rw [h1', h2] <;> rfl
    show (if ((PySem.W.clsIn K C).isSome && PySem.W.typeIn K (.ref C) == some (.type "type")) = true then PySem.W.subIn K (.ref D) (.ref C) else none) = some b
    rw [if_pos z]
    exact h3
theorem kit_valerr {K : PySem.W.Frag} {D : Addr} {b : Bool} (h : PySem.W.subIn K (.ref D) (.type "ValueError") = some b) : PySem.W.kitOne K (.ref D) (.type "ValueError") = some b := by
  have q : ((Value.ref D) == (Value.type "ValueError")) = false := beq_eq_false_iff_ne.mpr fun z => nomatch z
  unfold PySem.W.kitOne
  rw [if_neg (by rw [q]; exact Bool.false_ne_true)]
  show (if PySem.W.kitMeta "ValueError" = true then PySem.W.subIn K (.ref D) (.type "ValueError") else none) = some b
  rw [if_pos (by decide +kernel)]
  exact h
theorem kit_cons_false {K : PySem.W.Frag} {t c : Value} {cs : List Value} {b : Bool} (h : PySem.W.kitOne K t c = some false) (hr : PySem.W.kitAny K t cs = some b) : PySem.W.kitAny K t (c :: cs) = some b := by
  unfold PySem.W.kitAny
  rw [h]
  exact hr
/-- an own exception class with one field, made by its own __init__ -/
structure XcTxt (K : PySem.W.Frag) (mg : Str → Option Value) (nm fl : Str) (C fI : Addr) : Prop where
  g : mg nm = some (.ref C)
  oex : OexC K C
  no : PySem.W.findIn K (.ref C) fl = some none
  iC : PySem.W.findIn K (.ref C) "__init__" = some (some (.ref fI))
  tI : PySem.W.typeIn K (.ref fI) = some (.type "function")
  xf : XfC K C
  ec : ExcC K C
/-- C(e), told plainly: the new exception's dict holds the field -/
def tMkF (C : Addr) (fl : Str) (ta : TA) : L2.St → Hp → XK → Prop := fun σ H Q => ta σ H fun vs H1 => ∃ v, vs = [v] ∧ ∀ d, H1 d = none → Q (.ref C) (some d) (upd H1 d (.xd [(fl, v)]))
def sp_init (K : PySem.W.Frag) (fl : Str) : Sp := fun vs H Q _ => ∃ (a C : Addr) (v : V), vs = [.ref a, v] ∧ OexC K C ∧ PySem.W.findIn K (.ref C) fl = some none ∧ H a = some (exo a C none) ∧ ∀ dx, H dx = none → dx ≠ a → Q .non (upd (upd H dx (exd dx [(fl, v)])) a (exo a C (some dx)))
theorem xc_mk {C : Addr} {fl : Str} {K : PySem.W.Frag} {ta : TA} {σ : L2.St} {H : Hp} {Q : XK} (T : OexC K C) (no : PySem.W.findIn K (.ref C) fl = some none)
    (h : ta σ H fun vs H1 => ∃ v, vs = [v] ∧ ∀ d H2, Same H1 H2 → H2 d = some (.xd [(fl, v)]) → Q (.ref C) (some d) H2) (mono : ∀ {A B : List V → Hp → Prop}, (∀ vs H1, A vs H1 → B vs H1) → ta σ H A → ta σ H B) : tMkO C (sp_init K fl) [] ta σ H Q := by
  refine mono ?_ h
  rintro vs H1 ⟨v, rfl, k⟩
  refine ⟨by show 1 ≤ 1000; decide, fun a na => ⟨a, C, v, rfl, T, no, upd_same, fun dx nd da => ⟨rfl, dx, [(fl, v)], upd_same, ?_, ?_, ?_⟩⟩⟩
  · rw [upd_ne da, upd_same]
  · rw [upd_ne da] at nd
    exact nd
  · have nd1 : H1 dx = none := by
      rw [upd_ne da] at nd
      exact nd
    refine k dx _ (fun b o hb => ?_) upd_same
    rw [upd_ne (ne_of_none hb nd1), del_ne (ne_of_none hb na), upd_ne (ne_of_none hb na), upd_ne (ne_of_none hb nd1), upd_ne (ne_of_none hb na)]
    exact hb
end Sm

set_option Elab.async false
set_option linter.all false
set_option maxRecDepth 100000
set_option maxHeartbeats 4000000
namespace Sm
open PySem PySem.Spec PyProof.Rows L2
/-! ### own exception classes over LookupError, whose __init__ stores one field -/
abbrev luTail : List Value := [.type "LookupError", .type "Exception", .type "BaseException", .type "object"]
/-- what the written part says of such a class -/
structure OexL (K : PySem.W.Frag) (C : Addr) : Prop where
  obj : ∃ nm q N bs bm sn sub ab col dd k0 k1 k2 k3 k5, K.lookup C = some (excClassObj nm q C N bs bm true sn sub ab col dd k0 k1 k2 k3 k5 "LookupError.__new__") ∧ PySem.W.excTail luTail bm = true
  facts : PySem.W.findIn K (.ref C) "__setattr__" = some (some (.builtin "object.__setattr__")) ∧ PySem.W.subIn K (.ref C) (.type "BaseException") = some true ∧ PySem.W.typeIn K (.ref C) = some (.type "type") ∧ PySem.W.keepIn K (.ref C) = true
section
open Builtin Builtin.ObjectAttr
variable {prog : Program} {w : World} {A : Around} {hp : Heap} {g : Array GenState} {dw : Drawn} {t : Nat} {os : OsState} {R : Result → Shared → Prop}
/-- object.__setattr__(x, name, v), x an exception without a dict whose class stands over a built-in one -/
theorem lu_store {K : PySem.W.Frag} {B : String} {bmB : List Value} {name : Str} {tk : Tok} {v : Value} {x C : Addr} {fv : Array Value} {cd : ClassData} (SF : StoreFacts B bmB "object.__setattr__" "object")
    (kin : K.In hp) (there : hp.get? x = some { cls := .ref C, data := .fields fv }) (known : PySem.W.clsIn K C = some cd) (over : PySem.W.excOver K C bmB = true) (dict : cd.hasDict = true) (no : PySem.W.findIn K (.ref C) name = some none)
    (told : ∀ h' tk' dx, (∀ b o, b ≠ x → hp.get? b = some o → h'.get? b = some o) → hp.objs.size ≤ dx → dx ≠ x → h'.get? x = some { cls := .ref C, dict := some dx, data := .fields fv } → h'.Ns1 dx (fun y => if y = name then some v else none) → R (.ok (.ret .none)) ⟨h', g, dw, tk', os⟩) :
    codeAny (model prog w) A (.call (.builtin "object.__setattr__") ⟨[.ref x, .str name tk, v], []⟩) R ⟨hp, g, dw, t, os⟩ := by
  have at_ : PySem.W.InstAt hp x { cls := .ref C, data := .fields fv } C none := ⟨there, rfl, rfl, trivial⟩
  have taker : PySem.W.takerIn K C name = some none := by unfold PySem.W.takerIn; rw [no]; rfl
  refine PySem.W.osa_openX (s := ⟨hp, g, dw, t, os⟩) SF kin at_ over taker fun b => ?_
  have apart : x ≠ hp.objs.size := Nat.ne_of_lt (Heap.lt_size there)
  have kls : PySem.W.Looks (model prog w) hp (classData C) cd := PySem.W.looks_clsIn kin known
  show wpAny _ _ (storeInOwnDict (.ref x) (.ref C) (.str name tk) name v b) _ _ _
  obtain ⟨n1, n2, n3, n4, n5, hd, n6, n7, n8, n9, n10⟩ := cd
  dsimp only at dict
  subst dict
  unfold storeInOwnDict ownDictForStores
  repeat (first | with_reducible refine PySem.HandSPX.store_in_new ?_ ?_ | with_reducible refine wpAny_loadPart_at there ?_ | with_reducible refine kls.at ?_ | wp_step)
  · exact ⟨_, #[], _, (Heap.get?_update_ne _ _ _ _ apart.symm).trans (Heap.get?_push_at rfl rfl), rfl, fun e he => absurd he (by simp), fun _ => rfl⟩
  · intro h' tk' names same
    have on : (hp.push { cls := .type "dict", data := .dict #[] }).get? x = some { cls := .ref C, data := .fields fv } := Heap.get?_push_of_some _ there
    refine told h' tk' hp.objs.size (fun b o hb ho => (same.2 b (Nat.ne_of_lt (Heap.lt_size ho))).trans ((Heap.get?_update_ne _ _ _ _ hb).trans (Heap.get?_push_of_some _ ho))) (Nat.le_refl _) apart.symm ((same.2 x apart).trans (Heap.get?_update_self _ on rfl)) names
end
/-- the abstract heap once the first field of the exception at a stands in its new dict at dx -/
theorem lu_un {fs : List Addr} {H : Hp} {hp h' : Heap} {a C dx : Addr} {f : Str} {y : V} (ea : H a = some (exo a C none)) (dn : hp.objs.size ≤ dx) (nd : H dx = none) (there : ∃ o, h'.get? a = some o)
    (keep : ∀ b o, b ≠ a → hp.get? b = some o → h'.get? b = some o) : Un fs [] H (upd (upd H dx (exd dx [(f, y)])) a (exo a C (some dx))) hp h' := by
  have other : ∀ {b : Addr}, H b = none → b ≠ a := fun {b} n z => by rw [z, ea] at n; cases n
  have young : ∀ {b : Addr} {o : Obj}, hp.get? b = some o → b ≠ dx := fun {b o} q => Nat.ne_of_lt (Nat.lt_of_lt_of_le (Heap.lt_size q) dn)
  constructor
  · intro b o q n _ _
    exact keep b o (other n) q
  · intro b o q n _ _
    exact ⟨o.slots, keep b o (other n) q⟩
  · intro b o q n _
    rw [upd_ne (other n), upd_ne (young q)]
    exact n
  · intro b o q _
    by_cases hb : b = a
    · subst hb; exact there
    · exact ⟨o, keep b o hb q⟩
  · intro b xs q
    rw [upd_ne (at_ne ea q exo_tup), upd_ne (ne_of_none q nd)]; exact q
  · intro b o v q
    rw [upd_ne (at_ne ea q exo_frz), upd_ne (ne_of_none q nd)]; exact q
  · intro b ps q
    exact ⟨#[], by rw [upd_ne (at_ne ea q exo_tbl), upd_ne (ne_of_none q nd), q]; simp⟩
section
variable {X : Cx} {pins : List (Addr × Obj)} {σ : L2.St} {H : Hp} {s : Shared} {a C : Addr} {f : Str} {y : V} {u : Value} {Q : Unit → Shared → Prop} {E : Value → Shared → Prop} {A : Around}
theorem lu_cls {K : PySem.W.Frag} {C : Addr} (T : OexL K C) : ∃ cd, PySem.W.clsIn K C = some cd ∧ cd.hasDict = true ∧ PySem.W.excOver K C luTail = true := by
  obtain ⟨nm, q, N, bs, bm, sn, sub, ab, col, dd, k0, k1, k2, k3, k5, hC, hbm⟩ := T.obj
  have known : PySem.W.clsIn K C = some { name := nm, bases := bs, mro := .ref C :: bm, ns := N, qualname := q, hasDict := true, slotNames := sn, subclasses := sub, abstract := ab, collection := col, hasDel := false } := by unfold PySem.W.clsIn; rw [hC] <;> rfl
  refine ⟨_, known, rfl, ?_⟩
  unfold PySem.W.excOver
  rw [known]
  show (C == C && PySem.W.excTail luTail bm) = true
  rw [hbm, beq_self_eq_true]
  rfl
/-- self.f = y in __init__ -/
theorem lu_ost (T : OexL X.K C) (I : Inv X pins σ H s) (e : H a = some (exo a C none)) (no : PySem.W.findIn X.K (.ref C) f = some none) (ry : RelV y u)
    (h : ∀ dx s', H dx = none → dx ≠ a → Inv X pins σ (upd (upd H dx (exd dx [(f, y)])) a (exo a C (some dx))) s' → Q () s') : wpAny (model X.prog X.w) A (setAttr (.ref a) f u) Q E s := by
  obtain ⟨cd, known, dict, over⟩ := lu_cls T
  obtain ⟨t1, ho⟩ := exo_at I.hok e
  obtain ⟨hp, g, d, t, os⟩ := s
  refine PySem.W.set_plain I.kIn (od := none) ⟨ho, rfl, rfl, trivial⟩ T.facts.1 (lu_store PySem.F.store_LookupError I.kIn ho known over dict no fun h' tk' dx k dn dne hx hn => ?_)
  have nd : H dx = none := I.hok.fresh dn
  refine h dx _ nd dne (I.un (t' := tk') (lu_un e dn nd ⟨_, hx⟩ k) fun b o q => ?_)
  by_cases hb : b = a
  · subst hb
    rw [upd_same] at q; cases q
    exact exo_ok hx
  rw [upd_ne hb] at q
  by_cases hd : b = dx
  · subst hd
    rw [upd_same] at q; cases q
    exact exd_ok hn (relO_put (fs := []) ry fun g => True.intro)
  rw [upd_ne hd] at q
  refine (I.hok b o q).stay (fun c v hc z => k c v ?_ z) (fun c hc => ?_) (fun c xs hc => ?_)
  · rcases hc with hc | hc
    · rw [hc]; exact hb
    · exact at_ne e hc exo_own
  · rw [upd_ne (at_ne e hc exo_own), upd_ne (ne_of_none hc nd)]; exact hc
  · rw [upd_ne (at_ne e hc exo_tup), upd_ne (ne_of_none hc nd)]; exact hc
end
/-- self.f = e -/
def tOsL (K : PySem.W.Frag) (f : Str) (to te : TE) : TS := fun D σ H => te σ H fun y H1 => to σ H1 fun x H2 => ∃ a C : Addr, x = .ref a ∧ OexL K C ∧ PySem.W.findIn K (.ref C) f = some none ∧ H2 a = some (exo a C none) ∧ ∀ dx, H2 dx = none → dx ≠ a → D.nx σ (upd (upd H2 dx (exd dx [(f, y)])) a (exo a C (some dx)))
section
variable {X : Cx} {o e : Expr} {es : List Expr} {to te : TE} {ta : TA} {f : Str} {p p' pos : Pos}
theorem ps_osL (ho : PE X o to) (he : PE X e te) (hs : swapsWith e (some (.Attribute o f p')) pos.line X.env = pure false := by rfl) : PS X (.Assign [.Attribute o f p'] e pos) (tOsL X.K f to te) := by
  refine ⟨fun pins s σ H D I h => plainObj_wpAny_Assign_Attribute (thn (he.run pins s σ H _ I h) ?_) hs⟩
  rintro v s1 ⟨y, H1, I1, r1, q1⟩
  refine thn (ho.run pins s1 σ H1 _ I1 q1) ?_
  rintro u s2 ⟨x, H2, I2, r2, a, C, rfl, T, no, ea, q⟩
  obtain rfl : u = Value.ref a := r2
  exact lu_ost T I2 ea no r1 fun dx s' n ne J => ⟨σ, _, J, q dx n ne⟩
/-- C(e) -/
theorem pmk_oexL {CX : CXT} {x : Str} {C fI : Addr} {k : Nat} {fd : FuncData} {ps : List Str} {sp : Sp} (T : OexL X.K C) (iC : PySem.W.findIn X.K (.ref C) "__init__" = some (some (.ref fI))) (tI : PySem.W.typeIn X.K (.ref fI) = some (.type "function"))
    (F1 : FnOk X.prog X.w X.K X.mg X.base CX k fI fd ps sp) (hr : Room (k + 1) X.A) (hb : Binds X.K fd ps []) (hx : Passes CX X (fun _ _ _ => False)) (hg : Gl X x) (hm : X.mg x = some (.ref C)) (ha : PA X (e :: es) ta)
    (hdb : (x == ("__debug__" : Str)) = false := by decide) (he : starEach (e :: es) X.env = (false, eval e X.env) :: starEach es X.env := by rfl) (hpl : (backTo pos (starEach es X.env)).any (·.1) = false := by rfl) :
    PMk X (.Call (.Name x p) (e :: es) [] pos) (tMkO C sp [] ta) := by
  intro pins s σ H Q I h
  obtain ⟨nm, q, N, bs, bm, sn, sub, ab, col, dd, k0, k1, k2, k3, k5, hC, hbm⟩ := T.obj
  obtain ⟨_, exc, typ, keep⟩ := T.facts
  refine wpAny_Call_Name_kw (ld_glob I hg hm (PySem.W.callWith_K (h₀ := X.base) I.ok.mod.kin keep (thn (ha.run pos pins s σ H _ I h) ?_) he hpl) hdb)
  rintro us s1 ⟨vs, H1, I1, r1, hz, q1⟩
  refine ⟨I1.kIn, ?_⟩
  show wpAny _ _ (call (.ref C) us) _ _ _
  obtain ⟨hp, g, dr, tk, os⟩ := s1
  generalize hn : hp.objs.size = n
  have old : hp.objs.size ≤ n + 1 := by omega
  have hq := q1 (n + 1) (I1.hok.fresh old)
  have kk : ∀ b o, hp.get? b = some o → ((hp.push (PySem.W.kdv_tup us)).push (PySem.HandSPX.excO C n)).get? b = some o := fun b o e => Heap.get?_push_of_some _ (Heap.get?_push_of_some _ e)
  have got : ((hp.push (PySem.W.kdv_tup us)).push (PySem.HandSPX.excO C n)).get? (n + 1) = some (PySem.HandSPX.excO C n) := by subst hn; heap_get
  have I2 : Inv X pins σ (upd H1 (n + 1) (exo (n + 1) C none)) ⟨(hp.push (PySem.W.kdv_tup us)).push (PySem.HandSPX.excO C n), g, dr, tk, os⟩ := I1.laid (t' := tk) (o := exo (n + 1) C none) kk old (exo_ok got)
  have r2 : Vals (V.ref (n + 1) :: (vs ++ [])) (Value.ref (n + 1) :: us) := .cons rfl (by rw [List.append_nil]; exact r1)
  have long : (Value.ref (n + 1) :: us).length = ps.length := r2.length.symm.trans (F1.len _ _ _ _ hq)
  have few : us.length ≤ sizeLine := by rw [← Paired.length r1, sizeLine_eq]; omega
  have ran := F1.run _ X.stack _ _ ⟨Value.ref (n + 1) :: us, []⟩ (Value.ref (n + 1) :: us) _ _ (fun _ _ _ => False) (hr.make C us []) (I2.env0.make C us []) (by have b := hb ⟨(hp.push (PySem.W.kdv_tup us)).push (PySem.HandSPX.excO C n), g, dr, tk, os⟩ (Value.ref (n + 1) :: us) I2.kIn (by rw [List.append_nil]; exact long); rw [List.append_nil] at b; exact b) r2 hq
  subst hn
  refine wpAny_call (PySem.HandSPX.call_own PySem.F.excBase_LookupError (fun Y => PySem.W.excTail_contains Y bm hbm) (I1.kIn _ _ hC) (PySem.W.looks_findIn I1.kIn iC) (fun self => PySem.W.bind_fn I1.kIn self tI) few (codeAny_mono ran ?_))
  rintro (er | fl) s' hq'
  · exact hx pins σ _ _ er s' I2 hq'
  match fl, hq' with
  | .next, z => exact False.elim z
  | .brk, z => exact False.elim z
  | .cont, z => exact False.elim z
  | .ret u, ⟨v, H2, os2, bare2, un2, hok2, rv, ev, d, fs, ea, ed, hd1, q2⟩ =>
    subst ev
    obtain ⟨h2, g2, d2, t2, os'⟩ := s'
    exact ⟨rv, mk_end (raises_own exc typ) I1 old kk un2 hok2 os2 bare2 ea ed hd1 q2⟩
end
/-- __init__(self, f): self.f = f -/
def sp_initL (K : PySem.W.Frag) (fl : Str) : Sp := fun vs H Q _ => ∃ (a C : Addr) (v : V), vs = [.ref a, v] ∧ OexL K C ∧ PySem.W.findIn K (.ref C) fl = some none ∧ H a = some (exo a C none) ∧ ∀ dx, H dx = none → dx ≠ a → Q .non (upd (upd H dx (exd dx [(fl, v)])) a (exo a C (some dx)))
theorem xc_mkL {C : Addr} {fl : Str} {K : PySem.W.Frag} {ta : TA} {σ : L2.St} {H : Hp} {Q : XK} (T : OexL K C) (no : PySem.W.findIn K (.ref C) fl = some none)
    (h : ta σ H fun vs H1 => ∃ v, vs = [v] ∧ ∀ d H2, Same H1 H2 → H2 d = some (.xd [(fl, v)]) → Q (.ref C) (some d) H2) (mono : ∀ {A B : List V → Hp → Prop}, (∀ vs H1, A vs H1 → B vs H1) → ta σ H A → ta σ H B) : tMkO C (sp_initL K fl) [] ta σ H Q := by
  refine mono ?_ h
  rintro vs H1 ⟨v, rfl, k⟩
  refine ⟨by show 1 ≤ 1000; decide, fun a na => ⟨a, C, v, rfl, T, no, upd_same, fun dx nd da => ⟨rfl, dx, [(fl, v)], upd_same, ?_, ?_, ?_⟩⟩⟩
  · rw [upd_ne da, upd_same]
  · rw [upd_ne da] at nd
    exact nd
  · have nd1 : H1 dx = none := by
      rw [upd_ne da] at nd
      exact nd
    refine k dx _ (fun b o hb => ?_) upd_same
    rw [upd_ne (ne_of_none hb nd1), del_ne (ne_of_none hb na), upd_ne (ne_of_none hb na), upd_ne (ne_of_none hb nd1), upd_ne (ne_of_none hb na)]
    exact hb
theorem kit_typ {K : PySem.W.Frag} {D : Addr} {b : Bool} {n : String} (hm : PySem.W.kitMeta n = true) (h : PySem.W.subIn K (.ref D) (.type n) = some b) : PySem.W.kitOne K (.ref D) (.type n) = some b := by
  have q : ((Value.ref D) == (Value.type n)) = false := beq_eq_false_iff_ne.mpr fun z => nomatch z
  unfold PySem.W.kitOne
  rw [if_neg (by rw [q]; exact Bool.false_ne_true)]
  show (if PySem.W.kitMeta n = true then PySem.W.subIn K (.ref D) (.type n) else none) = some b
  rw [if_pos hm]
  exact h
end Sm

set_option Elab.async false
set_option linter.all false
set_option maxRecDepth 100000
set_option maxHeartbeats 4000000
namespace Sm
open PySem PySem.Spec PyProof.Rows L2 LamX
/-- told: try: return a() / except e as n: a suite that is told by ts -/
def TAs (K : PySem.W.Frag) (CS : Addr) (Ng : List Str) (i : Nat) (ts : Addr → Value → Option Addr → TS) : (XK → Hp → VK → Prop) → Hp → VK → Prop := fun tl H Q =>
  tl (fun cls d H' => ∃ b, PySem.W.exmOne K cls (.ref CS) = some b ∧ (b = true → ∀ (σ : L2.St) (c : Addr), σ.length = Ng.length → H' c = none → ts c cls d { nx := fun _ H2 => Q .non H2, rt := Q } (σ.set i (some (.ref c))) H') ∧ (b = false → False)) H Q
theorem set_read {σ : L2.St} {N : List Str} {n : Str} {i : Nat} {v : V} (h : σ.length = N.length) (hi : N[i]? = some n) : (σ.set i (some v))[i]? = some (some v) := by
  have := (List.getElem?_eq_some_iff.mp hi).1
  rw [List.getElem?_set_self (by omega)]
/-- where an exception is taken, all slots are there -/
theorem takes_len {X : Cx} {W : WX} (t : Takes X W) : Takes X (fun cls d σ H => σ.length = X.N.length → W cls d σ H) := fun u s' z => by
  obtain ⟨a, B, sI, pins, σ, H, cls, d, e, I, nb, up, sky, na, os, ag, w⟩ := z
  exact t u s' ⟨a, B, sI, pins, σ, H, cls, d, e, I, nb, up, sky, na, os, ag, w I.len⟩
section
variable {X : Cx} {Ng : List Str} {x a e n q : Str} {sg : Scope} {g CS : Addr} {cdg : Value} {i : Nat} {b₀ : Stmt} {suite : List Stmt} {p1 p2 p3 p4 p5 p6 : Pos} {ts : Addr → Value → Option Addr → TS}
/-- the def that calls what it got and holds the exception in a suite of its own -/
theorem as_gives (hge : sg.names.lookup e = some .globalImplicit) (hme : X.mg e = some (.ref CS)) (hde : (e == ("__debug__" : Str)) = false) (h0 : ∀ f : Addr, (L2.start Ng [V.ref f])[0]? = some (some (V.ref f))) (nd : Ng.Nodup) (hi : Ng[i]? = some n)
    (hln : ∀ (s : Shared) (H : Hp), (cxOf C8.CX0 X.prog X.w X.K X.mg X.base Ng x sg g cdg X.A X.stack s H C8.E0).nox.env.kindOf n = some .local)
    (hsu : ∀ (s : Shared) (H : Hp) (c : Addr) (oe : Obj) (cls : Value) (d : Option Addr) (pn : List (Addr × Obj)), Zc cls d oe → (∃ vs, oe.data = .fields vs) → PSs ((cxOf C8.CX0 X.prog X.w X.K X.mg X.base Ng x sg g cdg X.A X.stack s H C8.E0).nox.suite c ((c, oe) :: pn)) (b₀ :: suite) (ts c cls d)) :
    GivesTo X Ng x sg g cdg [.Try [.Return (some (.Call (.Name a p1) [] [] p2)) p3] [.ExceptHandler (some (.Name e p4)) (some n) (b₀ :: suite) p5] [] [] p6] a q (TAs X.K CS Ng i ts) := by
  intro f c' s H Q tl act known told
  let Z := (cxOf C8.CX0 X.prog X.w X.K X.mg X.base Ng x sg g cdg X.A X.stack s H C8.E0).nox
  have glob : Gl Z e := hge
  let body : WX → TS := fun W D σ H1 => ∃ out : XK, (∀ cls d (σ' : L2.St) H', out cls d H' → σ'.length = Ng.length → W cls d σ' H') ∧ σ[0]? = some (some (.ref f)) ∧ H1 c' = some (CodeO c' q) ∧ tl out H1 D.rt
  have inner : ∀ (W : WX) (pn : List (Addr × Obj)) (xe : Value → Shared → Prop), Takes (Z.tr pn xe) W → PassesOwn (model Z.prog Z.w) Z.A Z.env xe → PSs (Z.tr pn xe) [.Return (some (.Call (.Name a p1) [] [] p2)) p3] (body W) := by
    intro W pn xe tk _
    refine ⟨fun pins s' σ H' D I told' => ?_⟩
    obtain ⟨out, hW, h1, h2, h3⟩ := told'
    exact (pss_one (ps_ret (pos := p3) (act _ pn xe out p1 p2 (takes_len tk) hW))).run pins s' σ H' D I ⟨h1, h2, h3⟩
  refine ⟨_, pss_one (ps_try_as (X := Z) (c := .ref CS) (i := i) (tb := body) (ts := ts) (Wout := fun _ _ _ _ => False) rfl rfl nd hi (hln s H) ⟨glob, hde, .inl hme⟩ L2.takes0 inner (fun c oe cls d pn hz hf => hsu s H c oe cls d pn hz hf)), ?_⟩
  exact ⟨_, fun cls d σ' H' w len => by
    obtain ⟨b, e1, e2, e3⟩ := w
    exact ⟨b, e1, fun hb c nc => e2 hb σ' c len nc, fun hb => e3 hb⟩, h0 f, known, told⟩
end
end Sm

set_option Elab.async false
set_option linter.all false
set_option maxRecDepth 100000
set_option maxHeartbeats 4000000
namespace Sm
open PySem PySem.Spec PyProof.Rows L2 LamX
/-- repr of a value of any kind, in an except suite too -/
theorem call_reprU {X : Cx} (gu : X.A.guards = some []) (un : X.A.units + 100 < cLine) : CallR X (.builtin "repr") (rReprQ X.K) := by
  rintro pins s σ H xs us Q I rel ⟨v, d, rfl, data, sh, dep, len, q⟩
  obtain ⟨u, rfl, ru⟩ := vals1 rel
  obtain ⟨as, reads, ns⟩ := Dq.reads I d _ u data ru
  have at_ : ∀ a, u = .ref a → _ := fun a e => repr_of_reads' (A := X.A) (s := s) (prog := X.prog) (w := X.w) (E := X.xe) (Q := fun y s' => ∃ z H2, Inv X pins σ H2 s' ∧ RelV z y ∧ Q z H2) (by rw [← e]; exact reads) sh (fun _ => ns) gu (by omega) (fun _ _ e => e) (fun h' v tk keep => ⟨.str d.shown, H, I.kept keep, ⟨_, rfl⟩, q⟩) len
  cases data with
  | non => cases ru; exact PySem.P.repr_of_none ⟨.str _, H, I.tok _, ⟨_, rfl⟩, q⟩
  | bl b => cases ru; exact PySem.P.repr_of_bool ⟨.str _, H, I.tok _, ⟨_, rfl⟩, by cases b <;> exact q⟩
  | int i => obtain ⟨t, rfl⟩ := ru; exact PySem.P.repr_of_int (of_decide_eq_true (by simpa [PyData.showable] using sh)) ⟨.str _, H, I.tok _, ⟨_, rfl⟩, q⟩
  | str x => obtain ⟨t, rfl⟩ := ru; exact PySem.P.repr_of_str ⟨.str _, H, I.tok _, ⟨_, rfl⟩, q⟩ len
  | lst e1 e2 e3 => cases ru; exact at_ _ rfl
  | tup e1 e2 => cases ru; exact at_ _ rfl
  | dic kvs e1 => cases ru; exact at_ _ rfl
section
variable {X : Cx} {pins : List (Addr × Obj)} {σ : L2.St} {H : Hp} {s : Shared}
/-- a local name read, nothing else happens -/
theorem ld_var {E : Value → Shared → Prop} {Q : Value → Shared → Prop} {i : Nat} {x : Str} {pos : Pos} {v : V} (I : Inv X pins σ H s) (named : X.N[i]? = some x) (seen : Vis X.env.scope x) (e : σ[i]? = some (some v)) (h : ∀ u, RelV v u → Q u s)
    (hd : (x == ("__debug__" : Str)) = false := by decide) (hcd : (x == ("__classdict__" : Str)) = false := by decide) : wpAny (model X.prog X.w) X.A (eval (.Name x pos) X.env) Q E s := by
  obtain ⟨m, hn, hl⟩ := I.loc
  obtain ⟨u, r, l⟩ := hl i x v named e seen
  rcases l with ⟨hk, hm⟩ | ⟨hk | hk, c, hc, hcell⟩
  · exact wpAny_Name (wpAny_loadName_local I.ok.kind hk hn hm (h u r)) hd
  · exact wpAny_Name (wpAny_loadName_cell I.ok.kind hk hc hcell (h u r)) hd
  · exact wpAny_Name (wpAny_loadName_free I.ok.kind hk hc hcell (h u r) hcd) hd
/-- x() in the def that got the lambda: what is raised is taken at the very slots -/
theorem pe_actS {Ng : List Str} {qg : Str} {sg : Scope} {g f c' : Addr} {cdg pm ctv : Value} {params : Arguments} {body : Expr} {scope : Scope} {k i : Nat} {a : Str} {pn : List (Addr × Obj)} {xe : Value → Shared → Prop} {W : WX} {E : XK} {tb : TE} {p1 p2 : Pos} (σ0 : L2.St)
    (I : Inv X pins σ H s) (L : LamS X.env.scope scope) (hf : s.heap.get? f = some (PySem.W.kla_obj "<lambda>" (X.env.qual ++ "<lambda>") params body scope (cloFrom X.env.cells scope.names []) pm c' ctv)) (hfn : H f = none) (hfr : f ∉ frs X.stack)
    (hbind : bindArgs (PySem.W.kla_fn "<lambda>" (X.env.qual ++ "<lambda>") params body scope (cloFrom X.env.cells scope.names []) pm (.ref c') ctv) ⟨[], []⟩ = pure [])
    (tk : Takes ((cxOf C8.CX0 X.prog X.w X.K X.mg X.base Ng qg sg g cdg X.A X.stack s H C8.E0).tr pn xe) W) (hW : ∀ cls d H', E cls d H' → W cls d σ0 H') (hr : Room (k + 1) (X.A.deeper (envOfC qg sg s.heap.objs.size g cdg)))
    (hbody : ∀ (A : Around) (outer : List Env) (s : Shared) (H : Hp), Room k (A.deeper (lamEnv X scope s.heap.objs.size f c')) → PE (lamCx X A outer s H E scope f c') body tb)
    (hN : Ng[i]? = some a) (hv : Vis sg a) (hd : (a == ("__debug__" : Str)) = false := by decide) (hcd : (a == ("__classdict__" : Str)) = false := by decide) :
    PE ((cxOf C8.CX0 X.prog X.w X.K X.mg X.base Ng qg sg g cdg X.A X.stack s H C8.E0).tr pn xe) (.Call (.Name a p1) [] [] p2) (fun σZ HZ Q => σZ = σ0 ∧ σZ[i]? = some (some (.ref f)) ∧ HZ c' = some (CodeO c' (X.env.qual ++ "<lambda>")) ∧ tb σ HZ Q) := by
  refine ⟨fun pinsZ sZ σZ HZ Q IZ h => ?_⟩
  obtain ⟨rfl, hs, hc, ht⟩ := h
  refine wpAny_Call_Name_kw (ld_var IZ (pos := p1) (i := i) hN hv hs (fun u r1 => ?_) hd hcd)
  obtain rfl : u = Value.ref f := r1
  have of1 := IZ.base.keep f _ hf hfn hfr (fun z => nomatch (show f ∈ ([] : List Addr) from z))
  refine PySem.W.callWith_F0 ⟨_, _, _, _, of1⟩ ?_
  have un : Un (frs X.stack) [] H HZ s.heap sZ.heap := IZ.base
  obtain ⟨⟨oc, vs, t, hoc, hdc, hvc⟩, _, _⟩ := IZ.hok c' _ hc
  have ran : codeAny (model X.prog X.w) (X.A.deeper (envOfC qg sg s.heap.objs.size g cdg)) (.call (.ref f) ⟨[], []⟩) (CR (L2.CX X.prog X.w) (envOfC qg sg s.heap.objs.size g cdg :: X.stack) X.prog X.w HZ sZ Q E) sZ := by
    refine PySem.W.kla_callFunE hr.depth of1 rfl L.co L.gen rfl ⟨c', oc, vs, t, rfl, hoc, hdc, hvc⟩ ?_
    rw [hbind]
    refine wpAny_pure (wpAny_newFunctionEnv (fun y hy => (L.own y hy).2) (fun y hy => absurd hy (by simp)) (fun h₁ names same => ⟨IZ.nolimit.fresh _ same, ?_⟩) L.kind)
    have keep : ∀ b o, sZ.heap.get? b = some o → h₁.get? b = some o := fun b o e => same.extBut b o (Nat.ne_of_lt (Heap.lt_size e)) (Heap.get?_push_of_some _ e)
    refine PySem.W.kla_codeExpr (wpAny_mono ((hbody _ _ sZ HZ (hr.deeper _)).run [] _ _ HZ Q (lam_start2 I L IZ.env0 hr.hd un names keep) ht) ?_ fun e s' hq => hq)
    rintro v s' ⟨w', H', J', rv, q⟩
    exact ⟨w', H', J'.os, J'.bare, J'.base, J'.hok, rv, q⟩
  refine wpAny_call (codeAny_mono ran ?_)
  rintro (e | fl) s' hq
  · exact tk e s' (XE.of_call IZ (fun cls d H' h => hW cls d H' h) hq)
  match fl, hq with
  | .ret u, hq => exact IZ.after hq
  | .next, hq => exact False.elim hq
  | .brk, hq => exact False.elim hq
  | .cont, hq => exact False.elim hq
end
/-- the def that gets a lambda and a value: TT tells what it makes of both -/
def Gives2 (X : Cx) (Ng : List Str) (x : Str) (sg : Scope) (g : Addr) (cdg : Value) (bg : List Stmt) (a : Str) (q : Str) (TT : V → (XK → Hp → VK → Prop) → Hp → VK → Prop) : Prop :=
  ∀ (f c' : Addr) (s : Shared) (H : Hp) (v : V) (Q : VK) (tl : XK → Hp → VK → Prop),
    (∀ (W : WX) (pn : List (Addr × Obj)) (xe : Value → Shared → Prop) (E : XK) (p1 p2 : Pos) (σ0 : L2.St), Takes ((cxOf C8.CX0 X.prog X.w X.K X.mg X.base Ng x sg g cdg X.A X.stack s H C8.E0).tr pn xe) W → (∀ cls d H', E cls d H' → W cls d σ0 H') →
      PE ((cxOf C8.CX0 X.prog X.w X.K X.mg X.base Ng x sg g cdg X.A X.stack s H C8.E0).tr pn xe) (.Call (.Name a p1) [] [] p2) (fun σZ HZ Q => σZ = σ0 ∧ σZ[0]? = some (some (.ref f)) ∧ HZ c' = some (CodeO c' q) ∧ tl E HZ Q)) →
    H c' = some (CodeO c' q) → TT v tl H Q →
    ∃ t, PSs (cxOf C8.CX0 X.prog X.w X.K X.mg X.base Ng x sg g cdg X.A X.stack s H C8.E0).nox bg t ∧ t { nx := fun _ H' => Q .non H', rt := Q } (L2.start Ng [.ref f, v]) H
def tLam2 (T : List (Addr × Str)) (TT : V → (XK → Hp → VK → Prop) → Hp → VK → Prop) (t : XK → TE) (j : Nat) : TE := fun σ H Q => Tabs T H ∧ ∃ v, σ[j]? = some (some v) ∧ ∀ H1, ExtN H H1 → Tabs T H1 → TT v (fun E H' Q' => t E σ H' Q') H1 Q
section
variable {X : Cx}
/-- x(lambda: body, y) -/
theorem pe_lamcall2 {T : List (Addr × Str)} {TT : V → (XK → Hp → VK → Prop) → Hp → VK → Prop} {x a b y : Str} {g c P : Addr} {k j : Nat} {pg : Arguments} {bg : List Stmt} {sg : Scope} {dV kV doc pm cdv ct oc : Value} {an od : Option Addr} {osl : Array (Option Value)} {Ng : List Str}
    {params : Arguments} {body : Expr} {scope : Scope} {t : XK → TE} {p lpos pos py : Pos} (hg : Gl X x) (hm : X.mg x = some (.ref g)) (hk : PySem.W.keepIn X.K (.ref g) = true)
    (lk : X.K.lookup g = some ⟨oc, od, .func (PySem.W.fnOf x x pg bg sg dV kV doc pm an cdv ct), osl⟩) (hcg : PySem.W.codeIn X.K cdv x = true) (hb : L2.Binds X.K (PySem.W.fnOf x x pg bg sg dV kV doc pm an cdv ct) [a, b] []) (Sg : FnScope Ng [a, b] sg) (hNg : Ng[0]? = some a) (hva : Vis sg a)
    (hG : Gives2 X Ng x sg g cdv bg a (X.env.qual ++ "<lambda>") TT)
    (TB : TabB X.base X.mg c P) (hcode : X.env.code = .ref c) (hmT : (P, X.env.qual ++ "<lambda>") ∈ T) (hu : ∀ p ∈ T, p.1 = P → p.2 = X.env.qual ++ "<lambda>") (hr : Room (k + 2) X.A) (L : LamS X.env.scope scope) (hdef : defaultsOf params X.env = ([], []))
    (hbind : ∀ (q : Str) (cl : List (Str × Addr)) (pm cv ctv : Value), bindArgs (PySem.W.kla_fn "<lambda>" q params body scope cl pm cv ctv) ⟨[], []⟩ = pure [])
    (hbody : ∀ (A : Around) (outer : List Env) (s : Shared) (H : Hp) (E : XK) (f c' : Addr), Room k (A.deeper (lamEnv X scope s.heap.objs.size f c')) → PE (lamCx X A outer s H E scope f c') body (t E))
    (named : X.N[j]? = some y) (seen : Vis X.env.scope y)
    (hdb : (x == ("__debug__" : Str)) = false := by decide) (hd : (a == ("__debug__" : Str)) = false := by decide) (hcd : (a == ("__classdict__" : Str)) = false := by decide) (hyd : (y == ("__debug__" : Str)) = false := by decide) (hycd : (y == ("__classdict__" : Str)) = false := by decide) :
    PE X (.Call (.Name x p) [.Lambda params body scope lpos, .Name y py] [] pos) (tLam2 T TT t j) := by
  refine ⟨fun pins s σ H Q I h => ?_⟩
  obtain ⟨hT, v, hv, h⟩ := h
  refine wpAny_Call_Name_kw (ld_glob I hg hm (PySem.W.callWith_K (h₀ := X.base) I.ok.mod.kin hk ?_ (by rfl) (by rfl)) hdb)
  show wpAny _ _ (spliced ((false, eval (.Lambda params body scope lpos) X.env) :: backTo pos (starEach [.Name y py] X.env))) _ _ s
  refine Calls.spliced_cons (lam_make2 I TB hcode hmT hu hT hdef (L.has I.ok) ?_)
  intro f c' pm' ctv H1 s' I1 eN T1 hf hfn hfr hco
  show wpAny _ _ (spliced ((false, eval (.Name y py) X.env) :: backTo pos (starEach [] X.env))) _ _ s'
  refine Calls.spliced_cons (ld_var I1 named seen hv (fun u r1 => ?_) hyd hycd)
  refine Calls.spliced_nil ⟨I1.kIn, ?_⟩
  have ran : codeAny (model X.prog X.w) X.A (.call (.ref g) ⟨[.ref f, u], []⟩) (CR C8.CX0 X.stack X.prog X.w H1 s' Q C8.E0) s' := by
    refine run_ofS (N := Ng) (ps := [a, b]) (us := [.ref f, u]) (vs := [.ref f, v]) lk hcg Sg hr I1.env0 (hb s' [.ref f, u] I1.kIn rfl) (.cons rfl (.cons r1 .nil)) rfl fun room => ?_
    obtain ⟨t', got, fine⟩ := hG f c' s' H1 v Q (fun E H' Q' => t E σ H' Q') (fun W pn xe E p1 p2 σ0 tk hW => pe_actS (i := 0) σ0 I1 L hf hfn hfr (hbind _ _ _ _ _) tk hW room (fun A outer s H r2 => hbody A outer s H E f c' r2) hNg hva hd hcd) hco (h H1 eN T1)
    exact ⟨t', got.nox, fine⟩
  refine wpAny_call (codeAny_mono ran ?_)
  rintro (e | fl) s2 hq
  · exact (show False from hq).elim
  match fl, hq with
  | .ret u, hq => exact I1.after hq
  | .next, hq => exact False.elim hq
  | .brk, hq => exact False.elim hq
  | .cont, hq => exact False.elim hq
/-- try: a() / except e as n: a suite that is told by ts -/
def tActAs (K : PySem.W.Frag) (CS f c' : Addr) (q : Str) (i : Nat) (ts : Addr → Value → Option Addr → TS) (tl : XK → Hp → VK → Prop) : TS := fun D σ H => σ[0]? = some (some (.ref f)) ∧ H c' = some (CodeO c' q) ∧
  tl (fun cls d H' => wAs K (.ref CS) i ts (fun _ _ _ _ => False) D cls d σ H') H (fun _ H' => D.nx σ H')
theorem ps_act_as {Ng : List Str} {x a e n q : Str} {sg : Scope} {g CS f c' : Addr} {cdg : Value} {i : Nat} {b₀ : Stmt} {suite : List Stmt} {p1 p2 p3 p4 p5 p6 : Pos} {ts : Addr → Value → Option Addr → TS} {s : Shared} {H : Hp} {tl : XK → Hp → VK → Prop}
    (hge : sg.names.lookup e = some .globalImplicit) (hme : X.mg e = some (.ref CS)) (hde : (e == ("__debug__" : Str)) = false) (nd : Ng.Nodup) (hi : Ng[i]? = some n)
    (hln : (cxOf C8.CX0 X.prog X.w X.K X.mg X.base Ng x sg g cdg X.A X.stack s H C8.E0).nox.env.kindOf n = some .local)
    (act : ∀ (W : WX) (pn : List (Addr × Obj)) (xe : Value → Shared → Prop) (E : XK) (p1 p2 : Pos) (σ0 : L2.St), Takes ((cxOf C8.CX0 X.prog X.w X.K X.mg X.base Ng x sg g cdg X.A X.stack s H C8.E0).tr pn xe) W → (∀ cls d H', E cls d H' → W cls d σ0 H') →
      PE ((cxOf C8.CX0 X.prog X.w X.K X.mg X.base Ng x sg g cdg X.A X.stack s H C8.E0).tr pn xe) (.Call (.Name a p1) [] [] p2) (fun σZ HZ Q => σZ = σ0 ∧ σZ[0]? = some (some (.ref f)) ∧ HZ c' = some (CodeO c' q) ∧ tl E HZ Q))
    (hsu : ∀ (c : Addr) (oe : Obj) (cls : Value) (d : Option Addr) (pn : List (Addr × Obj)), Zc cls d oe → (∃ vs, oe.data = .fields vs) → PSs ((cxOf C8.CX0 X.prog X.w X.K X.mg X.base Ng x sg g cdg X.A X.stack s H C8.E0).nox.suite c ((c, oe) :: pn)) (b₀ :: suite) (ts c cls d)) :
    PS (cxOf C8.CX0 X.prog X.w X.K X.mg X.base Ng x sg g cdg X.A X.stack s H C8.E0).nox (.Try [.Expr (.Call (.Name a p1) [] [] p2) p3] [.ExceptHandler (some (.Name e p4)) (some n) (b₀ :: suite) p5] [] [] p6) (tActAs X.K CS f c' q i ts tl) := by
  let Z := (cxOf C8.CX0 X.prog X.w X.K X.mg X.base Ng x sg g cdg X.A X.stack s H C8.E0).nox
  have glob : Gl Z e := hge
  let tried : WX → TS := fun W D σ H1 => ∃ out : XK, (∀ cls d H', out cls d H' → W cls d σ H') ∧ σ[0]? = some (some (.ref f)) ∧ H1 c' = some (CodeO c' q) ∧ tl out H1 (fun _ H2 => D.nx σ H2)
  have inner : ∀ (W : WX) (pn : List (Addr × Obj)) (xe : Value → Shared → Prop), Takes (Z.tr pn xe) W → PassesOwn (model Z.prog Z.w) Z.A Z.env xe → PSs (Z.tr pn xe) [.Expr (.Call (.Name a p1) [] [] p2) p3] (tried W) := by
    intro W pn xe tk _
    refine ⟨fun pins s' σ H' D I told' => ?_⟩
    obtain ⟨out, hW, h1, h2, h3⟩ := told'
    exact (pss_one (ps_expr (pos := p3) (act _ pn xe out p1 p2 σ tk hW))).run pins s' σ H' D I ⟨rfl, h1, h2, h3⟩
  have whole := ps_try_as (X := Z) (c := .ref CS) (i := i) (tb := tried) (ts := ts) (Wout := fun _ _ _ _ => False) (pos := p6) (pos' := p5) (np := p4) rfl rfl nd hi hln ⟨glob, hde, .inl hme⟩ L2.takes0 inner (fun c oe cls d pn hz hf => hsu c oe cls d pn hz hf)
  refine ⟨fun pins s' σ H1 D I h => whole.run pins s' σ H1 D I ?_⟩
  obtain ⟨h1, h2, h3⟩ := h
  exact ⟨_, fun cls d H' h => h, h1, h2, h3⟩
end
end Sm

set_option Elab.async false
set_option linter.all false
set_option maxRecDepth 100000
set_option maxHeartbeats 4000000
namespace Sm
open PySem PySem.Spec PyProof.Rows L2
/-! ### try with several clauses `except C as n`, which together take all that the body raises -/
/-- behind a suite its name is gone -/
def offN (i : Nat) (D : Ends) : Ends := { nx := fun τ K => D.nx (τ.set i none) K, rt := D.rt, bk := fun τ K => D.bk (τ.set i none) K, ct := fun τ K => D.ct (τ.set i none) K }
def wNames (K : PySem.W.Frag) (D : Ends) : List (Value × Nat × (Addr → Value → Option Addr → TS)) → WX
  | [] => fun _ _ _ _ => False
  | (c, i, ts) :: more => fun cls d σ H => ∃ b, PySem.W.exmOne K cls c = some b ∧ (b = true → ∀ e, H e = none → ts e cls d (offN i D) (σ.set i (some (.ref e))) H) ∧ (b = false → wNames K D more cls d σ H)
inductive Clauses (X : Cx) : List ExceptHandler → List (Value × Nat × (Addr → Value → Option Addr → TS)) → Prop
  | nil : Clauses X [] []
  | cons {x n : Str} {c : Value} {i : Nat} {ts : Addr → Value → Option Addr → TS} {first : Stmt} {suite : List Stmt} {p q : Pos} {hds : List ExceptHandler} {more : List (Value × Nat × (Addr → Value → Option Addr → TS))}
      (known : Names X x c) (slot : X.N[i]? = some n) (own : X.env.kindOf n = some .local)
      (told : ∀ (e : Addr) (o : Obj) (cls : Value) (d : Option Addr) (pn : List (Addr × Obj)), Zc cls d o → (∃ vs, o.data = .fields vs) → PSs (X.suite e ((e, o) :: pn)) (first :: suite) (ts e cls d)) (rest : Clauses X hds more) :
      Clauses X (.ExceptHandler (some (.Name x p)) (some n) (first :: suite) q :: hds) ((c, i, ts) :: more)
section
variable {X : Cx} {body : List Stmt} {h₀ : ExceptHandler} {hds : List ExceptHandler} {cl : List (Value × Nat × (Addr → Value → Option Addr → TS))} {pos : Pos} {tb : WX → TS}
theorem ps_try_names (stk : X.stack = X.env :: X.outer) (frm : X.env.frame = some X.env.locals) (nd : X.N.Nodup)
    (inner : ∀ (W : WX) (pn : List (Addr × Obj)) (xe : Value → Shared → Prop), Takes (X.tr pn xe) W → PassesOwn (model X.prog X.w) X.A X.env xe → PSs (X.tr pn xe) body (tb W)) (cs : Clauses X (h₀ :: hds) cl) :
    PS X (.Try body (h₀ :: hds) [] [] pos) (fun D σ H => tb (wNames X.K D cl) D σ H) := by
  refine ⟨fun pins s σ H D I h => wpAny_Try_except ?_⟩
  have ok := I.ok
  refine wpAny_mono ((inner (wNames X.K D cl) (X.pn ++ pins) (fun e s₁ => wpAny (model X.prog X.w) X.A (noteFrame e X.env) (fun _ s₂ => wpAny (model X.prog X.w) X.A (setFlight e none) (fun _ s₃ => wpAny (model X.prog X.w) X.A (handleBy e X.env (h₀ :: hds)) (SP X pins D) X.xe s₃) X.xe s₂) X.xe s₁) ?_ PassesOwn.looking).run [] s σ H D (I.toTry _) h) ?_ (fun e s1 he => he)
  · rintro u s' ⟨a, B, sI, pins', τ, G, cls, d, rfl, J', bare, up, sky, fresh, os, ag, w⟩
    have J : Inv X pins τ G sI := J'.ofTry ok
    have sky2 : Sky B (X.env :: X.outer) a (Zc cls d) X.env.locals s'.heap := by rw [← stk]; exact sky
    show wpAny (model X.prog X.w) X.A (noteFrame (.ref a) X.env) _ _ _
    refine Sky.land Zc.steady (by rw [ok.frames, stk]) frm sky2 fun h3 fly up3 => ?_
    have landed : Inv X pins τ G { s' with heap := h3 } := J.landed bare fly.1 (up.trans up3) os ag
    obtain ⟨o3, vs3, there, kind, data⟩ := fly.there
    have outside : a ∉ frs (X.env :: X.outer) := fun m => by
      obtain ⟨_, o', e', no⟩ := fly.2.2.1.mem m
      rw [there] at e'; cases e'
      exact no _ data
    have nL : a ≠ X.env.locals := fun z => outside (List.mem_filterMap.mpr ⟨X.env, List.mem_cons_self, by rw [frm, z]⟩)
    have nF : a ∉ X.fs := fun m => by
      obtain ⟨e, he, q⟩ := List.mem_filterMap.mp m
      exact outside (List.mem_filterMap.mpr ⟨e, List.mem_cons_of_mem _ he, q⟩)
    have S3 := landed.suite there data fresh nL nF
    have typ : PySem.W.Looks (model X.prog X.w) h3 (typeOf (.ref a)) cls := fun A Q E s k q => wpAny_typeOf_ref (k _ _ there) (by rw [kind.1]; exact q)
    have each : ∀ {hs : List ExceptHandler} {ls : List (Value × Nat × (Addr → Value → Option Addr → TS))}, Clauses X hs ls → wNames X.K D ls cls d τ G → wpAny (model X.prog X.w) X.A (handleBy (.ref a) X.env hs) (SP X pins D) X.xe { s' with heap := h3 } := by
      intro hs ls cs
      induction cs with
      | nil => exact fun w => False.elim w
      | @cons x n c i ts first suite p q hds2 more known slot own told rest ih =>
        rintro ⟨b, asked, yes, no⟩
        refine wpAny_handleBy_cons (codeAny_handlers_test ?_) (by intro q; cases q)
        have match_ := PySem.W.exm_one (M := model X.prog X.w) landed.kIn typ asked
        have named : ∀ {Q : Value → Shared → Prop} {E : Value → Shared → Prop}, Q c { s' with heap := h3 } → wpAny (model X.prog X.w) (X.A.mark (some (.ref a))) (eval (.Name x p) X.env) Q E { s' with heap := h3 } := by
          intro Q E z
          obtain ⟨hg, hdbg, hm | ⟨hm, hv, hnn⟩⟩ := known
          · exact ld_glob (X := X.suite a ((a, o3) :: (X.pn ++ pins))) S3 hg hm z hdbg
          · exact ld_blt (X := X.suite a ((a, o3) :: (X.pn ++ pins))) S3 hg hm hv z hnn hdbg
        refine named (match_.here ?_)
        cases b with
        | false => exact ih (no rfl)
        | true =>
          refine codeAny_handlers_suite_as (HandSPX.lands_againZ fly fun h4 fly4 up4 => ?_)
          have J4 : Inv X pins τ G { s' with heap := h4 } := J.landed bare fly4.1 ((up.trans up3).trans up4) os ag
          obtain ⟨o4, vs4, there4, kind4, data4⟩ := fly4.there
          refine store_ok (X := X.suite a ((a, o4) :: (X.pn ++ pins))) (v := .ref a) (J4.suite there4 data4 fresh nL nF) nd slot (.inl own) rfl (fun s5 S5 => ?_) (.inr own)
          refine wpAny_mono ((told a o4 cls d (X.pn ++ pins) kind4 ⟨_, data4⟩).run [] s5 _ G _ S5 (yes rfl a fresh)) ?_ (fun _ _ z => False.elim z)
          intro fl s6 out
          have gone : ∀ {τ6 : L2.St} {H6 : Hp} {Q : Shared → Prop}, Inv (X.suite a ((a, o4) :: (X.pn ++ pins))) [] τ6 H6 s6 → (∀ s7, Inv X pins (τ6.set i none) H6 s7 → Q s7) → wpAny (model X.prog X.w) X.A (do bindName X.env n .none; unbindBehindTheSuite X.env n q) (fun _ s7 => Q s7) X.xe s6 :=
            fun {τ6 H6 Q} S6 z => gone_ok (S6.unsuite ok) nd slot own z
          match fl, out with
          | .next, ⟨τ6, H6, S6, z⟩ => exact gone S6 fun s7 J7 => ⟨_, _, J7, z⟩
          | .brk, ⟨τ6, H6, S6, z⟩ => exact gone S6 fun s7 J7 => ⟨_, _, J7, z⟩
          | .cont, ⟨τ6, H6, S6, z⟩ => exact gone S6 fun s7 J7 => ⟨_, _, J7, z⟩
          | .ret u, ⟨v6, τ6, H6, S6, r6, z⟩ => exact gone S6 fun s7 J7 => ⟨_, _, _, J7, r6, z⟩
    exact each cs w
  · intro fl s1 out
    match fl, out with
    | .next, ⟨τ, G, J', z⟩ => exact wpAny_execs_nil ⟨τ, G, J'.ofTry ok, z⟩
    | .brk, ⟨τ, G, J', z⟩ => exact ⟨τ, G, J'.ofTry ok, z⟩
    | .cont, ⟨τ, G, J', z⟩ => exact ⟨τ, G, J'.ofTry ok, z⟩
    | .ret u, ⟨v, τ, G, J', r, z⟩ => exact ⟨v, τ, G, J'.ofTry ok, r, z⟩
end
end Sm

set_option Elab.async false
set_option linter.all false
set_option maxRecDepth 100000
set_option maxHeartbeats 4000000
namespace Sm
open PySem PySem.Spec PyProof.Rows L2
/-! ### own exception classes with one field, over ValueError (XVal) and LookupError (XLook): what the written part says of them -/
structure XVal (K : PySem.W.Frag) (mg : Str → Option Value) (nm fl : Str) (C fI : Addr) : Prop where
  g : mg nm = some (.ref C)
  oex : OexC K C
  no : PySem.W.findIn K (.ref C) fl = some none
  iC : PySem.W.findIn K (.ref C) "__init__" = some (some (.ref fI))
  tI : PySem.W.typeIn K (.ref fI) = some (.type "function")
  xf : XfC K C
  ec : ExcC K C
  te : PySem.W.exmOne K (.ref C) (.ref C) = some true
structure XLook (K : PySem.W.Frag) (mg : Str → Option Value) (nm fl : Str) (C fI : Addr) : Prop where
  g : mg nm = some (.ref C)
  oex : OexL K C
  no : PySem.W.findIn K (.ref C) fl = some none
  iC : PySem.W.findIn K (.ref C) "__init__" = some (some (.ref fI))
  tI : PySem.W.typeIn K (.ref fI) = some (.type "function")
  xf : XfC K C
  ec : ExcC K C
  te : PySem.W.exmOne K (.ref C) (.ref C) = some true
/-- the def __init__ of such a class -/
def IniF (K : PySem.W.Frag) (q fl : Str) (st : Stmt) (fI : Addr) : Prop := ∃ fd, Fun K "__init__" q st fI fd ∧ Binds K fd ["self", fl] []
def CalX (P : Program) (w : World) (K : PySem.W.Frag) (mg : Str → Option Value) (base : Heap) (x : Str) (ps : List Str) (k : Nat) (sp : Sp) : Prop :=
  ∃ (f : Addr) (fd : FuncData), FnOk P w K mg base (L2.CX P w) k f fd ps sp ∧ mg x = some (.ref f) ∧ PySem.W.keepIn K (.ref f) = true ∧ Binds K fd ps []
/-- what is raised may be wished for at any slots that are there -/
theorem passL {X : Cx} {W : WX} {P : Program} {w : World} {n : Nat} (tk : Takes X W) (hp : X.prog = P := by rfl) (hw : X.w = w := by rfl) (hn : X.N.length = n := by rfl) : Passes (L2.CX P w) X (fun cls d H => ∀ σ : L2.St, σ.length = n → W cls d σ H) := by
  subst hp hw hn
  exact passes_call (takes_len tk) fun cls d σ H h => h σ
theorem un_mk {k : Nat} {A : Around} {h : Option Value} (r : Room k A) : (A.mark h).units + 100 < cLine := by
  have := r.un
  show A.units + 100 < cLine
  omega
theorem un_of {k : Nat} {A : Around} (r : Room k A) : A.units + 100 < cLine := by have := r.un; omega
/-- isinstance of an own instance -/
structure InsC (K : PySem.W.Frag) (C : Addr) : Prop where
  cl : Cls K C
  ha : PySem.W.findIn K (.ref C) "__class__" = some (some (.builtin "object.__class__"))
  hn : PySem.W.specialIn K (.builtin "object.__class__") "__get__" = some (some (.builtin "getset_descriptor.__get__"))
  ht : PySem.W.takesIn K (.builtin "object.__class__") = some true
  hm : PySem.W.mroIn K C (.type "object") = some true
theorem InsC.ty {K : PySem.W.Frag} {C a dx : Addr} {H : Hp} {fs : List (Str × V)} (c : InsC K C) (e : H a = some (.ins C dx fs)) : TyX K H (.ref a) (.ref C) := .base (.ins e c.cl c.ha c.hn c.ht c.hm)
/-! ### texts of texts -/
theorem ofString_small (s : String) : ∀ c ∈ (Str.ofString s).cps.toList, c < 16 ^ 8 := by
  intro c hc
  rw [signs_ofString] at hc
  obtain ⟨x, _, rfl⟩ := List.mem_map.mp hc
  have h : x.toNat < 1114112 := by
    have := x.valid
    rcases this with h | h
    · exact Nat.lt_trans h (by decide)
    · exact h.2
  exact Nat.lt_trans h (by decide)
end Sm

set_option Elab.async false
set_option linter.all false
set_option maxRecDepth 100000
set_option maxHeartbeats 4000000
namespace Sm
open PySem PySem.Spec PyProof.Rows L2
open Sem (wp)
/-! ### zip's second and later items, when what it handed out first still stands -/
/-- a zip that has handed out the tuple at T -/
abbrev IsZ2 (h : Heap) (z TI TO T : Addr) (b : Bool) : Prop := h.get? z = some { cls := .type "zip", dict := none, data := .fields #[rawInt T, .bool b, .bool false, .ref TI, .ref TO], slots := #[] }
section
variable {prog : Program} {w : World} {A : Around} {E : Value → Shared → Prop} {s : Shared} {z TI TO i1 i2 T : Addr} {fp1 fp2 : List Addr} {n1 n2 i : Nat} {P1 P2 : Nat → Value → Prop} {St1 St2 : Nat → Heap → Prop} {b : Bool} {oT : Obj}
theorem wpAny_alive {a : Addr} {o : Obj} {Q : Option Obj → Shared → Prop} (ho : s.heap.get? a = some o) (h : Q (some o) s) : wpAny (model prog w) A (loadIfAlive a) Q E s := fun Γ p _ => by
  unfold loadIfAlive
  rw [Sem.wp_loadIfAlive, ho]
  exact h
/-- the owned tuple is not free: it says so once -/
theorem owned_kept {Q : Bool → Shared → Prop} (hz : IsZ2 s.heap z TI TO T b) (hT : s.heap.get? T = some oT) (h : ∀ h', IsZ2 h' z TI TO T true → Heap.SameBut z s.heap h' → Q false { s with heap := h' }) : wpAny (model prog w) A (Builtin.SmallTypes.ownedTupleIsFree (.ref z)) Q E s := by
  unfold Builtin.SmallTypes.ownedTupleIsFree
  refine wpAny_bind (wpAny_field hz rfl (x := rawInt T) rfl ?_)
  unfold rawInt
  refine wpAny_bind (wpAny_alive (o := oT) (by rw [Int.toNat_natCast]; exact hT) ?_)
  rw [show (some oT).isNone = false from rfl]
  simp only [Bool.false_eq_true, if_false]
  refine wpAny_bind (wpAny_field hz rfl (x := .bool b) rfl ?_)
  cases b with
  | true =>
    refine wpAny_ite_false (by decide) ?_
    exact wpAny_pure (h s.heap hz (Heap.SameBut.refl z s.heap))
  | false =>
    refine wpAny_ite_true (by decide) ?_
    refine wpAny_bind (wpAny_setField_rec hz (by simp) fun h' hz' hs' => wpAny_pure (h h' hz' hs'))
/-- zip's next item, in a tuple of its own -/
theorem zip_again {Q : Value → Shared → Prop} (S : ZipSep2 z TI TO i1 i2 fp1 fp2) (D1 : Draws prog w A i1 fp1 n1 P1 St1) (D2 : Draws prog w A i2 fp2 n2 P2 St2)
    (hz : IsZ2 s.heap z TI TO T b) (hT : s.heap.get? T = some oT) (hTI : IsTupOf2 s.heap TI (.ref i1) (.ref i2)) (st1 : St1 i s.heap) (st2 : St2 i s.heap) (lt1 : i < n1) (lt2 : i < n2)
    (hQ : ∀ x1 x2 h' tk, P1 i x1 → P2 i x2 → IsZ2 h' z TI TO T true → St1 (i + 1) h' → St2 (i + 1) h' → IsTupOf2 h' s.heap.objs.size x1 x2 →
      (∀ c o, c ≠ z → c ≠ i1 → c ≠ i2 → s.heap.get? c = some o → h'.get? c = some o) → Q (.ref s.heap.objs.size) { s with heap := h', toks := tk }) :
    wpAny (model prog w) A (Builtin.«zip.__next__» ⟨[.ref z], []⟩) (fun fin s' => ∃ v, fin = .done (.ret v) ∧ Q v s') E s := by
  obtain ⟨hp, g, d, tk0, os⟩ := s
  show wpAny _ _ (field (.ref z) 2 >>= _) _ _ _
  refine wpAny_bind (wpAny_field hz rfl (x := .bool false) rfl ?_)
  show wpAny _ _ (field (.ref z) 3 >>= _) _ _ _
  refine wpAny_bind (wpAny_field hz rfl (x := .ref TI) rfl ?_)
  refine wpAny_bind (wpAny_seqItems hTI rfl ?_)
  show wpAny _ _ (Builtin.SmallTypes.ownedTupleIsFree (.ref z) >>= _) _ _ _
  refine wpAny_bind (owned_kept hz hT fun h0 hz0 hs0 => ?_)
  simp only [Bool.false_eq_true, if_false]
  replace hz0 : IsZ2 h0 z TI TO T true := hz0
  replace hs0 : Heap.SameBut z hp h0 := hs0
  rw [← Array.forIn_toList]
  simp only [List.forIn_cons, List.forIn_nil]
  refine wpAny_bind ?_
  refine wpAny_bind (wpAny_bind (wpAny_holding ?_))
  show wpAny _ _ (Builtin.SmallTypes.nextOf (.ref i1) >>= _) _ _ ⟨h0, g, d, tk0, os⟩
  refine wpAny_bind (D1.item i _ _ _ lt1 (D1.over st1 hs0 S.zf1) fun x1 p1 tk1 hx1 sn1 hp1 => wpAny_pure ?_)
  replace hp1 : Heap.SameBut i1 h0 p1 := hp1
  refine wpAny_pure ?_
  refine wpAny_bind (wpAny_bind (wpAny_holding ?_))
  show wpAny _ _ (Builtin.SmallTypes.nextOf (.ref i2) >>= _) _ _ ⟨p1, g, d, tk1, os⟩
  refine wpAny_bind (D2.item i _ _ _ lt2 (D2.over (D2.over st2 hs0 S.zf2) hp1 S.sep1_2) fun x2 p2 tk2 hx2 sn2 hp2 => wpAny_pure ?_)
  replace hp2 : Heap.SameBut i2 p1 p2 := hp2
  refine wpAny_pure (wpAny_pure ?_)
  refine wpAny_bind (wpAny_newTuple ?_ (by show 2 ≤ sizeLine; decide))
  have hsz : p2.objs.size = hp.objs.size := by rw [hp2.1, hp1.1, hs0.1]
  have up : ∀ c o, c ≠ z → c ≠ i1 → c ≠ i2 → hp.get? c = some o → (p2.push { cls := .type "tuple", data := .seq #[x1, x2] }).get? c = some o := fun c o c0 c1 c2 e =>
    Heap.get?_push_of_some _ (hp2.extBut _ _ c2 (hp1.extBut _ _ c1 (hs0.extBut _ _ c0 e)))
  have hz2 : IsZ2 (p2.push { cls := .type "tuple", data := .seq #[x1, x2] }) z TI TO T true := Heap.get?_push_of_some _ (hp2.extBut _ _ S.zi2 (hp1.extBut _ _ S.zi1 hz0))
  have q1 : St1 (i + 1) p2 := D1.over sn1 hp2 S.sep2_1
  refine wpAny_pure ⟨_, rfl, ?_⟩
  show Q (.ref p2.objs.size) ⟨p2.push { cls := .type "tuple", data := .seq #[x1, x2] }, g, d, tk2, os⟩
  rw [hsz]
  have hn : IsTupOf2 (p2.push { cls := .type "tuple", data := .seq #[x1, x2] }) hp.objs.size x1 x2 := by
    have := Heap.get?_push_size p2 (o := { cls := .type "tuple", data := .seq #[x1, x2] }) rfl
    rw [hsz] at this
    exact this
  exact hQ x1 x2 _ tk2 hx1 hx2 hz2 (D1.frame _ _ _ q1 fun b hb o e => Heap.get?_push_of_some _ e) (D2.frame _ _ _ sn2 fun b hb o e => Heap.get?_push_of_some _ e) hn up
theorem zip_again_end {Q : Fin → Shared → Prop} (S : ZipSep2 z TI TO i1 i2 fp1 fp2) (D1 : Draws prog w A i1 fp1 n1 P1 St1)
    (hz : IsZ2 s.heap z TI TO T b) (hT : s.heap.get? T = some oT) (hTI : IsTupOf2 s.heap TI (.ref i1) (.ref i2)) (st1 : St1 n1 s.heap)
    (hE : ∀ h' tk e, (∀ c o, c ≠ z → c ≠ i1 → s.heap.get? c = some o → h'.get? c = some o) → (∃ o, h'.get? e = some o ∧ o.cls = .type "StopIteration") → E (.ref e) { s with heap := h', toks := tk }) :
    wpAny (model prog w) A (Builtin.«zip.__next__» ⟨[.ref z], []⟩) Q E s := by
  obtain ⟨hp, g, d, tk0, os⟩ := s
  show wpAny _ _ (field (.ref z) 2 >>= _) _ _ _
  refine wpAny_bind (wpAny_field hz rfl (x := .bool false) rfl ?_)
  show wpAny _ _ (field (.ref z) 3 >>= _) _ _ _
  refine wpAny_bind (wpAny_field hz rfl (x := .ref TI) rfl ?_)
  refine wpAny_bind (wpAny_seqItems hTI rfl ?_)
  show wpAny _ _ (Builtin.SmallTypes.ownedTupleIsFree (.ref z) >>= _) _ _ _
  refine wpAny_bind (owned_kept hz hT fun h0 hz0 hs0 => ?_)
  simp only [Bool.false_eq_true, if_false]
  replace hs0 : Heap.SameBut z hp h0 := hs0
  rw [← Array.forIn_toList]
  simp only [List.forIn_cons, List.forIn_nil]
  refine wpAny_bind ?_
  refine wpAny_bind (wpAny_bind (wpAny_holding ?_))
  show wpAny _ _ (Builtin.SmallTypes.nextOf (.ref i1) >>= _) _ _ ⟨h0, g, d, tk0, os⟩
  refine wpAny_bind (D1.done _ _ _ (D1.over st1 hs0 S.zf1) fun h' e hk he => ?_)
  exact hE h' tk0 e (fun c o c0 c1 hc => hk c o c1 (hs0.extBut _ _ c0 hc)) he
end
end Sm

set_option Elab.async false
set_option linter.all false
set_option maxRecDepth 100000
set_option maxHeartbeats 4000000
namespace Sm
open PySem PySem.Spec PyProof.Rows L2
open Sem (wp)
section
variable {prog : Program} {w : World} {A : Around} {E : Value → Shared → Prop} {s : Shared} {z TI TO i1 i2 T : Addr} {fp1 fp2 : List Addr} {n1 n2 i : Nat} {P1 P2 : Nat → Value → Prop} {St1 St2 : Nat → Heap → Prop} {b : Bool} {oT : Obj}
theorem next_again {Q : Option Value → Shared → Prop} (S : ZipSep2 z TI TO i1 i2 fp1 fp2) (D1 : Draws prog w A.in1 i1 fp1 n1 P1 St1) (D2 : Draws prog w A.in1 i2 fp2 n2 P2 St2)
    (hz : IsZ2 s.heap z TI TO T b) (hT : s.heap.get? T = some oT) (hTI : IsTupOf2 s.heap TI (.ref i1) (.ref i2)) (st1 : St1 i s.heap) (st2 : St2 i s.heap) (lt1 : i < n1) (lt2 : i < n2)
    (hQ : ∀ x1 x2 h' tk, P1 i x1 → P2 i x2 → IsZ2 h' z TI TO T true → St1 (i + 1) h' → St2 (i + 1) h' → IsTupOf2 h' s.heap.objs.size x1 x2 →
      (∀ c o, c ≠ z → c ≠ i1 → c ≠ i2 → s.heap.get? c = some o → h'.get? c = some o) → Q (some (.ref s.heap.objs.size)) { s with heap := h', toks := tk }) : wpAny (model prog w) A (pyNext (.ref z)) Q E s := by
  have hTy : s.TypeIs (.ref z) "zip" := ⟨_, hz, rfl⟩
  unfold pyNext
  exact wpAny_bind (wpAny_attempt (wpAny_callSpecial?_slot (name := Str.ofString "__next__") hTy PySem.F.slot_zip_next
    (wpAny_call_entry PySem.F.slot_zip_next hTy PySem.F.entry_zip_next
      (zip_again S D1 D2 hz hT hTI st1 st2 lt1 lt2 fun x1 x2 h' tk y1 y2 a1 a2 a3 a4 a5 => wpAny_pure (hQ x1 x2 h' tk y1 y2 a1 a2 a3 a4 a5)) (PySem.F.args_zip_next_1 _))))
theorem next_again_end {Q : Option Value → Shared → Prop} (S : ZipSep2 z TI TO i1 i2 fp1 fp2) (D1 : Draws prog w A.in1 i1 fp1 n1 P1 St1)
    (hz : IsZ2 s.heap z TI TO T b) (hT : s.heap.get? T = some oT) (hTI : IsTupOf2 s.heap TI (.ref i1) (.ref i2)) (st1 : St1 n1 s.heap)
    (hQ : ∀ h' tk, (∀ c o, c ≠ z → c ≠ i1 → s.heap.get? c = some o → h'.get? c = some o) → Q none { s with heap := h', toks := tk }) : wpAny (model prog w) A (pyNext (.ref z)) Q E s := by
  have hTy : s.TypeIs (.ref z) "zip" := ⟨_, hz, rfl⟩
  unfold pyNext
  refine wpAny_bind (wpAny_attempt (wpAny_callSpecial?_slot (name := Str.ofString "__next__") hTy PySem.F.slot_zip_next
    (wpAny_call_entry PySem.F.slot_zip_next hTy PySem.F.entry_zip_next (zip_again_end S D1 hz hT hTI st1 fun h' tk e hk he => ?_) (PySem.F.args_zip_next_1 _))))
  obtain ⟨o, ho, hc⟩ := he
  refine wpAny_bind (wpAny_isInstance (T := "StopIteration") (b := true) ⟨o, ho, hc⟩ isSubtype_stop ?_)
  exact wpAny_pure (hQ _ _ hk)
end
/-- a zip amid its items: nothing handed out yet, or the first tuple stands -/
def ZS (lo : Nat) (z TI TO i1 i2 : Addr) (St1 St2 : Nat → Heap → Prop) (i : Nat) (h : Heap) : Prop := IsTupOf2 h TI (.ref i1) (.ref i2) ∧ St1 i h ∧ St2 i h ∧
  ((i = 0 ∧ IsZip h z TI TO .none ∧ ∃ a1 a2, IsTupOf2 h TO a1 a2) ∨ (0 < i ∧ ∃ T b o, IsZ2 h z TI TO T b ∧ h.get? T = some o ∧ T ≠ z ∧ T ≠ i1 ∧ T ≠ i2 ∧ T ≠ TO ∧ lo ≤ T))
/-- pairs that stand -/
def Prs (P1 P2 : Nat → Value → Prop) (lo : Nat) (acc : Array Value) (i : Nat) (h : Heap) : Prop := acc.size = i ∧ (∀ j v, acc[j]? = some v → ∃ t x1 x2, v = .ref t ∧ lo ≤ t ∧ IsTupOf2 h t x1 x2 ∧ P1 j x1 ∧ P2 j x2) ∧ ∀ (j1 j2 : Nat) (v : Value), acc[j1]? = some v → acc[j2]? = some v → j1 = j2
section
variable {prog : Program} {w : World} {A : Around} {R : Result → Shared → Prop} {z TI TO i1 i2 : Addr} {fp1 fp2 : List Addr} {n : Nat} {P1 P2 : Nat → Value → Prop} {St1 St2 : Nat → Heap → Prop}
/-- one item more -/
theorem next_zs {E : Value → Shared → Prop} {s : Shared} {i : Nat} {Q : Option Value → Shared → Prop} (S : ZipSep2 z TI TO i1 i2 fp1 fp2) (D1 : Draws prog w A.in1 i1 fp1 n P1 St1) (D2 : Draws prog w A.in1 i2 fp2 n P2 St2) {lo : Nat} (zs : ZS lo z TI TO i1 i2 St1 St2 i s.heap) (hlo : lo ≤ s.heap.objs.size) (hi : i < n)
    (hQ : ∀ x1 x2 h' tk, P1 i x1 → P2 i x2 → ZS lo z TI TO i1 i2 St1 St2 (i + 1) h' → IsTupOf2 h' s.heap.objs.size x1 x2 → (∀ c o, c ≠ z → c ≠ TO → c ≠ i1 → c ≠ i2 → s.heap.get? c = some o → h'.get? c = some o) → Q (some (.ref s.heap.objs.size)) { s with heap := h', toks := tk }) :
    wpAny (model prog w) A (pyNext (.ref z)) Q E s := by
  obtain ⟨hTI, st1, st2, ⟨i0, hz, a1, a2, hTO⟩ | ⟨i0, T, b, o, hz, hT, t1, t2, t3, t4, t5⟩⟩ := zs
  · have lt : ∀ {c o}, s.heap.get? c = some o → s.heap.objs.size ≠ c := fun e => Nat.ne_of_gt (Heap.lt_size e)
    obtain ⟨oa, ea⟩ := D1.live _ _ st1
    obtain ⟨ob, eb⟩ := D2.live _ _ st2
    refine wpAny_pyNext_zipD2_item S D1 D2 hz hTI hTO st1 st2 hi hi fun x1 x2 h' tk y1 y2 b1 b2 d1 d2 b5 b6 hk => ?_
    exact hQ x1 x2 h' tk y1 y2 ⟨hk _ _ S.TIz S.TITO S.TIi1 S.TIi2 hTI, d1, d2, .inr ⟨Nat.succ_pos i, s.heap.objs.size, false, _, b1, b5, lt hz, lt ea, lt eb, lt hTO, hlo⟩⟩ b5 hk
  · refine next_again S D1 D2 hz hT hTI st1 st2 hi hi fun x1 x2 h' tk y1 y2 a1 a2 a3 a4 hk => ?_
    exact hQ x1 x2 h' tk y1 y2 ⟨hk _ _ S.TIz S.TIi1 S.TIi2 hTI, a2, a3, .inr ⟨Nat.succ_pos i, T, true, o, a1, hk _ _ t1 t2 t3 hT, t1, t2, t3, t4, t5⟩⟩ a4 fun c o c0 _ c2 c3 e => hk c o c0 c2 c3 e
theorem next_zs_end {E : Value → Shared → Prop} {s : Shared} {Q : Option Value → Shared → Prop} (S : ZipSep2 z TI TO i1 i2 fp1 fp2) (D1 : Draws prog w A.in1 i1 fp1 n P1 St1) (D2 : Draws prog w A.in1 i2 fp2 n P2 St2) {lo : Nat} (zs : ZS lo z TI TO i1 i2 St1 St2 n s.heap)
    (hQ : ∀ h' tk, (∀ c o, c ≠ z → c ≠ TO → c ≠ i1 → c ≠ i2 → s.heap.get? c = some o → h'.get? c = some o) → Q none { s with heap := h', toks := tk }) : wpAny (model prog w) A (pyNext (.ref z)) Q E s := by
  obtain ⟨hTI, st1, st2, ⟨i0, hz, a1, a2, hTO⟩ | ⟨i0, T, b, o, hz, hT, t1, t2, t3, t4, t5⟩⟩ := zs
  · exact wpAny_pyNext_zipD2_end S D1 D2 hz hTI hTO st1 st2 (Nat.le_refl _) (Nat.le_refl _) (.inl rfl) fun h' tk hk => hQ h' tk hk
  · exact next_again_end S D1 hz hT hTI st1 fun h' tk hk => hQ h' tk fun c o c0 _ c2 _ e => hk c o c0 c2 e
end
end Sm

set_option Elab.async false
set_option linter.all false
set_option maxRecDepth 100000
set_option maxHeartbeats 4000000
namespace Sm
open PySem PySem.Spec PyProof.Rows L2
open Sem (wp)
section
variable {prog : Program} {w : World} {A : Around} {R : Result → Shared → Prop} {z TI TO i1 i2 : Addr} {fp1 fp2 : List Addr} {n : Nat} {P1 P2 : Nat → Value → Prop} {St1 St2 : Nat → Heap → Prop}
theorem ZS.keep {lo i : Nat} {h h' : Heap} {B : Around} {L : Addr} (D1 : Draws prog w B i1 fp1 n P1 St1) (D2 : Draws prog w B i2 fp2 n P2 St2) (zs : ZS lo z TI TO i1 i2 St1 St2 i h) (l0 : z ≠ L) (l1 : TI ≠ L) (l2 : TO ≠ L) (l3 : L ∉ fp1) (l4 : L ∉ fp2) (lL : L < lo)
    (k : ∀ c o, c ≠ L → h.get? c = some o → h'.get? c = some o) : ZS lo z TI TO i1 i2 St1 St2 i h' := by
  obtain ⟨hTI, st1, st2, rest⟩ := zs
  refine ⟨k _ _ l1 hTI, D1.frame _ _ _ st1 fun b hb o e => k b o (fun q => l3 (q ▸ hb)) e, D2.frame _ _ _ st2 fun b hb o e => k b o (fun q => l4 (q ▸ hb)) e, ?_⟩
  rcases rest with ⟨i0, hz, a1, a2, hTO⟩ | ⟨i0, T, b, o, hz, hT2, t1, t2, t3, t4, t5⟩
  · exact .inl ⟨i0, k _ _ l0 hz, a1, a2, k _ _ l2 hTO⟩
  · exact .inr ⟨i0, T, b, o, k _ _ l0 hz, k _ _ (fun e => by
      rw [e] at t5
      exact Nat.lt_irrefl _ (Nat.lt_of_lt_of_le lL t5)) hT2, t1, t2, t3, t4, t5⟩
/-- the list that gathers the pairs -/
theorem extend_zip (S : ZipSep2 z TI TO i1 i2 fp1 fp2) (D1 : Draws prog w A.in1.in1 i1 fp1 n P1 St1) (D2 : Draws prog w A.in1.in1 i2 fp2 n P2 St2) (hn : n ≤ sizeLine) (L : Addr) (res : Value) (lo : Nat)
    (l0 : z ≠ L) (l1 : TI ≠ L) (l2 : TO ≠ L) (l3 : L ∉ fp1) (l4 : L ∉ fp2) (lz : z < lo) (lTO : TO < lo) (li1 : i1 < lo) (li2 : i2 < lo) (lL : L < lo) :
    ∀ (k i : Nat) (s : Shared) (acc : Array Value) (c : Nat), n - i = k → i ≤ n → ZS lo z TI TO i1 i2 St1 St2 i s.heap → s.heap.get? L = some { cls := .type "list", dict := none, data := .seq acc c, slots := #[] } → lo ≤ s.heap.objs.size → Prs P1 P2 lo acc i s.heap →
    (∀ h' tk acc' c', (∀ c o, c ≠ z → c ≠ TO → c ≠ i1 → c ≠ i2 → c ≠ L → s.heap.get? c = some o → h'.get? c = some o) → h'.get? L = some { cls := .type "list", dict := none, data := .seq acc' c', slots := #[] } → Prs P1 P2 lo acc' n h' → R (.ok (.ret res)) { s with heap := h', toks := tk }) →
    codeAny (model prog w) A (.builtin "list.extend.loop" ⟨[.ref L, .ref z, res], []⟩) R s := by
  have off : ∀ t : Nat, lo ≤ t → t ≠ z ∧ t ≠ TO ∧ t ≠ i1 ∧ t ≠ i2 ∧ t ≠ L := fun t ht => by
    have lz : (z : Nat) < lo := lz
    have lTO : (TO : Nat) < lo := lTO
    have li1 : (i1 : Nat) < lo := li1
    have li2 : (i2 : Nat) < lo := li2
    have lL : (L : Nat) < lo := lL
    exact ⟨Nat.ne_of_gt (Nat.lt_of_lt_of_le lz ht), Nat.ne_of_gt (Nat.lt_of_lt_of_le lTO ht), Nat.ne_of_gt (Nat.lt_of_lt_of_le li1 ht), Nat.ne_of_gt (Nat.lt_of_lt_of_le li2 ht), Nat.ne_of_gt (Nat.lt_of_lt_of_le lL ht)⟩
  intro k
  induction k with
  | zero =>
    intro i s acc c hk hi zs hL hlo pr hR
    have hin : i = n := by omega
    subst hin
    refine codeAny_builtin PySem.F.entry_extend_loop ?_
    rw [Around.under_plainId PySem.F.plain_extend_loop _]
    show wpAny _ A.in1 (pyNext (.ref z) >>= _) _ _ s
    refine wpAny_bind (next_zs_end S D1 D2 zs fun h' tk hk => ?_)
    refine wpAny_pure (hR h' tk acc c (fun c o c0 c1 c2 c3 _ e => hk c o c0 c1 c2 c3 e) (hk _ _ l0.symm l2.symm ?_ ?_ hL) ⟨pr.1, fun j v e => ?_, pr.2.2⟩)
    · exact fun q => l3 (q ▸ S.mem1)
    · exact fun q => l4 (q ▸ S.mem2)
    · obtain ⟨t, x1, x2, h1, h2, h3, h4⟩ := pr.2.1 j v e
      obtain ⟨o1, o2, o3, o4, _⟩ := off t h2
      exact ⟨t, x1, x2, h1, h2, hk _ _ o1 o2 o3 o4 h3, h4⟩
  | succ k ih =>
    intro i s acc c hk hi zs hL hlo pr hR
    have hlt : i < n := by omega
    refine codeAny_builtin PySem.F.entry_extend_loop ?_
    rw [Around.under_plainId PySem.F.plain_extend_loop _]
    show wpAny _ A.in1 (pyNext (.ref z) >>= _) _ _ s
    refine wpAny_bind (next_zs S D1 D2 zs hlo hlt fun x1 x2 h' tk p1 p2 zs' hT hk' => ?_)
    have nL1 : L ≠ i1 := fun q => l3 (q ▸ S.mem1)
    have nL2 : L ≠ i2 := fun q => l4 (q ▸ S.mem2)
    have hL' := hk' _ _ l0.symm l2.symm nL1 nL2 hL
    have asz := pr.1
    show wpAny _ A.in1 (updateSeq L (·.push (.ref s.heap.objs.size)) >>= _) _ _ { s with heap := h', toks := tk }
    refine wpAny_bind ?_
    refine wpAny_updateSeq hL' rfl (wpAny_pure ⟨plainId_quiet PySem.F.plain_extend_loop _, ?_⟩) (by rw [asz]; omega) (by show (acc.push _).size ≤ sizeLine + 1; rw [Array.size_push, asz]; omega)
    have oth : ∀ c o, c ≠ L → h'.get? c = some o → (h'.update L (Obj.mapSeq (·.push (.ref s.heap.objs.size)))).get? c = some o := fun c o c0 e => (Heap.get?_update_other _ _ (Ne.symm c0)).trans e
    have lo' : lo ≤ (h'.update L (Obj.mapSeq (·.push (.ref s.heap.objs.size)))).objs.size := by
      obtain ⟨_, _, _, _, o5⟩ := off s.heap.objs.size hlo
      exact Nat.le_trans hlo (Nat.le_of_lt (Heap.lt_size (oth _ _ o5 hT)))
    refine ih (i + 1) { s with heap := h'.update L (Obj.mapSeq (·.push (.ref s.heap.objs.size))), toks := tk } (acc.push (.ref s.heap.objs.size)) _ (by omega) hlt (zs'.keep D1 D2 l0 l1 l2 l3 l4 lL oth) (Heap.get?_update_self _ hL' rfl) lo' ⟨by rw [Array.size_push, asz], fun j v hj => ?_, fun j1 j2 v e1 e2 => ?_⟩ fun h2 tk2 acc' c' hk2 hL2 pr2 => ?_
    · rw [Array.getElem?_push] at hj
      split at hj
      · rename_i e
        cases hj
        obtain ⟨o1, o2, o3, o4, o5⟩ := off s.heap.objs.size hlo
        exact ⟨s.heap.objs.size, x1, x2, rfl, hlo, oth _ _ o5 hT, by rw [e, asz]; exact p1, by rw [e, asz]; exact p2⟩
      · obtain ⟨t, y1, y2, e1, e2, e3, e4⟩ := pr.2.1 j v hj
        obtain ⟨o1, o2, o3, o4, o5⟩ := off t e2
        exact ⟨t, y1, y2, e1, e2, oth _ _ o5 (hk' _ _ o1 o2 o3 o4 e3), e4⟩
    · have old : ∀ (j : Nat) (v : Value), acc[j]? = some v → v ≠ Value.ref s.heap.objs.size := fun j v e q => by
        obtain ⟨t, y1, y2, q1, _, q3, _⟩ := pr.2.1 j v e
        rw [q1] at q
        have q : t = s.heap.objs.size := Value.ref.inj q
        exact Nat.ne_of_lt (Heap.lt_size q3) q
      rw [Array.getElem?_push] at e1 e2
      split at e1
      · rename_i a1
        cases e1
        split at e2
        · rename_i a2
          rw [a1, a2]
        · exact absurd rfl (old j2 _ e2)
      · split at e2
        · cases e2
          exact absurd rfl (old j1 _ e1)
        · exact pr.2.2 j1 j2 v e1 e2
    · exact hR h2 tk2 acc' c' (fun c o c0 c1 c2 c3 c4 e => hk2 c o c0 c1 c2 c3 c4 (oth c o c4 (hk' c o c0 c1 c2 c3 e))) hL2 pr2
end
end Sm

set_option Elab.async false
set_option linter.all false
set_option maxRecDepth 100000
set_option maxHeartbeats 4000000
namespace Sm
open PySem PySem.Spec PyProof.Rows L2
open Sem (wp)
theorem zip_no_len : typeLookup (.type "zip") "__len__" = pure none := by rw [typeLookup_type, builtinLookup_eq_fast]; kernel_rfl
theorem zip_no_hint : typeLookup (.type "zip") "__length_hint__" = pure none := by rw [typeLookup_type, builtinLookup_eq_fast]; kernel_rfl
section
variable {prog : Program} {w : World} {A : Around} {E : Value → Shared → Prop} {s : Shared} {z TI TO i1 i2 : Addr} {fp1 fp2 : List Addr} {n : Nat} {P1 P2 : Nat → Value → Prop} {St1 St2 : Nat → Heap → Prop}
theorem collect_zip {Q : List Value → Shared → Prop} (S : ZipSep2 z TI TO i1 i2 fp1 fp2) (D1 : Draws prog w A.in1.in1 i1 fp1 n P1 St1) (D2 : Draws prog w A.in1.in1 i2 fp2 n P2 St2) (hn : n ≤ sizeLine) (hz : IsZip s.heap z TI TO .none) (hTI : IsTupOf2 s.heap TI (.ref i1) (.ref i2)) (hTO : ∃ a1 a2, IsTupOf2 s.heap TO a1 a2) (st1 : St1 0 s.heap) (st2 : St2 0 s.heap)
    (f1 : ∀ b ∈ fp1, b < s.heap.objs.size) (f2 : ∀ b ∈ fp2, b < s.heap.objs.size)
    (hQ : ∀ h' tk acc, (∀ c o, c ≠ z → c ≠ TO → c ≠ i1 → c ≠ i2 → s.heap.get? c = some o → h'.get? c = some o) → Prs P1 P2 (s.heap.objs.size + 1) acc n h' → Q acc.toList { s with heap := h', toks := tk }) : wpAny (model prog w) A (collect (.ref z)) Q E s := by
  have lz : z < s.heap.objs.size := Heap.lt_size hz
  have lTI : TI < s.heap.objs.size := Heap.lt_size hTI
  have lTO : TO < s.heap.objs.size := by obtain ⟨_, _, e⟩ := hTO; exact Heap.lt_size e
  have li1 := f1 _ S.mem1
  have li2 := f2 _ S.mem2
  have hS3 : s.heap.objs.size ∉ fp1 := fun hm => Nat.lt_irrefl _ (f1 _ hm)
  have hS4 : s.heap.objs.size ∉ fp2 := fun hm => Nat.lt_irrefl _ (f2 _ hm)
  have hSI : s.heap.objs.size ≠ z := Nat.ne_of_gt lz
  unfold collect
  refine wpAny_bind (wpAny_runValue (codeAny_builtin PySem.F.entry_proto_collect ?_))
  rw [Around.under_plainId PySem.F.plain_proto_collect _]
  show wpAny _ A.in1 (newList [] >>= fun l => again (.builtin "list.__iadd__" ⟨[l, .ref z], []⟩)) _ _ s
  refine wpAny_bind (wpAny_newObj_type ?_)
  refine wpAny_pure ⟨plainId_quiet PySem.F.plain_list_iadd _, codeAny_builtin PySem.F.entry_list_iadd ?_⟩
  rw [Around.under_plainId PySem.F.plain_list_iadd _]
  show wpAny _ A.in1 (Builtin.List.listExtendWith (.ref s.heap.objs.size) (.ref z) (.ref s.heap.objs.size)) _ _ _
  unfold Builtin.List.listExtendWith
  have lo1 : (s.heap.push { cls := .type "list", data := .seq ([] : List Value).toArray }).objs.size = s.heap.objs.size + 1 := Heap.size_push _ _
  have hS₁ : (s.heap.push { cls := .type "list", data := .seq ([] : List Value).toArray }).get? s.heap.objs.size = some { cls := .type "list", data := .seq ([] : List Value).toArray } := Heap.get?_push_size _ rfl
  have up1 : ∀ c o, s.heap.get? c = some o → (s.heap.push { cls := .type "list", data := .seq ([] : List Value).toArray }).get? c = some o := fun c o e => Heap.get?_push_of_some _ e
  have hz1 : IsZip (s.heap.push { cls := .type "list", data := .seq ([] : List Value).toArray }) z TI TO .none := up1 _ _ hz
  have hTy : Shared.TypeIs { s with heap := s.heap.push { cls := .type "list", data := .seq ([] : List Value).toArray } } (.ref z) "zip" := ⟨_, hz1, rfl⟩
  refine wpAny_bind (wpAny_typeOf hTy ?_)
  have h1 : Builtin.List.listSameRef (.ref s.heap.objs.size) (.ref z) = false := by simp [Builtin.List.listSameRef, hSI]
  have h2 : (Value.type "zip" == Value.type "list") = false := by decide
  have h3 : (Value.type "zip" == Value.type "tuple") = false := by decide
  simp only [h1, h2, h3, Bool.or_false, Bool.false_eq_true, if_false]
  refine wpAny_bind (wpAny_pyIter_zip hz1 ?_)
  refine wpAny_bind (wpAny_holding ?_)
  unfold Builtin.List.listLengthHint
  refine wpAny_bind (wpAny_specialOf hTy zip_no_len ?_)
  show wpAny _ A.in1 (specialOf (Value.ref z) (Str.ofString "__length_hint__") >>= _) _ _ _
  refine wpAny_bind (wpAny_specialOf hTy zip_no_hint ?_)
  refine wpAny_pure ?_
  show wpAny _ A.in1 (rule "list.extend.makes-room" >>= fun _ => Builtin.List.listTouch (.ref s.heap.objs.size) >>= fun _ =>
    again (.builtin "list.extend.loop" ⟨[.ref s.heap.objs.size, .ref z, .ref s.heap.objs.size], []⟩)) _ _ _
  refine wpAny_bind (wpAny_rule ?_)
  refine wpAny_bind ?_
  show wpAny _ A.in1 (updateSeq s.heap.objs.size (·.push .none) >>= fun _ => updateSeq s.heap.objs.size (·.pop)) _ _ _
  refine wpAny_bind (wpAny_updateSeq hS₁ rfl ?_)
  have hS₂ := Heap.get?_update_self (Obj.mapSeq (·.push Value.none)) hS₁ rfl
  refine wpAny_updateSeq hS₂ rfl ?_
  have hS₃ := Heap.get?_update_self (Obj.mapSeq (·.pop)) hS₂ rfl
  have up3 : ∀ c o, s.heap.get? c = some o → (((s.heap.push { cls := .type "list", data := .seq ([] : List Value).toArray }).update s.heap.objs.size (Obj.mapSeq (·.push Value.none))).update s.heap.objs.size (Obj.mapSeq (·.pop))).get? c = some o := fun c o e => by
    have c0 : s.heap.objs.size ≠ c := Nat.ne_of_gt (Heap.lt_size e)
    exact (Heap.get?_update_other _ _ c0).trans ((Heap.get?_update_other _ _ c0).trans (up1 _ _ e))
  obtain ⟨a1, a2, hTO⟩ := hTO
  refine wpAny_pure ⟨plainId_quiet PySem.F.plain_extend_loop _, extend_zip S D1 D2 hn s.heap.objs.size _ (s.heap.objs.size + 1) hSI.symm (Nat.ne_of_lt lTI) (Nat.ne_of_lt lTO) hS3 hS4 (Nat.lt_succ_of_lt lz) (Nat.lt_succ_of_lt lTO) (Nat.lt_succ_of_lt li1) (Nat.lt_succ_of_lt li2) (Nat.lt_succ_self _) n 0 _ _ _ rfl (Nat.zero_le _)
    ⟨up3 _ _ hTI, D1.frame _ _ _ st1 fun b hb o e => up3 _ _ e, D2.frame _ _ _ st2 fun b hb o e => up3 _ _ e, .inl ⟨rfl, up3 _ _ hz, a1, a2, up3 _ _ hTO⟩⟩ hS₃ ?_ ⟨rfl, fun j v e => by simp at e, fun j1 j2 v e => by simp at e⟩ fun h' tk acc' c' hk hL pr => ?_⟩
  · exact Heap.lt_size hS₃
  show wpAny _ A (load s.heap.objs.size >>= _) _ _ { s with heap := h', toks := tk }
  refine wpAny_bind (wpAny_load hL ?_)
  exact wpAny_pure (hQ h' tk acc' (fun c o c0 c1 c2 c3 e => hk c o c0 c1 c2 c3 (Nat.ne_of_lt (Heap.lt_size e)) (up3 _ _ e)) pr)
theorem code_tuple_zip {Q₁ : Value → Shared → Prop} (S : ZipSep2 z TI TO i1 i2 fp1 fp2) (D1 : Draws prog w A.in1.in1.in1 i1 fp1 n P1 St1) (D2 : Draws prog w A.in1.in1.in1 i2 fp2 n P2 St2) (hn : n ≤ sizeLine) (hz : IsZip s.heap z TI TO .none) (hTI : IsTupOf2 s.heap TI (.ref i1) (.ref i2)) (hTO : ∃ a1 a2, IsTupOf2 s.heap TO a1 a2) (st1 : St1 0 s.heap) (st2 : St2 0 s.heap)
    (f1 : ∀ b ∈ fp1, b < s.heap.objs.size) (f2 : ∀ b ∈ fp2, b < s.heap.objs.size)
    (hQ : ∀ h' tk acc, (∀ c o, c ≠ z → c ≠ TO → c ≠ i1 → c ≠ i2 → s.heap.get? c = some o → h'.get? c = some o) → Prs P1 P2 (s.heap.objs.size + 1) acc n h' → Q₁ (.ref h'.objs.size) { s with heap := h'.push { cls := .type "tuple", data := .seq acc }, toks := tk }) :
    codeAny (model prog w) A (.call (.builtin "tuple.__new__") ⟨[.type "tuple", .ref z], []⟩) (wants Q₁ E) s := by
  refine codeAny_of_tree ?_
  show wpAny _ A.in1 (do checkBuiltinCall "tuple.__new__" ⟨[.type "tuple", .ref z], []⟩; again (.builtin "tuple.__new__" ⟨[.type "tuple", .ref z], []⟩)) _ _ s
  refine wpAny_bind (wpAny_of_eq (PySem.F.newCall_tuple_1 _) (wpAny_pure ⟨plainId_quiet PySem.F.plain_tuple_new _, codeAny_builtin PySem.F.entry_tuple_new ?_⟩))
  rw [Around.under_plainId PySem.F.plain_tuple_new _]
  have hsub := sub_tuple_self
  have hinit := init_tuple_lookup
  have hmh := madeHere_tuple
  have hTI' : s.TypeIs (.ref z) "zip" := ⟨_, hz, rfl⟩
  wp_walk using wpAny_typeOf hTI', collect_zip S D1 D2 hn hz hTI hTO st1 st2 f1 f2
  intro h' tk acc hk pr
  show wpAny _ _ (Builtin.Tuple.tupleExact acc.toList.toArray >>= fun v => ret v) _ _ _
  unfold Builtin.Tuple.tupleExact
  refine wpAny_bind (wpAny_newObj_type ?_ (by show acc.toList.toArray.size ≤ sizeLine; simp only [Array.toArray_toList]; rw [pr.1]; exact hn))
  refine wpAny_pure ?_
  have e : acc.toList.toArray = acc := by simp
  rw [e]
  exact hQ h' tk acc hk pr
theorem call_tuple_zip {Q : Value → Shared → Prop} (S : ZipSep2 z TI TO i1 i2 fp1 fp2) (D1 : Draws prog w A.in1.in1.in1.in1 i1 fp1 n P1 St1) (D2 : Draws prog w A.in1.in1.in1.in1 i2 fp2 n P2 St2) (hn : n ≤ sizeLine) (hz : IsZip s.heap z TI TO .none) (hTI : IsTupOf2 s.heap TI (.ref i1) (.ref i2)) (hTO : ∃ a1 a2, IsTupOf2 s.heap TO a1 a2) (st1 : St1 0 s.heap) (st2 : St2 0 s.heap)
    (f1 : ∀ b ∈ fp1, b < s.heap.objs.size) (f2 : ∀ b ∈ fp2, b < s.heap.objs.size)
    (hQ : ∀ h' tk acc, (∀ c o, c ≠ z → c ≠ TO → c ≠ i1 → c ≠ i2 → s.heap.get? c = some o → h'.get? c = some o) → Prs P1 P2 (s.heap.objs.size + 1) acc n h' → Q (.ref h'.objs.size) { s with heap := h'.push { cls := .type "tuple", data := .seq acc }, toks := tk }) :
    wpAny (model prog w) A (call (.type "tuple") [.ref z]) Q E s := by
  refine callType_codes (Q₁ := fun obj s₁ => s₁.TypeIs obj "tuple" ∧ Q obj s₁) PySem.F.called_tuple (PySem.F.typeCall_tuple_1 _) PySem.F.entry_object_init
    (code_tuple_zip S D1 D2 hn hz hTI hTO st1 st2 f1 f2 fun h' tk acc hk pr => ⟨⟨_, Heap.get?_push_size _ rfl, rfl⟩, hQ h' tk acc hk pr⟩) fun obj s₁ h₁ => ?_
  exact ⟨h₁.1, PySem.F.args_object_init_2 obj _, object_init_meets PySem.F.called_tuple.init.lookup PySem.F.called_tuple.made (by decide) prog w A.in1 _ s₁ ⟨h₁.1, rfl, h₁.2⟩⟩
end
end Sm

set_option Elab.async false
set_option linter.all false
set_option maxRecDepth 100000
set_option maxHeartbeats 4000000
namespace Sm
open PySem PySem.Spec PyProof.Rows L2
section
variable {X : Cx} {pins : List (Addr × Obj)} {σ : L2.St} {s : Shared}
/-- pairs that stand in a heap become known one after another -/
theorem laid_pairs (hF : Heap) : ∀ (L : List (Addr × V × V)) (H : Hp) (G : Heap), Inv X pins σ H { s with heap := G } → (∀ b o, G.get? b = some o → hF.get? b = some o) → (∀ e ∈ L, G.get? e.1 = none ∧ H e.1 = none ∧ ∃ u v, hF.get? e.1 = some { cls := .type "tuple", data := .seq #[u, v] } ∧ RelV e.2.1 u ∧ RelV e.2.2 v) → (L.map (·.1)).Nodup →
    ∃ (H' : Hp) (G' : Heap), Inv X pins σ H' { s with heap := G' } ∧ (∀ b o, G'.get? b = some o → hF.get? b = some o) ∧ Same H H' ∧ ∀ e ∈ L, H' e.1 = some (.tup [e.2.1, e.2.2])
  | [], H, G, I, sub, _, _ => ⟨H, G, I, sub, Same.refl _, fun e h => nomatch h⟩
  | e :: L, H, G, I, sub, all, nd => by
    obtain ⟨g0, h0, u, v, hT, ru, rv⟩ := all e (List.mem_cons_self ..)
    obtain ⟨G1, k1, k2⟩ := restrict hF fun b => (G.get? b).isSome || decide (b = e.1)
    have up : ∀ b o, G.get? b = some o → G1.get? b = some o := fun b o q => by rw [k1 b (by rw [q]; rfl)]; exact sub b o q
    have at1 : G1.get? e.1 = some { cls := .type "tuple", data := .seq #[u, v] } := by rw [k1 e.1 (by simp)]; exact hT
    have new : ObjOk X.prog X.w (upd H e.1 (.tup [e.2.1, e.2.2])) G1 e.1 (.tup [e.2.1, e.2.2]) := ⟨by show 2 ≤ sizeLine; decide, [u, v], .cons ru (.cons rv .nil), ⟨_, at1, rfl, _, rfl⟩⟩
    have I1 := Inv.laidN (t' := s.toks) I up g0 h0 new
    have s1 : Same H (upd H e.1 (.tup [e.2.1, e.2.2])) := same_upd h0
    have nd : (e.1 :: L.map (·.1)).Nodup := nd
    obtain ⟨ne, nd⟩ := List.nodup_cons.mp nd
    have sub1 : ∀ b o, G1.get? b = some o → hF.get? b = some o := fun b o q => by
      cases p : ((G.get? b).isSome || decide (b = e.1)) with
      | true => rw [← k1 b p]; exact q
      | false => rw [k2 b p] at q; cases q
    obtain ⟨H', G', I', sub', s', at'⟩ := laid_pairs hF L _ G1 I1 sub1 (fun f hf => by
      obtain ⟨a1, a2, a3⟩ := all f (List.mem_cons_of_mem _ hf)
      have n : f.1 ≠ e.1 := fun q => ne (by rw [← q]; exact List.mem_map.mpr ⟨f, hf, rfl⟩)
      exact ⟨k2 _ (by rw [a1]; simpa using n), by rw [upd_ne n]; exact a2, a3⟩) nd
    refine ⟨H', G', I', sub', s1.trans s', fun f hf => ?_⟩
    rcases List.mem_cons.mp hf with q | q
    · rw [q]
      exact s' _ _ upd_same
    · exact at' f q
end
end Sm

set_option Elab.async false
set_option linter.all false
set_option maxRecDepth 100000
set_option maxHeartbeats 4000000
namespace Sm
open PySem PySem.Spec PyProof.Rows L2
/-- tuple(zip(t, l)) -/
def tTupZip (K : PySem.W.Frag) (ta : TA) : TE := fun σ H Q => ta σ H fun vs H1 => ∃ (a b : Addr) (xs ys : List V), vs = [.ref a, .ref b] ∧ SqT K H1 a xs ∧ SqL K H1 b ys ∧ xs.length = ys.length ∧ xs.length ≤ 20000 ∧
  ∀ H' q (ws : List Addr), Same H1 H' → H' q = some (.tup (ws.map V.ref)) → ws.length = xs.length → (∀ (j : Nat) (w : Addr) (x y : V), ws[j]? = some w → xs[j]? = some x → ys[j]? = some y → H' w = some (.tup [x, y])) → Q (.ref q) H'
theorem refs_of : ∀ l : List Value, (∀ v, v ∈ l → ∃ t, v = .ref t) → ∃ ws : List Addr, l = ws.map Value.ref
  | [], _ => ⟨[], rfl⟩
  | v :: l, h => by
    obtain ⟨t, e⟩ := h v (List.mem_cons_self ..)
    obtain ⟨ws, e2⟩ := refs_of l fun u hu => h u (List.mem_cons_of_mem _ hu)
    exact ⟨t :: ws, by rw [e, e2]; rfl⟩
theorem pe_tupZip {X : Cx} {e e2 : Expr} {ta : TA} {p p2 pos pos2 : Pos} (hc : X.calm = true) (hg : Gl X "tuple") (hm : X.mg "tuple" = none) (hg2 : Gl X "zip") (hm2 : X.mg "zip" = none) (ha : PA X [e, e2] ta)
    (hs : starEach [e, e2] X.env = (false, eval e X.env) :: starEach [e2] X.env := by rfl) (hpl : (backTo pos2 (starEach [e2] X.env)).any (·.1) = false := by rfl)
    (hz : starEach [.Call (.Name "zip" p2) [e, e2] [] pos2] X.env = (false, eval (.Call (.Name "zip" p2) [e, e2] [] pos2) X.env) :: starEach [] X.env := by rfl) :
    PE X (.Call (.Name "tuple" p) [.Call (.Name "zip" p2) [e, e2] [] pos2] [] pos) (tTupZip X.K ta) := by
  refine ⟨fun pins s σ H Q I h => Call_ (ld_blt I hg hm PyProof.Rows.boot_tuple ?_)⟩
  refine PyProof.Rows.callWith_type1 (PyProof.Rows.args_cons (Call_ (ld_blt I hg2 hm2 PyProof.Rows.boot_zip (PyProof.Rows.callWith_type1 (thn (ha.run pos2 pins s σ H _ I h) fun us s1 ⟨vs, H1, I1, r1, q1⟩ => ?_) hs hpl))) hz) hz rfl
  obtain ⟨a, b, xs, ys, ex, hqx, hqy, hl, h2, q⟩ := q1
  subst ex
  cases r1 with
  | cons r rr =>
    cases rr with
    | cons r' rr =>
      cases rr
      cases r
      cases r'
      obtain ⟨its, rv, p1, _⟩ := I1.tuple hqx
      obtain ⟨its2, rv2, p3, _⟩ := I1.list hqy
      have la : a < s1.heap.objs.size := by
        obtain ⟨o, ho, _⟩ := id p1
        exact Heap.lt_size ho
      have lb : b < s1.heap.objs.size := p3.lt
      refine zip_begins2 (begins_tuple a its.toArray) (begins_list b its2.toArray) p1 p3.isList fun h' hz' hTI hTO h1 h3 hsz hk => ?_
      have D := ZipM.of (PySem.W.ktu_apart s1.heap.objs.size a b la lb)
      refine PyProof.Rows.args_nil ?_
      have sz : its2.toArray.size = its.toArray.size := by
        have := rv.length
        have := rv2.length
        rw [List.size_toArray, List.size_toArray]
        omega
      have nn : its.toArray.size = xs.length := by rw [List.size_toArray]; exact rv.length.symm
      have D2 := Draws.list (prog := X.prog) (w := X.w) (A := X.A.in1.in1.in1.in1) (I1.ok.hd hc) (s1.heap.objs.size + 1) b D.i2b its2.toArray
      rw [sz] at D2
      have sz5 : h'.objs.size = s1.heap.objs.size + 5 := hsz
      refine call_tuple_zip D.sep (Draws.tuple (A := X.A.in1.in1.in1.in1) (I1.ok.hd hc) s1.heap.objs.size a D.i1a its.toArray) D2 (by rw [nn]; exact Nat.le_trans h2 (by decide)) hz' hTI ⟨_, _, hTO⟩ ⟨⟨_, h1, rfl, rfl⟩, Heap.IsTuple.at p1 fun o e => hk _ _ e⟩ ⟨⟨_, h3, rfl, rfl⟩, p3.isList.at fun o e => hk _ _ e⟩ (fun c hcm => ?_) (fun c hcm => ?_) fun h2' tk acc hk2 pr => ?_
      · rcases List.mem_cons.mp hcm with e | e
        · rw [e, sz5]
          exact Nat.lt_add_of_pos_right (by decide)
        · rw [List.mem_singleton.mp e, sz5]
          exact Nat.lt_of_lt_of_le la (Nat.le_add_right _ _)
      · rcases List.mem_cons.mp hcm with e | e
        · rw [e, sz5]
          exact Nat.add_lt_add_left (by decide) _
        · rw [List.mem_singleton.mp e, sz5]
          exact Nat.lt_of_lt_of_le lb (Nat.le_add_right _ _)
      -- the heap without what is not known yet
      have old : ∀ c o, s1.heap.get? c = some o → h2'.get? c = some o := fun c o e => by
        have lt : (c : Nat) < s1.heap.objs.size := Heap.lt_size e
        exact hk2 c o (Nat.ne_of_lt (Nat.lt_of_lt_of_le lt (Nat.le_add_right _ _))) (Nat.ne_of_lt (Nat.lt_of_lt_of_le lt (Nat.le_add_right _ _))) (Nat.ne_of_lt lt) (Nat.ne_of_lt (Nat.lt_of_lt_of_le lt (Nat.le_add_right _ _))) (hk c o e)
      obtain ⟨G0, k1, k2⟩ := restrict h2' fun c => (s1.heap.get? c).isSome
      have I0 : Inv X pins σ H1 { s1 with heap := G0 } := Inv.kept (t' := s1.toks) I1 fun c o e => by rw [k1 c (by rw [e]; rfl)]; exact old c o e
      obtain ⟨ws, hws⟩ := refs_of acc.toList fun v hv => by
        obtain ⟨j, hj⟩ := List.getElem?_of_mem hv
        obtain ⟨t, _, _, e, _⟩ := pr.2.1 j v (by rw [← Array.getElem?_toList]; exact hj)
        exact ⟨t, e⟩
      have wl : ws.length = xs.length := by
        have := pr.1
        rw [← nn, ← this, ← Array.length_toList, hws, List.length_map]
      have wat : ∀ (j : Nat) (w : Addr), ws[j]? = some w → acc[j]? = some (Value.ref w) := fun j w e => by
        rw [← Array.getElem?_toList, hws, List.getElem?_map, e]
        rfl
      have big : ∀ (j : Nat) (w : Addr), ws[j]? = some w → s1.heap.objs.size ≤ w := fun j w e => by
        obtain ⟨t, _, _, q1, q2, _⟩ := pr.2.1 j _ (wat j w e)
        cases q1
        rw [sz5] at q2
        exact Nat.le_trans (Nat.le_add_right _ 6) q2
      have gone : ∀ c, s1.heap.objs.size ≤ c → s1.heap.get? c = none := fun c hc' => by
        cases e : s1.heap.get? c with
        | none => rfl
        | some o => exact absurd (Heap.lt_size e) (Nat.not_lt.mpr hc')
      -- the pairs become known
      obtain ⟨L, hL⟩ : ∃ L : List (Addr × V × V), L = (List.range xs.length).map fun j => (ws.getD j 0, xs.getD j .non, ys.getD j .non) := ⟨_, rfl⟩
      have mem : ∀ e, e ∈ L → ∃ j w x y, ws[j]? = some w ∧ xs[j]? = some x ∧ ys[j]? = some y ∧ e = (w, x, y) := fun e he => by
        rw [hL] at he
        obtain ⟨j, hj, rfl⟩ := List.mem_map.mp he
        have hj := List.mem_range.mp hj
        refine ⟨j, ws[j]'(by omega), xs[j], ys[j]'(by omega), List.getElem?_eq_getElem _, List.getElem?_eq_getElem _, List.getElem?_eq_getElem _, ?_⟩
        rw [List.getD_eq_getElem?_getD, List.getD_eq_getElem?_getD, List.getD_eq_getElem?_getD, List.getElem?_eq_getElem (show j < ws.length by omega), List.getElem?_eq_getElem hj, List.getElem?_eq_getElem (show j < ys.length by omega)]
        rfl
      have nd : (L.map (·.1)).Nodup := by
        have e : L.map (·.1) = ws := by
          rw [hL, List.map_map]
          refine List.ext_getElem (by rw [List.length_map, List.length_range, wl]) fun j a1 a2 => ?_
          rw [List.getElem_map, List.getElem_range]
          show ws.getD j 0 = _
          rw [List.getD_eq_getElem?_getD, List.getElem?_eq_getElem a2]
          rfl
        rw [e]
        refine List.pairwise_iff_getElem.mpr fun j1 j2 a1 a2 lt12 q => ?_
        have e1 := List.getElem?_eq_getElem (l := ws) (i := j1) a1
        have e2 := List.getElem?_eq_getElem (l := ws) (i := j2) a2
        have := pr.2.2 j1 j2 _ (wat j1 _ e1) (by rw [q]; exact wat j2 _ e2)
        omega
      obtain ⟨H', G', I', sub, s', at'⟩ := laid_pairs h2' L H1 G0 I0 (fun c o e => by
        cases q : (s1.heap.get? c).isSome with
        | true => rw [← k1 c q]; exact e
        | false => rw [k2 c q] at e; cases e) (fun e he => by
        obtain ⟨j, w, x, y, w1, x1, y1, rfl⟩ := mem e he
        have lw := big j w w1
        refine ⟨k2 w (by rw [gone w lw]; rfl), I1.hok.fresh lw, ?_⟩
        obtain ⟨t, u, v, q1, _, q3, q4, q5⟩ := pr.2.1 j _ (wat j w w1)
        cases q1
        obtain ⟨u', a1, a2⟩ := rv.get x1
        obtain ⟨v', b1, b2⟩ := rv2.get y1
        have eu : u = u' := by
          have q4 : its[j]? = some u := by simpa using q4
          rw [a1] at q4
          exact (Option.some.inj q4).symm
        have ev : v = v' := by
          have q5 : its2[j]? = some v := by simpa using q5
          rw [b1] at q5
          exact (Option.some.inj q5).symm
        subst eu ev
        exact ⟨u, v, q3, a2, b2⟩) nd
      have I2 : Inv X pins σ H' { s1 with heap := h2' } := Inv.kept (s := { s1 with heap := G' }) (t' := s1.toks) I' sub
      -- the tuple of them
      have hn := I2.hok.fresh (Nat.le_refl h2'.objs.size)
      have at2 : (h2'.push { cls := .type "tuple", data := .seq acc }).get? h2'.objs.size = some { cls := .type "tuple", data := .seq acc } := Heap.get?_push_size _ rfl
      have vr : ∀ ws : List Addr, Vals (ws.map V.ref) (ws.map Value.ref) := fun ws => by
        induction ws with
        | nil => exact .nil
        | cons w ws ih => exact .cons rfl ih
      have new : ObjOk X.prog X.w (upd H' h2'.objs.size (.tup (ws.map V.ref))) (h2'.push { cls := .type "tuple", data := .seq acc }) h2'.objs.size (.tup (ws.map V.ref)) :=
        ⟨by show (ws.map V.ref).length ≤ sizeLine; rw [List.length_map, wl]; exact Nat.le_trans h2 (by decide), acc.toList, by rw [hws]; exact vr ws, ⟨_, at2, rfl, 0, by show Data.seq acc 0 = Data.seq acc.toList.toArray 0; rw [Array.toArray_toList]⟩⟩
      have I3 := Inv.laid (s := { s1 with heap := h2' }) (t' := tk) I2 (fun c o e => Heap.get?_push_of_some _ e) (Nat.le_refl _) new
      refine ⟨.ref h2'.objs.size, _, I3, rfl, q _ _ ws (s'.trans (same_upd hn)) upd_same wl fun j w x y w1 x1 y1 => ?_⟩
      have m : (w, x, y) ∈ L := by
        rw [hL]
        have hj := (List.getElem?_eq_some_iff.mp x1).1
        refine List.mem_map.mpr ⟨j, List.mem_range.mpr hj, ?_⟩
        rw [List.getD_eq_getElem?_getD, List.getD_eq_getElem?_getD, List.getD_eq_getElem?_getD, w1, x1, y1]
        rfl
      exact same_upd hn _ _ (at' _ m)
end Sm

set_option Elab.async false
set_option linter.all false
set_option maxRecDepth 100000
set_option maxHeartbeats 4000000
namespace L2
open PySem PySem.Spec PyProof.Rows
/-! ### len({v[0] for v in l}), l a list of tuples that begin with an int -/
theorem sf_ne {b N C : Nat} (hb : b < N + 1) (hC : N + 1 ≤ C) : b ≠ C := by omega
/-- how far the set is -/
def SetTill (h : Heap) (prog : Program) (w : World) (D : Addr) (ns : List Int) (i : Nat) : Prop :=
  ∃ m, h.SetOf (intKind prog w) D (fun k => decide (k ∈ ns.take i)) m ∧ m ≤ i ∧ (m = i ↔ (ns.take i).Nodup)
theorem take_snoc' {ns : List Int} {i : Nat} {k : Int} (e : ns[i]? = some k) : ns.take (i + 1) = ns.take i ++ [k] := by
  rw [List.take_add_one, e]
  rfl
section
variable {prog : Program} {w : World} {A : Around} {E : Value → Shared → Prop}
theorem set_next {s : Shared} {D : Addr} {ns : List Int} {i : Nat} {k : Int} {t : Tok} {Q : Value → Shared → Prop} (hs : SetTill s.heap prog w D ns i) (e : ns[i]? = some k) (hi : i < 64)
    (h : ∀ h', Heap.SameBut D s.heap h' → SetTill h' prog w D ns (i + 1) → Q .none { s with heap := h', toks := s.toks + 1 }) :
    wpAny (model prog w) A (call (.builtin "set.add") [.ref D, .int k t]) Q E s := by
  obtain ⟨m, S, hm, hd⟩ := hs
  refine call_set_add (knd := intKind prog w) (k := k) (by simp [intKind, Value.isInt]) rfl S (by unfold scanBound; omega) fun h' sb S' => h h' sb ⟨if k ∈ ns.take i then m else m + 1, ?_, ?_⟩
  · have f : (fun k' => decide (k' ∈ ns.take i) || decide (k' = k)) = fun k' => decide (k' ∈ ns.take (i + 1)) := by
      funext k'
      rw [take_snoc' e, ← Bool.decide_or]
      exact decide_eq_decide.mpr (by rw [List.mem_append, List.mem_singleton])
    rw [f] at S'
    by_cases c : k ∈ ns.take i
    · rw [if_pos c]
      rw [if_pos (decide_eq_true c)] at S'
      exact S'
    · rw [if_neg c]
      rw [if_neg (by rw [decide_eq_false c]; exact Bool.false_ne_true)] at S'
      exact S'
  · rw [take_snoc' e]
    by_cases c : k ∈ ns.take i
    · rw [if_pos c]
      refine ⟨by omega, ⟨fun q => by omega, fun q => ?_⟩⟩
      have := (List.nodup_append.mp q).2.2 k c k (List.mem_singleton.mpr rfl)
      exact absurd rfl this
    · rw [if_neg c]
      refine ⟨by omega, ⟨fun q => ?_, fun q => ?_⟩⟩
      · refine List.nodup_append.mpr ⟨hd.mp (by omega), List.nodup_cons.mpr ⟨List.not_mem_nil, List.nodup_nil⟩, fun a ha b hb => ?_⟩
        rw [List.mem_singleton.mp hb]
        rintro rfl
        exact c ha
      · have := hd.mpr (List.nodup_append.mp q).1
        omega
/-- the set comprehension over a known list of tuples -/
theorem set_firsts {env : Env} {iter : Expr} {v : PySem.Str} {p1 p2 p3 p4 pos : Pos} {scope : Scope} {s : Shared} {Q : Value → Shared → Prop}
    (hh : A.handled = none) (hv : (v == ("__debug__" : PySem.Str)) = false) (hnf : ∀ x ∈ scope.names, x.2 ≠ .free) (hcell : ∀ y ∈ scope.names, y.2 ≠ .cell) (hkind : scope.kind = .function)
    (hnames : ∀ y ∈ scope.names, y.2 = .local → scope.names.lookup y.1 = some .local) (hx : scope.names.lookup v = some .local)
    (hs : ∀ x, foldedSetIterable iter env x = pure x)
    (h : wpAny (model prog w) A (eval iter env) (fun xv s1 => ∃ (l : Addr) (its : Array Value) (ns : List Int), xv = .ref l ∧ s1.heap.IsList l its ∧ ns.length = its.size ∧ ns.length < 64 ∧
      (∀ (i : Nat) u k, its[i]? = some u → ns[i]? = some k → ∃ (t : Addr) (tk : Tok) (r : List Value), u = .ref t ∧ IsTup s1.heap t (Value.int k tk :: r).toArray) ∧
      ∀ D h' tk, (∀ b o, s1.heap.get? b = some o → h'.get? b = some o) → SetTill h' prog w D ns ns.length → Q (.ref D) { s1 with heap := h', toks := tk }) E s) :
    wpAny (model prog w) A (eval (.SetComp (.Subscript (.Name v p1) (.Constant (.int 0) 0 p2) p3) [⟨.Name v p4, iter, [], 0⟩] scope pos) env) Q E s := by
  refine SetComp_goes (closureFor_none hnf) hcell hkind hnames (thn h fun xv s1 ⟨l, its, ns, ex, hl, en, n64, tup, q⟩ => ?_) hs
  subst ex
  have hlt : (l : Nat) < s1.heap.objs.size := by obtain ⟨o, ho, _⟩ := hl; exact Heap.lt_size ho
  refine wpAny_pyIter_list hl ?_
  refine ⟨_, _, _, _, _, _, rfl, Goes.list hh s1.heap.objs.size l (Nat.ne_of_lt hlt) its, ⟨⟨_, Heap.get?_push_size _ rfl, rfl, rfl⟩, hl.push _⟩, fun D C s₃ hB hD => ?_⟩
  obtain ⟨⟨h₃, tk₃, rfl⟩, old, nD, nC, hDC, hnm⟩ := hB
  have nC' : (s1.heap.objs.size + 1 : Nat) ≤ C := by
    have q : (s1.heap.push { cls := .type "list_iterator", data := .fields #[.ref l, .int 0 0] }).objs.size ≤ C := nC
    rw [Heap.size_push] at q
    exact q
  have nD' : (s1.heap.objs.size + 1 : Nat) ≤ D := by
    have q : (s1.heap.push { cls := .type "list_iterator", data := .fields #[.ref l, .int 0 0] }).objs.size ≤ D := nD
    rw [Heap.size_push] at q
    exact q
  have hDC' : (D : Nat) ≠ C := hDC
  have kx : (compEnvC scope [] C env).kindOf v = some .local := lookup_relabel_local hx
  have hp : ((compEnvC scope [] C env).scope.kind == .class || ((compEnvC scope [] C env).scope.kind == .module && (compEnvC scope [] C env).locals != (compEnvC scope [] C env).globals)) = false := by
    show (scope.kind == .class || (scope.kind == .module && _)) = false
    rw [hkind]; rfl
  refine ⟨fun i s₁ => ∃ h' tk m, s₁ = { s1 with heap := h', toks := tk } ∧ h'.Ns C m ∧ SetTill h' prog w D ns i ∧ ∀ b o, s1.heap.get? b = some o → h'.get? b = some o, ⟨h₃, tk₃, _, rfl, hnm, ⟨0, ?_, Nat.le_refl _, ?_⟩, fun b o e => old b o (Heap.get?_push_of_some _ e)⟩, ?_, ?_, ?_⟩
  · have e0 : ElemsOf (intKind prog w) (#[] : Array (Int × Value)).toList := fun e he => by simp at he
    have e1 : ∀ k : Int, (fun k => decide (k ∈ ns.take 0)) k = true ↔ ∃ e ∈ (#[] : Array (Int × Value)).toList, (intKind prog w).is k e.2 = true := fun k => by simp
    refine ⟨_, #[], 0, _, hD, ⟨rfl, rfl, rfl⟩, rfl, e0, e1, (by decide), ?_, rfl⟩
    cases (w.params.followText "set-order") <;> rfl
  · simp
  · rintro i s₁ h' tk ⟨h₄, tk₄, m, rfl, n₄, e₄, k₄⟩ hk' _
    have off : ∀ b : Addr, b ≠ s1.heap.objs.size → b ∉ [s1.heap.objs.size] := fun b hb hm => hb (List.mem_singleton.mp hm)
    refine ⟨h', tk, m, rfl, n₄.at' fun o e => hk' _ o (off _ ?_) e, ?_, fun b o e => hk' b o (off _ (Nat.ne_of_lt (Heap.lt_size e))) (k₄ b o e)⟩
    · exact Nat.ne_of_gt nC'
    · obtain ⟨m', ⟨o, es, ep, t, ho, r⟩, r2⟩ := e₄
      exact ⟨m', ⟨o, es, ep, t, hk' D o (off _ (Nat.ne_of_gt nD')) ho, r⟩, r2⟩
  · rintro i u s₁ hi hv' st ⟨h₄, tk₄, m, rfl, n₄, e₄, k₄⟩
    have hk : ∃ k, ns[i]? = some k := ⟨ns[i]'(by omega), List.getElem?_eq_getElem _⟩
    obtain ⟨k, hk⟩ := hk
    obtain ⟨t, tk, r, eu, ht⟩ := tup i u k hv' hk
    subst eu
    have offC : ∀ b : Addr, b < s1.heap.objs.size + 1 → b ≠ C := fun b hb => sf_ne hb nC'
    refine wpAny_assign_Name (wpAny_storeName_local kx n₄ (fun h₅ n₅ s₅ => ?_) hp)
    refine wpAny_tests_nil ?_
    rw [if_pos rfl]
    have k5 : ∀ b o, s1.heap.get? b = some o → h₅.get? b = some o := fun b o e => s₅.extBut b o (offC b (Nat.lt_succ_of_lt (Heap.lt_size e))) (k₄ b o e)
    have ht5 : IsTup h₅ t (Value.int k tk :: r).toArray := by
      obtain ⟨o, ho, rest⟩ := ht
      exact ⟨o, k5 _ _ ho, rest⟩
    refine Subscript_ ?_
    rw [eval_Name _ _ _ hv]
    refine wpAny_bind (wpAny_standAt (wpAny_loadName_local hkind kx n₅ (v := .ref t) (if_pos rfl) ?_))
    refine wpAny_Constant_int ?_
    refine item_tuple (j := 0) (x := Value.int k tk) ht5 (by decide) (by decide) (by unfold seqIndex?; simp) (by simp) ?_
    have set5 : SetTill h₅ prog w D ns i := by
      obtain ⟨m', ⟨o, es, ep, t', ho, r⟩, r2⟩ := e₄
      exact ⟨m', ⟨o, es, ep, t', s₅.extBut D o hDC ho, r⟩, r2⟩
    refine set_next set5 hk (by omega) fun h₆ s₆ set6 => ?_
    have offD : ∀ b : Addr, b < s1.heap.objs.size + 1 → b ≠ D := fun b hb => sf_ne hb nD'
    refine ⟨⟨h₆, _, _, rfl, n₅.at' fun o e => s₆.extBut _ o (Ne.symm hDC) e, set6, fun b o e => s₆.extBut b o (offD b (Nat.lt_succ_of_lt (Heap.lt_size e))) (k5 b o e)⟩, ?_⟩
    exact ⟨st.1.at fun o e => s₆.extBut _ o (offD _ (Nat.lt_succ_self _)) (s₅.extBut _ o (offC _ (Nat.lt_succ_self _)) e), st.2.at fun o e => s₆.extBut _ o (offD _ (Nat.lt_succ_of_lt hlt)) (s₅.extBut _ o (offC _ (Nat.lt_succ_of_lt hlt)) e)⟩
  · rintro s₁ ⟨h₄, tk₄, m, rfl, n₄, e₄, k₄⟩
    refine ⟨m, n₄, fun h' hs' => q D h' tk₄ (fun b o e => hs'.extBut b o (sf_ne (Nat.lt_succ_of_lt (Heap.lt_size e)) nC') (k₄ b o e)) ?_⟩
    rw [en]
    obtain ⟨m', ⟨o, es, ep, t, ho, r⟩, r2⟩ := e₄
    exact ⟨m', ⟨o, es, ep, t, hs'.extBut D o hDC ho, r⟩, r2⟩
end
variable {X : Cx}
def tLenFst (K : PySem.W.Frag) (ta : TE) : TE := fun σ H Q => ta σ H fun x H1 => ∃ (l : Addr) (xs : List V) (ns : List Int), x = V.ref l ∧ SqL K H1 l xs ∧ ns.length = xs.length ∧ ns.length < 64 ∧
  (∀ (i : Nat) x k, xs[i]? = some x → ns[i]? = some k → ∃ (t : Addr) (r : List V), x = .ref t ∧ SqT K H1 t (.int k :: r)) ∧ ∀ m : Nat, m ≤ ns.length → (m = ns.length ↔ ns.Nodup) → Q (.int m) H1
theorem pe_lenFst {iter : Expr} {v : PySem.Str} {ta : TE} {p q p1 p2 p3 p4 pos : Pos} {scope : Scope} (hc : X.calm = true) (hg : Gl X "len") (hm : X.mg "len" = none) (ha : PE X iter ta)
    (hv : (v == ("__debug__" : PySem.Str)) = false := by decide) (hnf : ∀ x ∈ scope.names, x.2 ≠ .free := by decide) (hcell : ∀ y ∈ scope.names, y.2 ≠ .cell := by decide) (hkind : scope.kind = .function := by rfl)
    (hnames : ∀ y ∈ scope.names, y.2 = .local → scope.names.lookup y.1 = some .local := by decide) (hx : scope.names.lookup v = some .local := by decide)
    (hs : ∀ x, foldedSetIterable iter X.env x = pure x := by intro _; rfl) :
    PE X (.Call (.Name "len" p) [.SetComp (.Subscript (.Name v p1) (.Constant (.int 0) 0 p2) p3) [⟨.Name v p4, iter, [], 0⟩] scope pos] [] q) (tLenFst X.K ta) := by
  refine ⟨fun pins s σ H Q I h => Call_ (ld_blt I hg hm PySem.boot_len (PyProof.Rows.callWith_builtin1 (PyProof.Rows.args_cons (set_firsts (I.ok.hd hc) hv hnf hcell hkind hnames hx hs (thn (ha.run pins s σ H _ I h) fun xv s1 got => ?_)) rfl) rfl rfl))⟩
  obtain ⟨x, H1, I1, r1, l, xs, ns, rfl, hq, h1, h2, h3, q1⟩ := got
  cases r1
  obtain ⟨its, r, pl, hz⟩ := I1.list hq
  refine ⟨l, its.toArray, ns, rfl, pl.isList, by rw [h1, List.size_toArray]; exact r.length, h2, fun i u k e1 e2 => ?_, fun D h' tk old hS => PyProof.Rows.args_nil ?_⟩
  · have e1 : its[i]? = some u := by simpa using e1
    have e3 : ∃ x, xs[i]? = some x := by
      have := (List.getElem?_eq_some_iff.mp e1).1
      have := r.length
      exact ⟨xs[i]'(by omega), List.getElem?_eq_getElem _⟩
    obtain ⟨x, e3⟩ := e3
    obtain ⟨t, rr, ex, ht⟩ := h3 i x k e3 e2
    obtain ⟨u', e4, r4⟩ := r.get e3
    rw [e1] at e4
    cases e4
    subst ex
    obtain ⟨jts, rj, pj, _⟩ := I1.tuple ht
    cases r4
    cases rj with
    | cons ra rb =>
      obtain ⟨tk, e5⟩ := ra
      subst e5
      exact ⟨t, tk, _, rfl, pj⟩
  · obtain ⟨m, ⟨o, es, ep, t, ho, hex, hd, _, _, hlt, hf, hn⟩, hm1, hm2⟩ := hS
    rw [List.take_length] at hm2
    exact call_len_set ho hex hd hf (by unfold scanBound at hlt; omega) ⟨.int (m : Nat), H1, (I1.kept old).tok _, ⟨_, by rw [hn]⟩, q1 m hm1 hm2⟩
end L2

set_option Elab.async false
set_option linter.all false
set_option maxRecDepth 100000
set_option maxHeartbeats 16000000
namespace Sm
open PySem PySem.Spec PyProof.Rows L2
/-- a promise that is never broken by a raise -/
theorem no_raise {P : Program} {w : World} {K : PySem.W.Frag} {mg : Str → Option Value} {base : Heap} {k : Nat} {f : Addr} {fd : FuncData} {ps : List Str} {sp sp' : Sp} (F : FnOk P w K mg base (L2.CX P w) k f fd ps sp) (h : ∀ vs H Q E, sp' vs H Q E → sp vs H Q E0) : FnOk P w K mg base CX0 k f fd ps sp' := by
  refine ⟨fun vs H Q E h' => F.len _ _ _ _ (h _ _ _ _ h'), fun A outer s H args us vs Q E hr e0 hb hv h' => ?_⟩
  refine codeAny_mono (F.run A outer s H args us _ Q E0 hr e0 hb hv (h _ _ _ _ h')) ?_
  rintro (e | fl) s' got
  · obtain ⟨_, _, _, _, _, _, _, _, _, _, _, _, hE⟩ := got
    exact hE.elim
  · match fl, got with
    | .next, got => exact got.elim
    | .brk, got => exact got.elim
    | .cont, got => exact got.elim
    | .ret u, got => exact got
theorem no_raiseC {P : Program} {w : World} {K : PySem.W.Frag} {mg : Str → Option Value} {base : Heap} {k : Nat} {x : Str} {ps : List Str} {sp sp' : Sp} (C : CalX P w K mg base x ps k sp) (h : ∀ vs H Q E, sp' vs H Q E → sp vs H Q E0) : Cal P w K mg base x ps k sp' := by
  obtain ⟨f, fd, F, m, kp, b⟩ := C
  exact ⟨f, fd, no_raise F h, m, kp, b⟩
end Sm

set_option Elab.async false
set_option linter.all false
set_option maxRecDepth 100000
set_option maxHeartbeats 16000000
namespace Sm
open PySem PySem.Spec PyProof.Rows L2
open C8 (pss_cut tCut)
abbrev s_BadLoop_init : Stmt := inClass (topS 6) 0
abbrev N_BadLoop_init : List Str := ["self", "indexes"]
theorem sc_BadLoop_init : FnScope N_BadLoop_init ["self", "indexes"] (defScope s_BadLoop_init) := ⟨rfl, rfl, rfl, by decide +kernel, rfl, by decide +kernel, by decide +kernel⟩
/-- the kinds at which the offers begin -/
def fsts (L : List Of) (is : List Nat) : List Int := is.map fun i => (((L.getD i of0).a : Nat) : Int)
def gdD (L : List Of) (dd : PyData) : Bool := glD L dd && match dd with
  | .tuple ds => decide (fsts L (nts ds)).Nodup
  | _ => false
theorem nodup_lt {n : Nat} : ∀ (l : List Int), l.Nodup → (∀ x ∈ l, 0 ≤ x ∧ x < (n : Int)) → l.length ≤ n := by
  induction n with
  | zero =>
    intro l nd h
    cases l with
    | nil => exact Nat.le_refl _
    | cons a l =>
      have := h a (List.mem_cons_self ..)
      omega
  | succ n ih =>
    intro l nd h
    have e : (l.filter (fun x => decide (x ≠ (n : Int)))).length ≤ n := ih _ (List.filter_sublist.nodup nd) fun x hx => by
      obtain ⟨h1, h2⟩ := List.mem_filter.mp hx
      have := h x h1
      have h2 : x ≠ (n : Int) := of_decide_eq_true h2
      omega
    have c : (l.filter (fun x => decide (x = (n : Int)))).length ≤ 1 := by
      have nd2 : (l.filter (fun x => decide (x = (n : Int)))).Nodup := List.filter_sublist.nodup nd
      have al : ∀ x ∈ l.filter (fun x => decide (x = (n : Int))), x = (n : Int) := fun x hx => of_decide_eq_true (List.mem_filter.mp hx).2
      match q : l.filter (fun x => decide (x = (n : Int))) with
      | [] => exact Nat.zero_le _
      | [a] => exact Nat.le_refl _
      | a :: b :: r =>
        rw [q] at nd2 al
        have e1 := al a (by simp)
        have e2 := al b (by simp)
        rw [e1, e2] at nd2
        simp at nd2
    have s : l.length = (l.filter (fun x => decide (x = (n : Int)))).length + (l.filter (fun x => decide (x ≠ (n : Int)))).length := by
      clear e c nd h ih
      induction l with
      | nil => rfl
      | cons a l ih =>
        by_cases q : a = (n : Int)
        · rw [List.filter_cons_of_pos (by simp [q]), List.filter_cons_of_neg (by simp [q]), List.length_cons, List.length_cons, ih]
          omega
        · rw [List.filter_cons_of_neg (by simp [q]), List.filter_cons_of_pos (by simp [q]), List.length_cons, List.length_cons, ih]
          omega
    omega
theorem fsts_short {L : List Of} {k : Nat} (ok : ∀ o ∈ L, OfOk k o) {is : List Nat} (il : ∀ i ∈ is, i < L.length) (nd : (fsts L is).Nodup) : is.length ≤ k := by
  have := nodup_lt (n := k) (fsts L is) nd fun x hx => by
    obtain ⟨i, hi, rfl⟩ := List.mem_map.mp hx
    have := (of_ok ok (il i hi)).a
    omega
  unfold fsts at this
  rwa [List.length_map] at this
theorem gl_one {L : List Of} {ds : List PyData} (h : glD L (.tuple ds) = true) : 1 ≤ (nts ds).length := by
  rw [glD_tup] at h
  cases e : nts ds with
  | nil =>
    rw [e] at h
    have : decide (prX L [] < prY L []) = false := by
      show decide ((1 : Int) < 1) = false
      decide
    rw [this] at h
    simp at h
  | cons a l =>
    rw [List.length_cons]
    omega
def sp_loop_purse (K : PySem.W.Frag) (c : Addr) : Sp := fun vs H Q E => ∃ (d : Addr) (k : Nat) (L : List Of) (v : V) (dd : PyData), vs = [.ref d, v] ∧ BoardAt H d k L ∧ (∀ o ∈ L, OfOk k o) ∧ Dq K H v dd ∧ (∀ ds, dd = .tuple ds → ds.length ≤ 16) ∧ k ≤ 4 ∧
  (gdD L dd = false → ∀ H' x, Same H H' → H' x = some (.xd [(("indexes" : Str), v)]) → E (.ref c) (some x) H') ∧
  (∀ ds, dd = .tuple ds → gdD L dd = true → ∀ H' e, Same H H' → LoopAt H' e (begP k L (nts ds)) (nts ds) (tsB L (nts ds) (nts ds).length) → Q (.ref e) H')
theorem iteNot {p A B : Prop} [Decidable p] (h : ¬ p) (b : B) : if decide p = true then A else B := by rw [decide_eq_false h]; exact b
theorem off_y {k : Nat} {o : Of} (h : OfOk k o) : atI (o.ns.map V.int) 3 = some (V.int ((o.y.toNat : Nat) : Int)) := by
  have := h.y0
  rw [Int.toNat_of_nonneg (by omega)]
  rfl
theorem off_x {k : Nat} {o : Of} (h : OfOk k o) : atI (o.ns.map V.int) 1 = some (V.int ((o.x.toNat : Nat) : Int)) := by
  have := h.x0
  rw [Int.toNat_of_nonneg (by omega)]
  rfl
theorem off_yb {k : Nat} {o : Of} (h : OfOk k o) : o.y.toNat ≤ 30 := by have := h.y1; omega
theorem off_xb {k : Nat} {o : Of} (h : OfOk k o) : 1 ≤ o.x.toNat ∧ o.x.toNat ≤ 30 := by have := h.x0; have := h.x1; omega
theorem atI_neg1 {xs : List V} {v : V} (h0 : 0 < xs.length) (h : xs[xs.length - 1]? = some v) : atI xs (-1) = some v := by
  unfold atI ixN
  rw [if_neg (by decide), if_pos (by omega), show ((-1 : Int) + (xs.length : Int)).toNat = xs.length - 1 by omega]
  exact h
/-- the times as a list -/
def tV (ts : List Nat) : List V := ts.map fun n => V.int ((n : Nat) : Int)
theorem tV_at {ts : List Nat} {j : Nat} (h : j < ts.length) : (tV ts)[j]? = some (.int ((ts.getD j 0 : Nat) : Int)) := by
  unfold tV
  rw [List.getElem?_map, List.getElem?_eq_getElem h, List.getD_eq_getElem?_getD, List.getElem?_eq_getElem h]
  rfl
theorem tV_step {ts : List Nat} {given x : Nat} : tV (stepT ts given x) = ((List.range (tV ts).length).map fun j => V.int (((ts.getD j 0 * (x / Nat.gcd given x) : Nat)) : Int)) ++ [V.int (((given * (x / Nat.gcd given x) / x : Nat)) : Int)] := by
  unfold tV stepT
  rw [List.map_append, List.map_map, List.length_map]
  congr 1
  refine List.ext_getElem (by simp) fun i h1 h2 => ?_
  have hi : i < ts.length := by simpa using h1
  simp [List.getElem_map, List.getD_eq_getElem?_getD, List.getElem?_eq_getElem hi]
section
variable {P : Program} {w : World} {K : PySem.W.Frag} {mg : Str → Option Value} {base : Heap} {cBadLoop fBadLoop : Addr}
theorem ok_BadLoop_init {fd : FuncData} (F : Fun K "__init__" "BadLoop.__init__" s_BadLoop_init fBadLoop fd) : FnOk P w K mg base CX0 1 fBadLoop fd ["self", "indexes"] (sp_init K "indexes") := by
  refine F.ok sc_BadLoop_init (fun vs H Q E h => ?_) (fun cdv A outer s H vs Q E hr h => ?_)
  · obtain ⟨a, C, v, rfl, _⟩ := h
    rfl
  obtain ⟨a, C, v, rfl, T, no, ha, k⟩ := h
  exact ⟨_, pss_one (ps_ost (pv 0) (pv 1)), _, rfl, _, rfl, a, C, rfl, T, no, .inl ⟨ha, k⟩⟩
abbrev s_loop_purse : Stmt := topS 10
abbrev N_loop_purse : List Str := ["board", "indexes", "loop", "times", "before", "offer", "given", "factor", "amounts", "index", "number"]
theorem sc_loop_purse : FnScope N_loop_purse ["board", "indexes"] (defScope s_loop_purse) := ⟨rfl, rfl, rfl, by decide +kernel, rfl, by decide +kernel, by decide +kernel⟩
theorem ok_loop_purse (T : Txt mg) (XBadLoop : XVal K mg "BadLoop" "indexes" cBadLoop fBadLoop) (iBadLoop : IniF K "BadLoop.__init__" "indexes" s_BadLoop_init fBadLoop) (D : Df K mg "loop_purse" s_loop_purse ["board", "indexes"]) (C_is_gaining_loop : Cal P w K mg base "is_gaining_loop" ["board", "value"] 3 (sp_is_gaining_loop K)) : CalX P w K mg base "loop_purse" ["board", "indexes"] 4 (sp_loop_purse K cBadLoop) := by
  obtain ⟨f_is_gaining_loop, fd_is_gaining_loop, G_is_gaining_loop, m_is_gaining_loop, k_is_gaining_loop, b_is_gaining_loop⟩ := C_is_gaining_loop
  obtain ⟨fd1, F1, b_BadLoop_init⟩ := iBadLoop
  have G_BadLoop_init : FnOk P w K mg base CX0 1 fBadLoop fd1 ["self", "indexes"] (sp_init K "indexes") := ok_BadLoop_init F1
  obtain ⟨f, fd, F, mgf, bd⟩ := D
  refine ⟨f, fd, F.okX sc_loop_purse (fun vs H Q E h => ?_) (fun cdv A outer s H vs Q E hr h => ?_), mgf, F.kp, bd⟩
  · obtain ⟨d, k, L, v, dd, rfl, _⟩ := h
    rfl
  obtain ⟨d, k, L, v, dd, rfl, hb, ok, hd, h16, k4, kx, kk⟩ := h
  obtain ⟨t, qs, hbd, ht, hL⟩ := id hb
  refine ⟨_, (pss_cons (ps_if (pt_not (pt_val (pe_call G_is_gaining_loop (hr.mono (by decide)) (by rfl) m_is_gaining_loop k_is_gaining_loop b_is_gaining_loop .nil pass0 (pa_cons (pv 0) (pa_cons (pv 1) pa_nil))))) (pss_one (ps_raise rfl (takes_of rfl rfl rfl rfl) (pmk_oex XBadLoop.oex XBadLoop.iC XBadLoop.tI G_BadLoop_init (hr.mono (by decide)) b_BadLoop_init .nil pass0 (by rfl) XBadLoop.g (pa_cons (pv 1) pa_nil)))) pss_nil)
    (pss_cons (ps_setLc (i := 2) (own := [("index", 9)]) (g := gName 9) (tt := tYes) rfl sc_loop_purse.nd rfl rfl (sw_true rfl rfl rfl (by decide +kernel)) (pi_tup (pv 1)) (blkOk_by (own := [("index", 9)]) (N := N_loop_purse) (sc := defScope s_loop_purse) (by decide +kernel)) (fun _ _ _ _ _ => pg_name (i := 9) sc_loop_purse.nd rfl (Or.inl rfl)) (fun _ _ _ _ _ => pts_nil) (fun _ _ _ _ _ => (pe_ix (show IxR _ (rIxT K) from ix_tup) (pe_ix (show IxR _ (rIxT K) from ix_tup) (pv 0) pe_int (fun _ _ => rfl)) (pv 9) (fun _ _ => rfl))))
    (pss_cons (ps_if (pt_cmpR op_lt (pe_lenFst rfl (by rfl) T.n_len (pv 2)) (pe_callB call_len_seq (by rfl) T.n_len (by decide +kernel) (pa_cons (pv 2) pa_nil)) (nomark _)) (pss_one (ps_raise rfl (takes_of rfl rfl rfl rfl) (pmk_oex XBadLoop.oex XBadLoop.iC XBadLoop.tI G_BadLoop_init (hr.mono (by decide)) b_BadLoop_init .nil pass0 (by rfl) XBadLoop.g (pa_cons (pv 1) pa_nil)))) pss_nil)
    (pss_cons (ps_set (i := 3) sc_loop_purse.nd rfl (Or.inl rfl) (pe_lst (pa_cons pe_int pa_nil)))
    (pss_cons (ps_for (passes_of rfl) rfl (RZ.pi_zipA (by rfl) T.n_zip (pa_cons (pv 2) (pa_cons (pe_slice sl_list (pv 2) (po_some pe_int) po_none) pa_nil))) (pg_tup (by rfl) (pgs_cons (pg_name (i := 4) sc_loop_purse.nd rfl (Or.inl rfl)) (pgs_cons (pg_name (i := 5) sc_loop_purse.nd rfl (Or.inl rfl)) pgs_nil)))
      (pss_cons (ps_set (i := 6) sc_loop_purse.nd rfl (Or.inl rfl) (pe_op op_mul (pe_ix ix_list (pv 3) (pe_un un_neg pe_int) (fun _ _ => rfl)) (pe_ix ix_tup (pv 4) pe_int (fun _ _ => rfl))))
    (pss_cons (ps_set (i := 7) sc_loop_purse.nd rfl (Or.inr rfl) (pe_op op_fdivW (pe_ix ix_tup (pv 5) pe_int (fun _ _ => rfl)) (pe_callBfun cr_gcd (by rfl) T.g_gcd (pa_cons (pv 6) (pa_cons (pe_ix ix_tup (pv 5) pe_int (fun _ _ => rfl)) pa_nil)))))
    (pss_one (ps_set (i := 3) sc_loop_purse.nd rfl (Or.inl rfl) (pe_op op_cat (pe_lc (own := [("number", 10)]) (g := gName 10) (tt := tYes) rfl sc_loop_purse.nd (pi_list (pv 3)) (blkOk_by (own := [("number", 10)]) (N := N_loop_purse) (sc := defScope s_loop_purse) (by decide +kernel)) (fun _ _ _ _ _ => pg_name (i := 10) sc_loop_purse.nd rfl (Or.inl rfl)) (fun _ _ _ _ _ => pts_nil) (fun _ _ _ _ _ => (pe_op op_mul (pv 10) (pv 7)))) (pe_lst (pa_cons (pe_op op_fdivW (pe_op op_mul (pv 6) (pv 7)) (pe_ix ix_tup (pv 5) pe_int (fun _ _ => rfl))) pa_nil))))))))
    (pss_cons (ps_set (i := 8) sc_loop_purse.nd rfl (Or.inl rfl) (pe_op op_rep (pe_lst (pa_cons pe_int pa_nil)) (pe_ix ix_tup (pv 0) pe_int (fun _ _ => rfl))))
    (pss_cons (ps_asg (pe_op op_mul (pe_ix ix_list (pv 3) pe_int (fun _ _ => rfl)) (pe_ix ix_tup (pe_ix ix_list (pv 2) pe_int (fun _ _ => rfl)) pe_int (fun _ _ => rfl))) (pg_sub (pv 8) (pe_ix ix_tup (pe_ix ix_list (pv 2) pe_int (fun _ _ => rfl)) pe_int (fun _ _ => rfl)) set_list))
    (pss_one (ps_ret (pe_tup (pa_cons (pe_callTy call_tuple_of (by rfl) T.n_tuple (by decide +kernel) (pa_cons (pv 8) pa_nil)) (pa_cons (pe_tupZip rfl (by rfl) T.n_tuple (by rfl) T.n_zip (pa_cons (pv 1) (pa_cons (pv 3) pa_nil))) pa_nil)))))))))))), ?_⟩
  refine ⟨_, rfl, _, rfl, d, k, L, v, dd, rfl, hb, ok, hd, h16, fun H1 s1 => ⟨_, rfl, ?_⟩⟩
  cases eg : glD L dd with
  | false =>
    refine iteT ?_
    refine xc_mk XBadLoop.oex XBadLoop.no ⟨_, rfl, v, rfl, fun y H7 s7 hy => kx (by unfold gdD; rw [eg]; rfl) H7 y (s1.trans s7) hy⟩ (fun h z => ?_)
    obtain ⟨v, e, q⟩ := z
    exact ⟨v, e, h _ _ q⟩
  | true =>
    refine iteF ?_
    cases hd with
    | non => cases eg
    | bl b => cases eg
    | int i => cases eg
    | str x => cases eg
    | lst e1 e2 e3 => cases eg
    | dic kvs e1 => cases eg
    | @tup q xs ds f1 f2 =>
      have ex : ixs L.length ds = true := by
        have := eg
        rw [glD_tup, Bool.and_eq_true] at this
        exact this.1
      obtain ⟨eq, il⟩ := ixs_ints f2 ex
      rw [eq] at f1
      have l1 := gl_one eg
      have l16 : (nts ds).length ≤ 16 := by
        have := h16 ds rfl
        unfold nts
        rw [List.length_map]
        exact this
      have kx : ¬ (fsts L (nts ds)).Nodup → _ := fun nd => kx (by unfold gdD; rw [eg]; exact decide_eq_false nd)
      have kk : (fsts L (nts ds)).Nodup → _ := fun nd => kk ds rfl (by unfold gdD; rw [eg]; exact decide_eq_true nd)
      generalize nts ds = is at f1 il l1 l16 kx kk
      have hq := s1 _ _ f1
      have li : ((is.map fun i : Nat => (i : Int)).map V.int).length = is.length := by rw [List.length_map, List.length_map]
      refine ⟨_, rfl, q, rfl, ⟨_, SqT.of hq⟩, fun R nR => ?_⟩
      refine lc_mT (fun j => (qs.map V.ref).getD (is.getD j 0) .non) hq nR (by rw [li]; omega) ?_ gName_mono ?_
      · intro j x H3 hx s3 R' hR
        rw [List.getElem?_map, List.getElem?_map] at hx
        cases e : is[j]? with
        | none => rw [e] at hx; cases hx
        | some i =>
          rw [e] at hx
          have ex : x = .int (i : Int) := (Option.some.inj hx).symm
          subst ex
          obtain ⟨q, c1, _⟩ := hL.at (il i (List.mem_of_getElem? e))
          refine ⟨rfl, _, rfl, _, _, _, _, rfl, rfl, SqT.of ((s1.trans s3) _ _ hbd), atI_nat (j := 1) rfl, _, rfl, _, _, _, _, rfl, rfl, SqT.of ((s1.trans s3) _ _ ht), atI_nat c1, ?_⟩
          have := hR H3 (Same.refl _)
          rw [List.getD_eq_getElem?_getD, List.getD_eq_getElem?_getD, e] at this
          rw [show (some i).getD 0 = i from rfl, c1] at this
          exact this
      intro H3 s3 hR
      rw [li] at hR
      obtain ⟨rows, hrows⟩ : ∃ rows, rows = (List.range is.length).map fun j => (qs.map V.ref).getD (is.getD j 0) .non := ⟨_, rfl⟩
      rw [← hrows] at hR
      have sH := s1.trans s3
      have lr : rows.length = is.length := by rw [hrows, List.length_map, List.length_range]
      have row : ∀ j, j < is.length → ∃ q, rows[j]? = some (.ref q) ∧ H q = some (.tup ((L.getD (is.getD j 0) of0).ns.map V.int)) ∧ OfOk k (L.getD (is.getD j 0) of0) := fun j hj => by
        have g : is.getD j 0 < L.length := by
          rw [List.getD_eq_getElem?_getD, List.getElem?_eq_getElem hj]
          exact il _ (List.getElem_mem hj)
        obtain ⟨q, c1, c2⟩ := hL.at g
        refine ⟨q, ?_, c2, of_ok ok g⟩
        rw [hrows, List.getElem?_map, List.getElem?_range hj]
        show some ((qs.map V.ref).getD (is.getD j 0) .non) = _
        rw [List.getD_eq_getElem?_getD, c1]
        rfl
      have lf : (fsts L is).length = is.length := by unfold fsts; rw [List.length_map]
      refine ⟨_, rfl, R, rows, fsts L is, rfl, SqL.of hR, by rw [lf, lr], by rw [lf]; omega, fun j x y hx hy => ?_, fun m m1 m2 => ?_⟩
      · have hj : j < is.length := by
          have := (List.getElem?_eq_some_iff.mp hx).1
          omega
        obtain ⟨q, r1, r2, _⟩ := row j hj
        rw [r1] at hx
        have ey : y = (((L.getD (is.getD j 0) of0).a : Nat) : Int) := by
          unfold fsts at hy
          rw [List.getElem?_map, List.getElem?_eq_getElem hj] at hy
          have eg : is.getD j 0 = is[j] := by rw [List.getD_eq_getElem?_getD, List.getElem?_eq_getElem hj]; rfl
          rw [eg]
          exact (Option.some.inj hy).symm
        subst ey
        exact ⟨q, _, (Option.some.inj hx).symm, SqT.of (sH _ _ r2)⟩
      rw [lf] at m1 m2
      refine ⟨_, rfl, R, rows, rfl, .inl (SqL.of hR), _, _, rfl, rfl, _, rfl, ?_⟩
      rw [lr]
      by_cases nd : (fsts L is).Nodup
      · have em := m2.mpr nd
        rw [em]
        refine iteNot (Int.lt_irrefl _) ?_
        have kk := kk nd
        have l4 : is.length ≤ 4 := Nat.le_trans (fsts_short ok il nd) k4
        refine ⟨(by show 1 ≤ sizeLine; decide), fun T0 nT0 => ?_⟩
        have sT := same_upd (o := .lst [.int 1]) nT0
        have hT0 : upd H3 T0 (.lst [.int 1]) T0 = some (.lst (tV (tsB L is 1))) := upd_same
        generalize upd H3 T0 (.lst [.int 1]) = H4 at sT hT0 ⊢
        have hR4 := sT _ _ hR
        refine ⟨_, rfl, _, rfl, _, rfl, no_part ⟨R, rows, rfl, SqL.of hR4, fun Z nZ => ?_⟩⟩
        have sZ := same_upd (o := .lst (cutV rows (some 1) none)) nZ
        have hZ : upd H4 Z (.lst (cutV rows (some 1) none)) Z = some (.lst (rows.drop 1)) := by rw [upd_same, show (1 : Int) = ((1 : Nat) : Int) from rfl, cut_from]
        generalize upd H4 Z (.lst (cutV rows (some 1) none)) = H5 at sZ hZ ⊢
        have s35 := sT.trans sZ
        have hR5 := s35 _ _ hR
        refine ⟨_, _, _, _, rfl, .inl ⟨SqL.of hR5, SqL.of hZ, ?_⟩⟩
        refine for_it (walk_zip (K := K) (xs := rows) (ys := rows.drop 1) rfl) (fun i σ H' => ∃ (T : Addr) (v4 v5 v6 v7 v8 v9 v10 : Option V), σ = [some (.ref d), some (.ref q), some (.ref R), some (.ref T), v4, v5, v6, v7, v8, v9, v10] ∧ Same H5 H' ∧ H' T = some (.lst (tV (tsB L is (i + 1))))) ⟨T0, _, _, _, _, _, _, _, rfl, Same.refl _, sZ _ _ hT0⟩ ?_ ?_ ?_
        · rintro i σ H' _ ⟨_, _, _, _, _, _, _, _, _, s', _⟩
          exact ⟨SqL.of (s' _ _ hR5), SqL.of (s' _ _ hZ)⟩
        · rintro i x σ H' H'' hi ⟨T, v4, v5, v6, v7, v8, v9, v10, rfl, s', hT⟩ ⟨W, x1, x2, rfl, nW, rfl, e1, e2⟩
          have hi : i + 1 < is.length := by
            have h1 : (rows.drop 1).length = rows.length - 1 := List.length_drop ..
            omega
          have e1 : rows[i]? = some x1 := e1
          have e2 : (rows.drop 1)[i]? = some x2 := e2
          rw [List.getElem?_drop, Nat.add_comm 1 i] at e2
          obtain ⟨q1, r1, r2, o1⟩ := row i (by omega)
          obtain ⟨q2, r3, r4, o2⟩ := row (i + 1) hi
          rw [r1] at e1
          rw [r3] at e2
          cases e1
          cases e2
          have sW := same_upd (o := .tup [.ref q1, .ref q2]) nW
          have sX := sH.trans (s35.trans (s'.trans sW))
          have g1 := sX _ _ r2
          have g2 := sX _ _ r4
          have hT1 := sW _ _ hT
          have hW : upd H' W (.tup [.ref q1, .ref q2]) W = some (.tup [.ref q1, .ref q2]) := upd_same
          have s2 := s'.trans sW
          generalize upd H' W (.tup [.ref q1, .ref q2]) = H6 at g1 g2 hT1 hW s2 ⊢
          refine ⟨W, _, rfl, SqT.of hW, rfl, _, _, rfl, _, _, rfl, rfl, ?_⟩
          have ya := off_y o1
          have xa := off_x o2
          have yb : yN L is i ≤ 30 := off_yb o1
          have xb : 1 ≤ xN L is (i + 1) ∧ xN L is (i + 1) ≤ 30 := off_xb o2
          obtain ⟨ts, ets⟩ : ∃ ts, ts = tsB L is (i + 1) := ⟨_, rfl⟩
          have lts : ts.length = i + 1 := by rw [ets]; exact tsB_len L is (i + 1)
          have enext : tsB L is (i + 1 + 1) = stepT ts (ts.getD i 0 * yN L is i) (xN L is (i + 1)) := by rw [ets]; rfl
          rw [← ets] at hT1
          rw [enext]
          change atI _ 3 = some (V.int ((yN L is i : Nat) : Int)) at ya
          change atI _ 1 = some (V.int ((xN L is (i + 1) : Nat) : Int)) at xa
          generalize yN L is i = y1 at ya yb ⊢
          generalize xN L is (i + 1) = x2 at xa xb ⊢
          have gl : ts.getD i 0 = ts.getD i 0 := rfl
          refine ⟨_, rfl, _, rfl, T, _, _, _, rfl, rfl, SqL.of hT1, atI_neg1 (by unfold tV; rw [List.length_map]; omega) (by rw [show (tV ts).length = ts.length from List.length_map .., lts]; exact tV_at (by omega)), _, rfl, _, _, _, _, rfl, rfl, SqT.of g1, ya, _, _, rfl, rfl, .inr ⟨by omega, by omega⟩, ?_⟩
          obtain ⟨gv, egv⟩ : ∃ gv : Nat, gv = ts.getD i 0 * y1 := ⟨_, rfl⟩
          have em : V.int (((ts.getD i 0 : Nat) : Int) * ((y1 : Nat) : Int)) = V.int ((gv : Nat) : Int) := by rw [egv, Int.natCast_mul]
          show gName 6 (V.int (((ts.getD i 0 : Nat) : Int) * ((y1 : Nat) : Int))) _ _ _
          rw [em]
          obtain ⟨fc, efc⟩ : ∃ fc : Nat, fc = x2 / Nat.gcd gv x2 := ⟨_, rfl⟩
          have g0 : 0 < Nat.gcd gv x2 := Nat.gcd_pos_of_pos_right _ (by omega)
          have gx : Nat.gcd gv x2 ≤ 30 := Nat.le_trans (Nat.le_of_dvd (by omega) (Nat.gcd_dvd_right ..)) xb.2
          have fb : fc ≤ 30 := by rw [efc]; exact Nat.le_trans (Nat.div_le_self ..) xb.2
          refine ⟨_, rfl, _, _, _, _, rfl, rfl, SqT.of g2, xa, _, rfl, _, rfl, _, _, _, _, rfl, rfl, SqT.of g2, xa, _, _, rfl, _, _, rfl, rfl, wide_div (b := 20) (by show (0 : Int) < ((Nat.gcd gv x2 : Nat) : Int); omega) (by show Nat.gcd gv x2 < 2 ^ 20; omega) (by decide) (by decide), ?_⟩
          have ef : V.int (((x2 : Nat) : Int) / ((Nat.gcd gv x2 : Nat) : Int)) = V.int ((fc : Nat) : Int) := by rw [efc, Int.natCast_ediv]
          show gName 7 (V.int (((x2 : Nat) : Int) / ((Nat.gcd gv x2 : Nat) : Int))) _ _ _
          rw [ef]
          refine ⟨_, rfl, T, rfl, ⟨_, SqL.of hT1⟩, fun M nM => ?_⟩
          refine lc_mL (fun j => V.int (((ts.getD j 0 * fc : Nat)) : Int)) hT1 nM (by rw [show (tV ts).length = ts.length from List.length_map ..]; omega) ?_ gName_mono ?_
          · intro j x H7 hx s7 R' hR'
            have hj : j < ts.length := by
              have := (List.getElem?_eq_some_iff.mp hx).1
              rwa [show (tV ts).length = ts.length from List.length_map ..] at this
            rw [tV_at hj] at hx
            cases hx
            refine ⟨rfl, _, rfl, _, rfl, _, _, rfl, rfl, .inr ⟨by omega, by omega⟩, ?_⟩
            have := hR' H7 (Same.refl _)
            rwa [Int.natCast_mul] at this
          intro H7 s7 hM
          refine ⟨_, rfl, _, rfl, _, _, rfl, rfl, .inr ⟨by omega, by omega⟩, _, rfl, _, _, _, _, rfl, rfl, SqT.of (s7 _ _ g2), xa, _, _, rfl, rfl, wide_div (b := 20) (by omega) (by omega) (by decide) (by decide), (by show 1 ≤ sizeLine; decide), fun N nN => ?_⟩
          have en : V.int (((gv : Nat) : Int) * ((fc : Nat) : Int) / ((x2 : Nat) : Int)) = V.int ((gv * fc / x2 : Nat) : Int) := by rw [Int.natCast_ediv, Int.natCast_mul]
          have hN : upd H7 N (.lst [.int (((gv : Nat) : Int) * ((fc : Nat) : Int) / ((x2 : Nat) : Int))]) N = some (.lst [.int (((gv : Nat) : Int) * ((fc : Nat) : Int) / ((x2 : Nat) : Int))]) := upd_same
          have sN := same_upd (o := .lst [.int (((gv : Nat) : Int) * ((fc : Nat) : Int) / ((x2 : Nat) : Int))]) nN
          refine ⟨M, N, _, _, rfl, rfl, sN _ _ hM, hN, Nat.le_trans (show _ + 1 ≤ 100 by rw [List.length_map, List.length_range, show (tV ts).length = ts.length from List.length_map ..]; omega) (by decide), fun p np => ?_⟩
          refine ⟨p, _, _, _, _, _, _, _, rfl, s2.trans (s7.trans (sN.trans (same_upd np))), ?_⟩
          rw [upd_same, tV_step, ← egv, ← efc, en]
        · rintro σ H' ⟨T, v4, v5, v6, v7, v8, v9, v10, rfl, s', hT⟩
          have mn : min rows.length (rows.drop 1).length + 1 = is.length := by
            rw [List.length_drop, lr]
            omega
          rw [mn] at hT
          have lts : (tsB L is is.length).length = is.length := tsB_len L is is.length
          have ebeg : begP k L is = (List.replicate k 0).set (L.getD (is.getD 0 0) of0).a (((xN L is 0 * (tsB L is is.length).getD 0 0 : Nat) : Int)) := rfl
          generalize tsB L is is.length = ts at hT lts kk ebeg
          have sA := sH.trans (s35.trans s')
          have hbA := sA _ _ hbd
          have hRA := (s35.trans s') _ _ hR
          have hqA := (s3.trans (s35.trans s')) _ _ hq
          refine ⟨(by show 1 ≤ sizeLine; decide), fun Z2 nZ2 => ?_⟩
          have sZ2 := same_upd (o := .lst [.int 0]) nZ2
          refine ⟨_, rfl, _, _, _, _, rfl, rfl, SqT.of (sZ2 _ _ hbA), atI_nat (j := 0) rfl, Z2, _, _, rfl, rfl, upd_same, by omega, by omega, ?_, fun Pz nP => ?_⟩
          · show 1 * ((k : Int)).toNat ≤ sizeLine
            exact Nat.le_trans (show 1 * ((k : Int)).toNat ≤ 1000 by omega) (by decide)
          rw [show ((k : Int)).toNat = k by omega, rep_one]
          have sP := same_upd (o := .lst ((List.replicate k (0 : Int)).map V.int)) nP
          have hP : upd (upd H' Z2 (.lst [.int 0])) Pz (.lst ((List.replicate k (0 : Int)).map V.int)) Pz = some (.lst ((List.replicate k (0 : Int)).map V.int)) := upd_same
          have s56 : Same H' (upd (upd H' Z2 (.lst [.int 0])) Pz (.lst ((List.replicate k (0 : Int)).map V.int))) := sZ2.trans sP
          generalize upd (upd H' Z2 (.lst [.int 0])) Pz (.lst ((List.replicate k (0 : Int)).map V.int)) = H6 at hP s56 ⊢
          have nP5 : ∀ c o, H' c = some o → c ≠ Pz := fun c o e => ne_of_none (sZ2 _ _ e) nP
          have hR6 := s56 _ _ hRA
          have hT6 := s56 _ _ hT
          obtain ⟨z0, ra, rb, o0⟩ := row 0 l1
          have rb6 := s56 _ _ (sA _ _ rb)
          have b1 := o0.x0
          have b2 := o0.x1
          have ba := o0.a
          refine ⟨_, rfl, _, _, _, _, rfl, rfl, SqL.of hT6, atI_nat (j := 0) (tV_at (by omega)), ?_⟩
          refine ⟨_, rfl, _, _, _, _, rfl, rfl, SqL.of hR6, atI_nat (j := 0) ra, _, _, _, _, rfl, rfl, SqT.of rb6, atI_nat (j := 1) rfl, _, _, rfl, rfl, .inr ⟨by omega, by omega⟩, ?_⟩
          refine ⟨_, rfl, _, rfl, _, _, _, _, rfl, rfl, SqL.of hR6, atI_nat (j := 0) ra, _, _, _, _, rfl, rfl, SqT.of rb6, atI_nat (j := 0) rfl, ?_⟩
          have ix : ixN ((List.replicate k (0 : Int)).map V.int).length (((L.getD (is.getD 0 0) of0).a : Nat) : Int) = some (L.getD (is.getD 0 0) of0).a := by
            rw [List.length_map, List.length_replicate]
            unfold ixN
            rw [if_pos (by omega), if_pos (by omega), Int.toNat_natCast]
          refine ⟨Pz, _, _, _, rfl, rfl, hP, ix, ?_⟩
          have ev : V.int (((ts.getD 0 0 : Nat) : Int) * (L.getD (is.getD 0 0) of0).x) = V.int (((xN L is 0 * ts.getD 0 0 : Nat) : Int)) := by
            rw [Int.natCast_mul, Int.mul_comm]
            congr 2
            unfold xN
            omega
          have eb : ((List.replicate k (0 : Int)).map V.int).set (L.getD (is.getD 0 0) of0).a (V.int (((ts.getD 0 0 : Nat) : Int) * (L.getD (is.getD 0 0) of0).x)) = (begP k L is).map V.int := by
            rw [ev, ebeg, List.map_set]
          have hP7 : upd H6 Pz (.lst (((List.replicate k (0 : Int)).map V.int).set (L.getD (is.getD 0 0) of0).a (V.int (((ts.getD 0 0 : Nat) : Int) * (L.getD (is.getD 0 0) of0).x)))) Pz = some (.lst ((begP k L is).map V.int)) := by rw [upd_same, eb]
          have s57 : Same H' (upd H6 Pz (.lst (((List.replicate k (0 : Int)).map V.int).set (L.getD (is.getD 0 0) of0).a (V.int (((ts.getD 0 0 : Nat) : Int) * (L.getD (is.getD 0 0) of0).x))))) := fun c o e => by
            rw [upd_ne (nP5 c o e)]
            exact s56 _ _ e
          refine ⟨_, rfl, _, _, rfl, .inl ⟨SqL.of hP7, fun A1 nA => ?_⟩⟩
          have sA1 := same_upd (o := .tup ((begP k L is).map V.int)) nA
          have s58 := s57.trans sA1
          refine ⟨_, rfl, _, rfl, _, _, _, _, rfl, SqT.of (s58 _ _ hqA), SqL.of (s58 _ _ hT), by rw [li, show (tV ts).length = ts.length from List.length_map .., lts], by rw [li]; omega, fun H8 Wt ws s8 hWt wl hw => ?_⟩
          refine ⟨(by show 2 ≤ sizeLine; decide), fun e ne => ?_⟩
          have se := same_upd (o := .tup [.ref A1, .ref Wt]) ne
          refine kk _ e (sA.trans (s58.trans (s8.trans se))) ⟨A1, Wt, ws, upd_same, se _ _ (s8 _ _ upd_same), se _ _ hWt, by rw [wl, li], fun j w e' => ?_⟩
          have hj : j < is.length := by
            have := (List.getElem?_eq_some_iff.mp e').1
            omega
          refine se _ _ (hw j w _ _ e' ?_ (tV_at (by omega)))
          rw [List.getElem?_map, List.getElem?_map, List.getElem?_eq_getElem hj, List.getD_eq_getElem?_getD, List.getElem?_eq_getElem hj]
          rfl
      · have hm : m < is.length := by
          rcases Nat.lt_or_eq_of_le m1 with h | h
          · exact h
          · exact absurd (m2.mp h) nd
        refine iteP (by omega) ?_
        refine xc_mk XBadLoop.oex XBadLoop.no ⟨_, rfl, _, rfl, fun y H7 s7 hy => kx nd H7 y (sH.trans s7) hy⟩ (fun h z => ?_)
        obtain ⟨v, e, q⟩ := z
        exact ⟨v, e, h _ _ q⟩
end
end Sm

set_option Elab.async false
set_option linter.all false
set_option maxRecDepth 100000
set_option maxHeartbeats 16000000
namespace Sm
open PySem PySem.Spec PyProof.Rows L2
open C8 (pss_cut tCut)
structure XCg (mg : Str → Option Value) (cChangeError : Addr) : Prop where
  gChangeError : mg "ChangeError" = some (.ref cChangeError)
/-- data that may be shown -/
structure Shd (d : PyData) : Prop where
  sh : PyData.showable d = true
  dep : d.depth ≤ 60
  len : d.shown.length ≤ sizeLine
def sp_l_is_bad (K : PySem.W.Frag) : Sp := fun vs H Q _ => ∃ (d : Addr) (k : Nat) (L : List Of) (v : V) (dd : PyData), vs = [.ref d, v] ∧ BoardAt H d k L ∧ (∀ o ∈ L, OfOk k o) ∧ Dq K H v dd ∧ (∀ ds, dd = .tuple ds → ds.length ≤ 16) ∧ k ≤ 4 ∧ Shd dd ∧ gdD L dd = false ∧ ∀ H', Same H H' → Q (.bl true) H'
def sp_loop0 (K : PySem.W.Frag) : Sp := fun vs H Q _ => ∃ (d : Addr) (k : Nat) (L : List Of) (v : V) (ds : List PyData), vs = [.ref d, v] ∧ BoardAt H d k L ∧ (∀ o ∈ L, OfOk k o) ∧ Dq K H v (.tuple ds) ∧ ds.length ≤ 16 ∧ k ≤ 4 ∧ gdD L (.tuple ds) = true ∧
  ∀ H' e, Same H H' → LoopAt H' e (begP k L (nts ds)) (nts ds) (tsB L (nts ds) (nts ds).length) → Q (.ref e) H'
section
variable {P : Program} {w : World} {K : PySem.W.Frag} {mg : Str → Option Value} {base : Heap} {cBadLoop fBadLoop cChangeError : Addr}
theorem ok_loop0 (C : CalX P w K mg base "loop_purse" ["board", "indexes"] 4 (sp_loop_purse K cBadLoop)) : Cal P w K mg base "loop_purse" ["board", "indexes"] 4 (sp_loop0 K) := by
  refine no_raiseC C fun vs H Q E h => ?_
  obtain ⟨d, k, L, v, ds, rfl, hb, ok, hd, h16, k4, g, kk⟩ := h
  refine ⟨d, k, L, v, .tuple ds, rfl, hb, ok, hd, (fun ds' e => by cases e; exact h16), k4, fun g' => (by rw [g] at g'; cases g'), fun ds' e _ H' e' s l => ?_⟩
  cases e
  exact kk H' e' s l
abbrev s_l_is_bad : Stmt := topS 23
abbrev N_l_is_bad : List Str := ["_law_board_here", "_law_value", "_law_before", "error"]
theorem sc_l_is_bad : FnScope N_l_is_bad ["_law_board_here", "_law_value"] (defScope s_l_is_bad) := ⟨rfl, rfl, rfl, by decide +kernel, rfl, by decide +kernel, by decide +kernel⟩
theorem ok_l_is_bad {f : Addr} {fd : FuncData} (T : Txt mg) (XBadLoop : XVal K mg "BadLoop" "indexes" cBadLoop fBadLoop) (XC : XCg mg cChangeError) (kCE : PySem.W.kitOne K (.ref cBadLoop) (.ref cChangeError) = some true)
    (C_loop_purse : CalX P w K mg base "loop_purse" ["board", "indexes"] 4 (sp_loop_purse K cBadLoop)) (F : Fun K "_law_is_bad" "_law_is_bad" s_l_is_bad f fd) : FnG P w K mg base 5 f fd ["_law_board_here", "_law_value"] (sp_l_is_bad K) := by
  obtain ⟨f_loop_purse, fd_loop_purse, G_loop_purse, m_loop_purse, k_loop_purse, b_loop_purse⟩ := C_loop_purse
  refine FnG.body F sc_l_is_bad (fun vs H Q E h => ?_) (fun cdv A outer s H vs Q E gu hr h => ?_)
  · obtain ⟨d, k, L, v, dd, rfl, _⟩ := h
    rfl
  obtain ⟨d, k, L, v, dd, rfl, hb, ok, hd, h16, k4, sd, g, kk⟩ := h
  refine ⟨_, (pss_cons (ps_set (i := 2) sc_l_is_bad.nd rfl (Or.inl rfl) (pe_callB (call_reprQ gu ⟨_, hr⟩) (by rfl) T.n_repr (by decide +kernel) (pa_cons (pv 1) pa_nil)))
    (pss_cons (ps_try_names rfl rfl sc_l_is_bad.nd
      (fun W pn xe tk _ => (pss_one (ps_expr (pe_callS G_loop_purse (hr.mono (by decide)) rfl m_loop_purse k_loop_purse b_loop_purse (fun σ => passAt tk σ) (pa_cons (pv 0) (pa_cons (pv 1) pa_nil))))))
      (.cons (i := 3) ⟨rfl, by decide, .inl XBadLoop.g⟩ rfl rfl (fun a oe cls d pn hz hf => (pss_one (ps_ret (pe_and (pe_callB (call_isX hz hf) (by rfl) T.n_isinstance (by decide +kernel) (pa_cons (pv 3) (pa_cons (pe_glob (v := .ref cChangeError) rfl XC.gChangeError rfl) pa_nil))) (pe_one (pe_cmpR op_eq (pe_callB (show CallR _ (.builtin "repr") (rReprQ K) from call_reprU gu (un_mk hr)) (by rfl) T.n_repr (by decide +kernel) (pa_cons (pe_xf XBadLoop.xf XBadLoop.no hz hf (pv 3)) pa_nil)) (pv 2) (nomark _)))))))
      .nil))
    (pss_one (ps_ret pe_bl)))), ?_⟩
  refine ⟨_, rfl, v, dd, rfl, hd, sd.sh, sd.dep, sd.len, ?_⟩
  refine ⟨_, rfl, _, rfl, d, k, L, v, dd, rfl, hb, ok, hd, h16, k4, fun _ H' y s' hy => ?_, fun ds e g' => ?_⟩
  · refine ⟨true, XBadLoop.te, fun _ ea nea => ?_, fun z => nomatch z⟩
    refine ⟨_, rfl, cBadLoop, _, _, rfl, rfl, hy, XBadLoop.ec, .inl ⟨_, _, true, rfl, .own _, kCE, _, rfl, iteT ?_⟩⟩
    refine ⟨_, rfl, rfl, rfl, y, _, v, rfl, hy, rfl, v, dd, rfl, hd.same s', sd.sh, sd.dep, sd.len, _, rfl, rfl, ?_⟩
    rw [decide_eq_true rfl]
    exact kk H' s'
  · rw [g] at g'
    cases g'
end
end Sm

set_option Elab.async false
set_option linter.all false
set_option maxRecDepth 100000
set_option maxHeartbeats 8000000
namespace Sm
open PySem PySem.Spec PyProof.Rows L2
open C8 (pss_cut tCut)
/-! ### values that stay, whatever is done to some lists -/
abbrev Ag (E : Addr → Prop) (H H' : Hp) : Prop := ∀ b o, ¬E b → H b = some o → H' b = some o
theorem Ag.trans {E : Addr → Prop} {H H1 H2 : Hp} (a : Ag E H H1) (b : Ag E H1 H2) : Ag E H H2 := fun c o n h => b c o n (a c o n h)
theorem Ag.of {E : Addr → Prop} {H H' : Hp} (s : Same H H') : Ag E H H' := fun b o _ h => s b o h
def LE (E : Addr → Prop) (H : Hp) : Prop := ∀ b, E b → ∃ xs, H b = some (.lst xs)
theorem LE.same {E : Addr → Prop} {H H' : Hp} (h : LE E H) (s : Same H H') : LE E H' := fun b e => by
  obtain ⟨xs, x⟩ := h b e
  exact ⟨xs, s _ _ x⟩
theorem LE.fr {E : Addr → Prop} {H H' : Hp} {p l : Addr} {n : Int} (h : LE E H) (f : Fr p l H H') (D : Deck H' p l n) : LE E H' := fun b e => by
  by_cases b1 : b = p
  · exact ⟨_, b1 ▸ D.hp⟩
  by_cases b2 : b = l
  · obtain ⟨c, q, _⟩ := D.hl
    exact ⟨_, b2 ▸ q⟩
  obtain ⟨xs, x⟩ := h b e
  exact ⟨xs, f b _ b1 b2 x⟩
theorem LE.nt {E : Addr → Prop} {H : Hp} {u : Addr} {xs : List V} (h : LE E H) (e : H u = some (.tup xs)) : ¬E u := fun c => by
  obtain ⟨ys, y⟩ := h u c
  rw [e] at y
  cases y
theorem LE.nn {E : Addr → Prop} {H : Hp} {u : Addr} (h : LE E H) (e : H u = none) : ¬E u := fun c => by
  obtain ⟨ys, y⟩ := h u c
  rw [e] at y
  cases y
theorem LE.more {E : Addr → Prop} {H : Hp} {F : Addr} {xs : List V} (h : LE E H) (e : H F = some (.lst xs)) : LE (fun b => E b ∨ b = F) H := fun b c => by
  rcases c with c | rfl
  · exact h b c
  · exact ⟨_, e⟩
theorem Fr.ag {E : Addr → Prop} {H H' : Hp} {p l : Addr} (f : Fr p l H H') (ep : E p) (el : E l) : Ag E H H' := fun b o n h => f b o (fun c => n (c ▸ ep)) (fun c => n (c ▸ el)) h
theorem Ag.put {E : Addr → Prop} {H : Hp} {F : Addr} {o : HO} (h : E F) : Ag E H (upd H F o) := fun b x n e => by
  have ne : b ≠ F := fun c => n (by rw [c]; exact h)
  rw [upd_ne ne]
  exact e
def DX (K : PySem.W.Frag) (E : Addr → Prop) (H : Hp) (x : V) (d : PyData) : Prop := ∀ H', Ag E H H' → Dq K H' x d
theorem DX.ag {K : PySem.W.Frag} {E : Addr → Prop} {H H' : Hp} {x : V} {d : PyData} (h : DX K E H x d) (a : Ag E H H') : DX K E H' x d := fun H2 b => h H2 (Ag.trans a b)
theorem DX.dq {K : PySem.W.Frag} {E : Addr → Prop} {H : Hp} {x : V} {d : PyData} (h : DX K E H x d) : Dq K H x d := h H fun _ _ _ e => e
theorem DX.grow {K : PySem.W.Frag} {E E' : Addr → Prop} {H : Hp} {x : V} {d : PyData} (h : DX K E H x d) (g : ∀ b, E' b → E b ∨ H b = none) : DX K E' H x d := fun H2 a => h H2 fun b o n e => a b o (fun c => by
  rcases g b c with c | c
  · exact n c
  · rw [c] at e; cases e) e
def DXs (K : PySem.W.Frag) (E : Addr → Prop) (H : Hp) (xs : List V) (ds : List PyData) : Prop := ∀ H', Ag E H H' → DqAll K H' xs ds
theorem dxs_of {K : PySem.W.Frag} {E : Addr → Prop} {H : Hp} {Pd : PyData → Prop} : ∀ {xs : List V}, (∀ x ∈ xs, ∃ d, DX K E H x d ∧ Pd d) → ∃ ds, DXs K E H xs ds ∧ ds.length = xs.length ∧ ∀ d ∈ ds, Pd d
  | [], _ => ⟨[], fun _ _ => .nil, rfl, fun d h => nomatch h⟩
  | x :: xs, h => by
    obtain ⟨d, h1, h2⟩ := h x (List.mem_cons_self ..)
    obtain ⟨ds, h3, h4, h5⟩ := dxs_of (xs := xs) fun x hx => h x (List.mem_cons_of_mem _ hx)
    refine ⟨d :: ds, fun H' a => .cons (h1 H' a) (h3 H' a), by rw [List.length_cons, List.length_cons, h4], fun z hz => ?_⟩
    rcases List.mem_cons.mp hz with rfl | hz
    · exact h2
    · exact h5 z hz
theorem DX.tup {K : PySem.W.Frag} {E : Addr → Prop} {H : Hp} {u : Addr} {xs : List V} {ds : List PyData} (h : H u = some (.tup xs)) (n : ¬E u) (a : DXs K E H xs ds) : DX K E H (.ref u) (.tuple ds) := fun H' g => .tup (g _ _ n h) (a H' g)
theorem DX.lst {K : PySem.W.Frag} {E : Addr → Prop} {H : Hp} {u : Addr} {xs : List V} {ds : List PyData} (h : H u = some (.lst xs)) (n : ¬E u) (e : (u == sysModules) = false) (a : DXs K E H xs ds) : DX K E H (.ref u) (.list ds) := fun H' g => .lst (g _ _ n h) e (a H' g)
/-! ### how long a text is -/
theorem sml_all {k n : Nat} : ∀ {ds : List PyData}, (∀ d ∈ ds, Sml k n d) → PyData.showableAll ds = true ∧ PyData.depthAll ds ≤ k ∧ ((PyData.shownAll ds).map (·.length)).sum ≤ n * ds.length ∧ (PyData.shownAll ds).length = ds.length
  | [], _ => by simp [PyData.showableAll, PyData.depthAll, PyData.shownAll]
  | d :: ds, h => by
    obtain ⟨a1, a2, a3, a4⟩ := sml_all (ds := ds) fun z hz => h z (List.mem_cons_of_mem _ hz)
    obtain ⟨b1, b2, b3⟩ := h d (List.mem_cons_self ..)
    simp only [PyData.showableAll, PyData.depthAll, PyData.shownAll, List.map_cons, List.sum_cons, List.length_cons, a1, b1, Bool.and_self, true_and]
    refine ⟨by omega, ?_, by omega⟩
    rw [Nat.mul_add, Nat.mul_one]
    omega
theorem Sml.up {k n k' n' : Nat} {d : PyData} (h : Sml k n d) (a : k ≤ k') (b : n ≤ n') : Sml k' n' d := ⟨h.sh, Nat.le_trans h.dep a, Nat.le_trans h.len b⟩
theorem sml_tup {k n m : Nat} {ds : List PyData} (h : ∀ d ∈ ds, Sml k n d) (l : n * ds.length + 2 * ds.length + 3 ≤ m) : Sml (k + 1) m (.tuple ds) := by
  obtain ⟨a1, a2, a3, a4⟩ := sml_all h
  have t := PySem.tupleText_len_le (PyData.shownAll ds)
  rw [a4] at t
  refine ⟨by simp only [PyData.showable]; exact a1, by simp only [PyData.depth]; omega, ?_⟩
  simp only [PyData.shown]
  omega
theorem sml_lst {k n m : Nat} {ds : List PyData} (h : ∀ d ∈ ds, Sml k n d) (l : n * ds.length + 2 * ds.length + 3 ≤ m) : Sml (k + 1) m (.list ds) := by
  obtain ⟨a1, a2, a3, a4⟩ := sml_all h
  have t := listText_len_le (PyData.shownAll ds)
  rw [a4] at t
  refine ⟨by simp only [PyData.showable]; exact a1, by simp only [PyData.depth]; omega, ?_⟩
  simp only [PyData.shown]
  omega
theorem sml_int {i : Int} (h : i.natAbs.log2 < 1920) : Sml 1 1930 (.int i) := by
  have a := PyProof.Rows.int_text_len_1921 h
  refine ⟨?_, by simp [PyData.depth], ?_⟩
  · have : PyData.showableAll [PyData.int i] = true := showable_ints (ns := [i]) fun n hn => by rw [List.mem_singleton.mp hn]; exact h
    simpa [PyData.showableAll] using this
  · simp only [PyData.shown]
    omega
theorem sml_bl (b : Bool) : Sml 1 1930 (.bool b) := by
  cases b
  · exact ⟨by decide +kernel, by decide +kernel, by decide +kernel⟩
  · exact ⟨by decide +kernel, by decide +kernel, by decide +kernel⟩
theorem log_int {i : Int} (h0 : -(10 ^ 60) ≤ i) (h1 : i ≤ 10 ^ 60) : i.natAbs.log2 < 1920 :=
  Nat.lt_of_lt_of_le (PySem.Flt.log2_lt_of (k := 310) (by decide) (by omega)) (by decide)
/-- an item of a tuple, a value behind a name -/
def Itm (K : PySem.W.Frag) (E : Addr → Prop) (H : Hp) (x : V) : Prop := ∃ d, DX K E H x d ∧ Sml 3 1930 d
def Good (K : PySem.W.Frag) (E : Addr → Prop) (H : Hp) (x : V) : Prop := ∃ d, DX K E H x d ∧ Sml 4 40000 d ∧ t16 d = true
def Top (K : PySem.W.Frag) (E : Addr → Prop) (H : Hp) (x : V) : Prop := ∃ d, DX K E H x d ∧ Sml 6 200000 d ∧ w16 d = true
section
variable {K : PySem.W.Frag} {E E' : Addr → Prop} {H H' : Hp} {x : V}
theorem Itm.ag (h : Itm K E H x) (a : Ag E H H') : Itm K E H' x := by obtain ⟨d, h, r⟩ := h; exact ⟨d, h.ag a, r⟩
theorem Good.ag (h : Good K E H x) (a : Ag E H H') : Good K E H' x := by obtain ⟨d, h, r⟩ := h; exact ⟨d, h.ag a, r⟩
theorem Top.ag (h : Top K E H x) (a : Ag E H H') : Top K E H' x := by obtain ⟨d, h, r⟩ := h; exact ⟨d, h.ag a, r⟩
theorem Good.grow (h : Good K E H x) (g : ∀ b, E' b → E b ∨ H b = none) : Good K E' H x := by obtain ⟨d, h, r⟩ := h; exact ⟨d, h.grow g, r⟩
theorem Top.grow (h : Top K E H x) (g : ∀ b, E' b → E b ∨ H b = none) : Top K E' H x := by obtain ⟨d, h, r⟩ := h; exact ⟨d, h.grow g, r⟩
theorem Itm.int {i : Int} (h0 : -(10 ^ 60) ≤ i) (h1 : i ≤ 10 ^ 60) : Itm K E H (.int i) := ⟨.int i, fun _ _ => .int i, (sml_int (log_int h0 h1)).up (by decide) (Nat.le_refl _)⟩
theorem Itm.bl (b : Bool) : Itm K E H (.bl b) := ⟨.bool b, fun _ _ => .bl b, (sml_bl b).up (by decide) (Nat.le_refl _)⟩
theorem Good.tup {u : Addr} {xs : List V} (h : H u = some (.tup xs)) (le : LE E H) (l : xs.length ≤ 16) (a : ∀ x ∈ xs, Itm K E H x) : Good K E H (.ref u) := by
  obtain ⟨ds, h1, h2, h3⟩ := dxs_of a
  refine ⟨.tuple ds, DX.tup h (le.nt h) h1, sml_tup h3 ?_, ?_⟩
  · rw [h2]
    omega
  · show decide (ds.length ≤ 16) = true
    rw [h2]
    exact decide_eq_true l
theorem Good.lst {u : Addr} {xs : List V} (h : H u = some (.lst xs)) (n : ¬E u) (e : (u == sysModules) = false) (l : xs.length ≤ 16) (a : ∀ x ∈ xs, Itm K E H x) : Good K E H (.ref u) := by
  obtain ⟨ds, h1, h2, h3⟩ := dxs_of a
  refine ⟨.list ds, DX.lst h n e h1, sml_lst h3 ?_, rfl⟩
  rw [h2]
  omega
/-- a tuple of ints -/
theorem Good.ints {u : Addr} {ys : List Int} (h : H u = some (.tup (ys.map V.int))) (le : LE E H) (l : ys.length ≤ 16) (a : ∀ y ∈ ys, -(10 ^ 60) ≤ y ∧ y ≤ 10 ^ 60) : Good K E H (.ref u) :=
  Good.tup h le (by rw [List.length_map]; exact l) fun x hx => by
    obtain ⟨y, hy, rfl⟩ := List.mem_map.mp hx
    exact Itm.int (a y hy).1 (a y hy).2
theorem Top.pair {u : Addr} {x y : V} {d : PyData} (h : H u = some (.tup [x, y])) (le : LE E H) (h1 : DX K E H x d) (h2 : Sml 4 40000 d) (g : Good K E H y) : Top K E H (.ref u) := by
  obtain ⟨dy, g1, g2, g3⟩ := g
  refine ⟨.tuple [d, dy], DX.tup h (le.nt h) fun H' a => .cons (h1 H' a) (.cons (g1 H' a) .nil), (sml_tup (k := 4) (n := 40000) (fun z hz => ?_) (by show 40000 * 2 + 2 * 2 + 3 ≤ 200000; decide)).up (by decide) (Nat.le_refl _), g3⟩
  rcases List.mem_cons.mp hz with rfl | hz
  · exact h2
  · rw [List.mem_singleton.mp hz]
    exact g2
end
theorem upd_self {H : Hp} {a : Addr} {o : HO} (h : H a = some o) : upd H a o = H := by
  funext b
  by_cases e : b = a
  · rw [e, upd_same, h]
  · rw [upd_ne e]
theorem upd_twice {H : Hp} {a : Addr} {o o' : HO} : upd (upd H a o) a o' = upd H a o' := by
  funext b
  by_cases e : b = a
  · rw [e, upd_same, upd_same]
  · rw [upd_ne e, upd_ne e, upd_ne e]
theorem Same.upds {H H' : Hp} {a : Addr} {o : HO} (s : Same H H') : Same (upd H a o) (upd H' a o) := fun b x h => by
  by_cases e : b = a
  · rw [e, upd_same] at h ⊢
    exact h
  · rw [upd_ne e] at h ⊢
    exact s _ _ h
theorem all_app {α : Type} {P : α → Prop} {xs ys : List α} (h : ∀ x ∈ xs, P x) (g : ∀ x ∈ ys, P x) : ∀ x ∈ xs ++ ys, P x := fun x hx => by
  rcases List.mem_append.mp hx with hx | hx
  · exact h x hx
  · exact g x hx
theorem all_cons {α : Type} {P : α → Prop} {x : α} {ys : List α} (h : P x) (g : ∀ x ∈ ys, P x) : ∀ z ∈ x :: ys, P z := fun z hz => by
  rcases List.mem_cons.mp hz with rfl | hz
  · exact h
  · exact g z hz
theorem all_nil {α : Type} {P : α → Prop} : ∀ z ∈ ([] : List α), P z := fun z hz => nomatch hz
/-- a comprehension over a list whose items have a property that stays -/
theorem lc_mGL {K : PySem.W.Frag} {a : Addr} {zs : List V} {g : TG} {te : TE} {vs : List Nat} {σ : L2.St} {H : Hp} {D : Addr} {Qd : Hp → Prop} (G : V → Hp → Prop) (Gs : ∀ v H H', G v H → Same H H' → G v H') (ha : H a = some (.lst zs)) (nD : H D = none) (ln : zs.length ≤ 20000)
    (hs : ∀ (i : Nat) x H', zs[i]? = some x → Same H H' → (∃ acc, H' D = some (.lst acc)) → ∀ R : VK, (∀ H4 y, Same H' H4 → (∀ ys, G y (upd H4 D (.lst ys))) → R y H4) → g x (wipe σ vs) H' fun σ2 H2 => wipe σ2 vs = wipe σ vs ∧ te σ2 H2 R)
    (mono : ∀ x H' (A B : L2.St → Hp → Prop), (∀ σ2 H2, A σ2 H2 → B σ2 H2) → g x (wipe σ vs) H' A → g x (wipe σ vs) H' B)
    (hd : ∀ H' xs, Same H H' → xs.length = zs.length → (∀ x ∈ xs, G x H') → H' D = some (.lst xs) → Qd H') :
    ∃ W : Nat → Nat → Hp → Prop, (∃ m, W 0 m (upd H D (.lst []))) ∧ ∀ i m H, W i m H → ((Itl K a).stop i H ∧ Qd H) ∨ ((Itl K a).go i H ∧ ∃ Nx : Hp → Prop, (∀ H', Nx H' → ∃ m', m' < m ∧ W (i + 1) m' H') ∧ ∀ x H', (Itl K a).yld i H x H' → g x (wipe σ vs) H' fun σ2 H2 => wipe σ2 vs = wipe σ vs ∧ tYes σ2 H2 fun b H3 =>
        if b = true then te σ2 H3 fun y H4 => ∃ acc, H4 D = some (.lst acc) ∧ acc.length < sizeLine ∧ Nx (upd H4 D (.lst (acc ++ [y]))) else Nx H3) := by
  refine lc_list (K := K) (a := a) (xs := zs) (fun i H' => ∃ xs : List V, Same H H' ∧ xs.length = i ∧ (∀ x ∈ xs, ∀ ys, G x (upd H' D (.lst ys))) ∧ H' D = some (.lst xs)) ⟨[], same_upd nD, rfl, fun x hx => (nomatch hx), upd_same⟩ (fun i H' _ h => by obtain ⟨_, s, _⟩ := h; exact SqL.of (s _ _ ha)) ?_ ?_
  · rintro i x H' hx ⟨xs, s, xl, xg, hD⟩
    have il : i < zs.length := (List.getElem?_eq_some_iff.mp hx).1
    refine mono _ H' _ _ ?_ (hs i x H' hx s ⟨_, hD⟩ (fun y H4 => ∃ acc, H4 D = some (.lst acc) ∧ acc.length < sizeLine ∧ ∃ xs : List V, Same H (upd H4 D (.lst (acc ++ [y]))) ∧ xs.length = i + 1 ∧ (∀ x ∈ xs, ∀ ys, G x (upd (upd H4 D (.lst (acc ++ [y]))) D (.lst ys))) ∧ upd H4 D (.lst (acc ++ [y])) D = some (.lst xs)) fun H4 y s4 gy => ?_)
    · rintro σ2 H2 ⟨e, h⟩
      refine ⟨e, ?_⟩
      unfold tYes
      exact iteT h
    · refine ⟨xs, s4 _ _ hD, ?_, xs ++ [y], ?_, by rw [List.length_append, List.length_singleton, xl], fun x hx ys => ?_, upd_same⟩
      · rw [xl]
        exact Nat.lt_of_le_of_lt (show i ≤ 20000 by omega) (by decide)
      · intro b o hb
        rw [upd_ne (ne_of_none hb nD)]
        exact s4 _ _ (s _ _ hb)
      · rw [upd_twice]
        rcases List.mem_append.mp hx with hx | hx
        · exact Gs _ _ _ (xg x hx ys) (Same.upds s4)
        · rw [List.mem_singleton.mp hx]
          exact gy ys
  · rintro H' ⟨xs, s, xl, xg, hD⟩
    refine hd H' xs s xl (fun x hx => ?_) hD
    have := xg x hx xs
    rwa [upd_self hD] at this
end Sm

set_option Elab.async false
set_option linter.all false
set_option maxRecDepth 100000
set_option maxHeartbeats 16000000
namespace Sm
open PySem PySem.Spec PyProof.Rows L2
open C8 (pss_cut tCut)
theorem dedup_all : ∀ (xs acc : List Int), (acc ++ xs).Nodup → xs.foldl step_dedup acc = acc ++ xs
  | [], acc, _ => by rw [List.append_nil]; rfl
  | x :: xs, acc, h => by
    rw [List.foldl_cons]
    have m : ¬ acc.any (· == x) = true := fun q => by
      obtain ⟨a, ha, e⟩ := List.any_eq_true.mp q
      have := (List.nodup_append.mp h).2.2 a ha x (List.mem_cons_self ..)
      exact this (eq_of_beq e)
    have s : step_dedup acc x = acc ++ [x] := by unfold step_dedup; rw [if_neg m]
    rw [s, dedup_all xs (acc ++ [x]) (by rw [List.append_assoc]; exact h), List.append_assoc]
    rfl
theorem cntS_all {ns : List Int} (h : ns.Nodup) : cntS ns = ns.length := by
  unfold cntS firstMet
  rw [L2.range_getD]
  have := dedup_all ns [] h
  exact congrArg List.length this
/-- no loop, no gaining loop -/
theorem lp_no {K : PySem.W.Frag} {H : Hp} {v : V} {dd : PyData} {L : List Of} {k : Nat} (ok : ∀ o ∈ L, OfOk k o) (hd : Dq K H v dd) (h : lpD L dd = false) : glD L dd = false := by
  cases dd with
  | tuple ds =>
    cases ex : ixs L.length ds with
    | true =>
      have il : ∀ i ∈ nts ds, i < L.length := by cases hd with | tup f1 f2 => exact (ixs_ints f2 ex).2
      rw [← alike_D ok ex il, h]
      rfl
    | false =>
      rw [glD_tup, ex]
      rfl
  | _ => rfl
theorem lp_yes {L : List Of} {dd : PyData} (h : lpD L dd = true) : ∃ ds, dd = .tuple ds ∧ ixs L.length ds = true := by
  cases dd with
  | tuple ds =>
    have h : (!ds.isEmpty && (ixs L.length ds && lkB L (nts ds))) = true := h
    rw [Bool.and_eq_true, Bool.and_eq_true] at h
    exact ⟨ds, rfl, h.2.1⟩
  | _ => cases h
/-- what loop_purse tells, as data -/
def lpdD (ps : List Int) (is ts : List Nat) : PyData := .tuple [.tuple (ps.map PyData.int), .tuple ((List.range is.length).map fun j => .tuple [.int ((is.getD j 0 : Nat) : Int), .int ((ts.getD j 0 : Nat) : Int)])]
theorem dqs_ints {K : PySem.W.Frag} {H : Hp} : ∀ ns : List Int, DqAll K H (ns.map V.int) (ns.map PyData.int)
  | [] => .nil
  | n :: ns => .cons (.int n) (dqs_ints ns)
theorem dqs_at {K : PySem.W.Frag} {H : Hp} : ∀ (xs : List V) (ds : List PyData), xs.length = ds.length → (∀ (j : Nat) (x : V) (d : PyData), xs[j]? = some x → ds[j]? = some d → Dq K H x d) → DqAll K H xs ds
  | [], [], _, _ => .nil
  | [], d :: ds, e, _ => by cases e
  | x :: xs, [], e, _ => by cases e
  | x :: xs, d :: ds, e, h => .cons (h 0 x d rfl rfl) (dqs_at xs ds (by simpa using e) fun j x' d' a b => h (j + 1) x' d' (by simpa using a) (by simpa using b))
theorem LoopAt.dq {K : PySem.W.Frag} {H : Hp} {e : Addr} {ps : List Int} {is ts : List Nat} (h : LoopAt H e ps is ts) : Dq K H (.ref e) (lpdD ps is ts) := by
  obtain ⟨a, b, ws, h1, h2, h3, h4, h5⟩ := h
  refine .tup h1 (.cons (.tup h2 (dqs_ints ps)) (.cons (.tup h3 (dqs_at _ _ (by rw [List.length_map, List.length_map, List.length_range, h4]) fun j x d hx hd => ?_)) .nil))
  rw [List.getElem?_map] at hx hd
  have hj : j < is.length := by
    rcases Nat.lt_or_ge j is.length with c | c
    · exact c
    · rw [List.getElem?_eq_none (by rw [List.length_range]; exact c)] at hd
      cases hd
  rw [List.getElem?_range hj] at hd
  cases hd
  have hw : ∃ w, ws[j]? = some w := ⟨ws[j]'(by omega), List.getElem?_eq_getElem _⟩
  obtain ⟨w, hw⟩ := hw
  rw [hw] at hx
  cases hx
  exact .tup (h5 j w hw) (.cons (.int _) (.cons (.int _) .nil))
theorem lpd_sml {ps : List Int} {is ts : List Nat} (l1 : ps.length ≤ 4) (b1 : ∀ p ∈ ps, 0 ≤ p ∧ p ≤ 10 ^ 60) (l2 : is.length ≤ 4) (b2 : ∀ j, j < is.length → is.getD j 0 ≤ 10 ^ 60) (b3 : ∀ j, j < is.length → ts.getD j 0 ≤ 10 ^ 60) : Sml 6 200000 (lpdD ps is ts) := by
  have c1 : Sml 2 8000 (.tuple (ps.map PyData.int)) := sml_tup (k := 1) (n := 1930) (fun d hd => by
    obtain ⟨p, hp, rfl⟩ := List.mem_map.mp hd
    have := b1 p hp
    exact sml_int (log_int (by omega) this.2)) (by rw [List.length_map]; omega)
  have c2 : Sml 3 20000 (.tuple ((List.range is.length).map fun j => .tuple [.int ((is.getD j 0 : Nat) : Int), .int ((ts.getD j 0 : Nat) : Int)])) := sml_tup (k := 2) (n := 4000) (fun d hd => by
    obtain ⟨j, hj, rfl⟩ := List.mem_map.mp hd
    have hj := List.mem_range.mp hj
    have a1 := b2 j hj
    have a2 := b3 j hj
    exact sml_tup (k := 1) (n := 1930) (fun d hd => by
      rcases List.mem_cons.mp hd with rfl | hd
      · exact sml_int (log_int (by omega) (by omega))
      · rw [List.mem_singleton.mp hd]
        exact sml_int (log_int (by omega) (by omega))) (by show 1930 * 2 + 2 * 2 + 3 ≤ 4000; decide)) (by rw [List.length_map, List.length_range]; omega)
  refine (sml_tup (k := 3) (n := 20000) (fun d hd => ?_) (by show 20000 * 2 + 2 * 2 + 3 ≤ 200000; decide)).up (by decide) (Nat.le_refl _)
  rcases List.mem_cons.mp hd with rfl | hd
  · exact c1.up (by decide) (by decide)
  · rw [List.mem_singleton.mp hd]
    exact c2.up (by decide) (by decide)
theorem Sml.shd {d : PyData} (h : Sml 6 200000 d) : Shd d := ⟨h.sh, Nat.le_trans h.dep (by decide), Nat.le_trans h.len (by decide)⟩
theorem lpd_of {L : List Of} {k : Nat} {is : List Nat} (ok : ∀ o ∈ L, OfOk k o) (il : ∀ i ∈ is, i < L.length) (l1 : 1 ≤ is.length) (l4 : is.length ≤ 4) (k4 : k ≤ 4) (lL : L.length ≤ 1000) : Sml 6 200000 (lpdD (begP k L is) is (tsB L is is.length)) := by
  have it : ∀ j, j < is.length → is.getD j 0 < L.length := fun j hj => by
    rw [List.getD_eq_getElem?_getD, List.getElem?_eq_getElem hj]
    exact il _ (List.getElem_mem hj)
  have xb : ∀ j, j < is.length → 1 ≤ xN L is j ∧ xN L is j ≤ 30 := fun j hj => off_xb (of_ok ok (it j hj))
  obtain ⟨g0, gt⟩ := due_times l1 fun j hj => (xb j hj).1
  have tb : ∀ j, j < is.length → (tsB L is is.length).getD j 0 ≤ 810000 := fun j hj => by
    have b := numB_le ok il j is.length (Nat.le_refl _)
    have p : 30 ^ is.length ≤ 30 ^ 4 := Nat.pow_le_pow_right (by decide) l4
    have q : (30 : Nat) ^ 4 = 810000 := by decide
    have e : (tsB L is is.length).getD j 0 = numB L is is.length j / gcdL (nums L is) := by
      rw [← gt]
      unfold nums
      rw [List.getD_eq_getElem?_getD, List.getElem?_map, List.getElem?_map, List.getElem?_range hj]
      rfl
    rw [e]
    exact Nat.le_trans (Nat.div_le_self ..) (by omega)
  refine lpd_sml ?_ ?_ l4 (fun j hj => ?_) (fun j hj => ?_)
  · unfold begP
    rw [List.length_set, List.length_replicate]
    exact k4
  · intro p hp
    have h1 := (xb 0 l1).2
    have h2 := tb 0 l1
    have h3 : xN L is 0 * (tsB L is is.length).getD 0 0 ≤ 30 * 810000 := Nat.mul_le_mul h1 h2
    rcases List.mem_or_eq_of_mem_set hp with q | q
    · have := (List.mem_replicate.mp q).2
      omega
    · rw [q]
      generalize xN L is 0 * (tsB L is is.length).getD 0 0 = z at h3
      omega
  · have := it j hj
    omega
  · have := tb j hj
    omega
def sp_l_right (K : PySem.W.Frag) : Sp := fun vs H Q _ => ∃ (d : Addr) (k : Nat) (L : List Of) (v : V) (dd : PyData), vs = [.ref d, v] ∧ BoardAt H d k L ∧ (∀ o ∈ L, OfOk k o) ∧ Dq K H v dd ∧ (∀ ds, dd = .tuple ds → ds.length ≤ 16) ∧ k ≤ 4 ∧ Shd dd ∧ L.length ≤ 1000 ∧ ∀ H', Same H H' → Q (.bl true) H'
section
variable {P : Program} {w : World} {K : PySem.W.Frag} {mg : Str → Option Value} {base : Heap} {cBadLoop fBadLoop cChangeError : Addr}
abbrev s_l_right : Stmt := topS 24
abbrev N_l_right : List Str := ["_law_board_here", "_law_value", "_law_kinds", "_law_index"]
theorem sc_l_right : FnScope N_l_right ["_law_board_here", "_law_value"] (defScope s_l_right) := ⟨rfl, rfl, rfl, by decide +kernel, rfl, by decide +kernel, by decide +kernel⟩
theorem ok_l_right {f fB : Addr} {fd fdB : FuncData} (T : Txt mg) (G_l_is_bad : FnG P w K mg base 5 fB fdB ["_law_board_here", "_law_value"] (sp_l_is_bad K)) (m_l_is_bad : mg "_law_is_bad" = some (.ref fB)) (k_l_is_bad : PySem.W.keepIn K (.ref fB) = true) (b_l_is_bad : L2.Binds K fdB ["_law_board_here", "_law_value"] [])
    (C_l_is_loop : Cal P w K mg base "_law_is_loop" ["_law_board_here", "_law_value"] 1 (sp_l_is_loop K)) (C_l_gains : Cal P w K mg base "_law_gains" ["_law_board_here", "_law_indexes"] 2 (sp_l_gains K)) (C_loop_purse : Cal P w K mg base "loop_purse" ["board", "indexes"] 4 (sp_loop0 K)) (C_l_due : Cal P w K mg base "_law_due" ["_law_board_here", "_law_indexes"] 2 (sp_l_due K))
    (F : Fun K "_law_right" "_law_right" s_l_right f fd) : FnG P w K mg base 6 f fd ["_law_board_here", "_law_value"] (sp_l_right K) := by
  obtain ⟨f_loop_purse, fd_loop_purse, G_loop_purse, m_loop_purse, k_loop_purse, b_loop_purse⟩ := C_loop_purse
  obtain ⟨f_l_is_loop, fd_l_is_loop, G_l_is_loop, m_l_is_loop, k_l_is_loop, b_l_is_loop⟩ := C_l_is_loop
  obtain ⟨f_l_gains, fd_l_gains, G_l_gains, m_l_gains, k_l_gains, b_l_gains⟩ := C_l_gains
  obtain ⟨f_l_due, fd_l_due, G_l_due, m_l_due, k_l_due, b_l_due⟩ := C_l_due
  refine FnG.body F sc_l_right (fun vs H Q E h => ?_) (fun cdv A outer s H vs Q E gu hr h => ?_)
  · obtain ⟨d, k, L, v, dd, rfl, _⟩ := h
    rfl
  obtain ⟨d, k, L, v, dd, rfl, hb, ok, hd, h16, k4, sd, l1000, kk⟩ := h
  obtain ⟨t, qs, hbd, ht, hL⟩ := id hb
  refine ⟨_, (pss_cons (ps_if (PW.pt (pw_and (pt_val (pe_call G_l_is_loop (hr.mono (by decide)) (by rfl) m_l_is_loop k_l_is_loop b_l_is_loop .nil pass0 (pa_cons (pv 0) (pa_cons (pv 1) pa_nil)))) (pw_and1 (pt_val (pe_call G_l_gains (hr.mono (by decide)) (by rfl) m_l_gains k_l_gains b_l_gains .nil pass0 (pa_cons (pv 0) (pa_cons (pv 1) pa_nil))))))) (pss_cons (ps_setLc (i := 2) (own := [("_law_index", 3)]) (g := gName 3) (tt := tYes) rfl sc_l_right.nd rfl rfl (sw_true rfl rfl rfl (by decide +kernel)) (pi_tup (pv 1)) (blkOk_by (own := [("_law_index", 3)]) (N := N_l_right) (sc := defScope s_l_right) (by decide +kernel)) (fun _ _ _ _ _ => pg_name (i := 3) sc_l_right.nd rfl (Or.inl rfl)) (fun _ _ _ _ _ => pts_nil) (fun _ _ _ _ _ => (pe_ix (show IxR _ (rIxT K) from ix_tup) (pe_ix (show IxR _ (rIxT K) from ix_tup) (pe_ix (show IxR _ (rIxT K) from ix_tup) (pv 0) pe_int (fun _ _ => rfl)) (pv 3) (fun _ _ => rfl)) pe_int (fun _ _ => rfl))))
    (pss_one (ps_if (pt_cmpR op_eq (pe_lenSetA rfl (by rfl) T.n_len (by rfl) T.n_set (pv 2)) (pe_callB call_len_seq (by rfl) T.n_len (by decide +kernel) (pa_cons (pv 2) pa_nil)) (nomark _)) (pss_one (ps_ret (pe_cmpR op_eq (pe_callB (call_reprQ gu ⟨_, hr⟩) (by rfl) T.n_repr (by decide +kernel) (pa_cons (pe_call G_loop_purse (hr.mono (by decide)) (by rfl) m_loop_purse k_loop_purse b_loop_purse .nil pass0 (pa_cons (pv 0) (pa_cons (pv 1) pa_nil))) pa_nil)) (pe_callB (call_reprQ gu ⟨_, hr⟩) (by rfl) T.n_repr (by decide +kernel) (pa_cons (pe_call G_l_due (hr.mono (by decide)) (by rfl) m_l_due k_l_due b_l_due .nil pass0 (pa_cons (pv 0) (pa_cons (pv 1) pa_nil))) pa_nil)) (nomark _)))) pss_nil))) pss_nil)
    (pss_one (ps_ret (pe_callG G_l_is_bad gu (hr.mono (by decide)) (by rfl) m_l_is_bad k_l_is_bad b_l_is_bad (pa_cons (pv 0) (pa_cons (pv 1) pa_nil)))))), ?_⟩
  refine ⟨_, rfl, _, rfl, d, k, L, v, dd, rfl, hb, ok, hd, h16, fun H1 s1 => ⟨_, rfl, ?_⟩⟩
  have bad : ∀ {H' : Hp}, Same H H' → gdD L dd = false → ∀ Q' : VK, (∀ H2, Same H' H2 → Q' (.bl true) H2) → sp_l_is_bad K [.ref d, v] H' Q' E0 := fun s g Q' k' => ⟨d, k, L, v, dd, rfl, hb.same s, ok, hd.same s, h16, k4, sd, g, k'⟩
  cases el : lpD L dd with
  | false =>
    have g : gdD L dd = false := by unfold gdD; rw [lp_no ok hd el]; rfl
    refine iteF (show if (false : Bool) = true then _ else _ from iteF ?_)
    exact ⟨_, rfl, _, rfl, bad s1 g _ fun H2 s2 => kk H2 (s1.trans s2)⟩
  | true =>
    obtain ⟨ds, rfl, ex⟩ := lp_yes el
    cases hd with
    | @tup a1 _ _ f1' f2 =>
      have f1 := f1'
      obtain ⟨eq, il⟩ := ixs_ints f2 ex
      rw [eq] at f1
      have hd1 : Dq K H1 (.ref a1) (.tuple ds) := (Dq.tup f1' f2).same s1
      refine iteT ⟨_, rfl, _, rfl, d, a1, k, L, nts ds, rfl, hb.same s1, ok, s1 _ _ f1, il, ⟨_, rfl, ?_⟩⟩
      have ag := alike_D ok ex il
      rw [el, Bool.true_and] at ag
      cases eg : decide (prX L (nts ds) < prY L (nts ds)) with
      | false =>
        have g : gdD L (.tuple ds) = false := by unfold gdD; rw [← ag, eg]; rfl
        refine iteF ?_
        exact ⟨_, rfl, _, rfl, bad s1 g _ fun H2 s2 => kk H2 (s1.trans s2)⟩
      | true =>
        rw [eg] at ag
        have gl : glD L (.tuple ds) = true := ag.symm
        have l1 := gl_one gl
        have l16 : (nts ds).length ≤ 16 := by
          have := h16 ds rfl
          unfold nts
          rw [List.length_map]
          exact this
        have gn : gdD L (.tuple ds) = decide (fsts L (nts ds)).Nodup := by unfold gdD; rw [gl]; rfl
        refine iteT ?_
        have hq := s1 _ _ f1
        have li : (((nts ds).map fun i : Nat => (i : Int)).map V.int).length = (nts ds).length := by rw [List.length_map, List.length_map]
        refine ⟨_, rfl, a1, rfl, ⟨_, SqT.of hq⟩, fun R nR => ?_⟩
        refine lc_mT (fun j => V.int ((fsts L (nts ds)).getD j 0)) hq nR (by rw [li]; omega) ?_ gName_mono ?_
        · intro j x H3 hx s3 R' hR
          rw [List.getElem?_map, List.getElem?_map] at hx
          cases e : (nts ds)[j]? with
          | none => rw [e] at hx; cases hx
          | some i =>
            rw [e] at hx
            have ex : x = .int (i : Int) := (Option.some.inj hx).symm
            subst ex
            obtain ⟨q, c1, c2⟩ := hL.at (il i (List.mem_of_getElem? e))
            refine ⟨rfl, _, rfl, _, _, _, _, rfl, rfl, SqT.of ((s1.trans s3) _ _ hbd), atI_nat (j := 1) rfl, _, rfl, _, _, _, _, rfl, rfl, SqT.of ((s1.trans s3) _ _ ht), atI_nat c1, _, _, _, _, rfl, rfl, SqT.of ((s1.trans s3) _ _ c2), atI_nat (j := 0) rfl, ?_⟩
            have := hR H3 (Same.refl _)
            have ef : (fsts L (nts ds)).getD j 0 = (((L.getD i of0).a : Nat) : Int) := by
              unfold fsts
              rw [List.getD_eq_getElem?_getD, List.getElem?_map, e]
              rfl
            rwa [ef] at this
        intro H3 s3 hR
        have lf : (fsts L (nts ds)).length = (nts ds).length := by unfold fsts; rw [List.length_map]
        have hR : H3 R = some (.lst ((fsts L (nts ds)).map V.int)) := by
          rw [hR, li, ← lf]
          congr 2
          refine List.ext_getElem (by simp) fun i h1 h2 => ?_
          rw [List.getElem_map, List.getElem_map, List.getElem_range, List.getD_eq_getElem?_getD, List.getElem?_eq_getElem (by simpa using h2)]
          rfl
        have s13 := s1.trans s3
        refine ⟨_, rfl, R, fsts L (nts ds), rfl, SqL.of hR, by rw [lf]; omega, ?_⟩
        refine ⟨_, rfl, R, _, rfl, .inl (SqL.of hR), ?_⟩
        rw [List.length_map]
        refine ⟨rfl, _, rfl, ?_⟩
        rw [dec_nat]
        by_cases nd : (fsts L (nts ds)).Nodup
        · have g : gdD L (.tuple ds) = true := by rw [gn]; exact decide_eq_true nd
          have l4 : (nts ds).length ≤ 4 := Nat.le_trans (fsts_short ok il nd) k4
          rw [decide_eq_true (cntS_all nd)]
          have m := (lpd_of ok il l1 l4 k4 l1000).shd
          refine iteT ⟨_, rfl, _, rfl, d, k, L, _, ds, rfl, hb.same s13, ok, hd1.same s3, (by have := h16 ds rfl; omega), k4, g, fun H4 e s4 la => ⟨_, _, rfl, la.dq, m.sh, m.dep, m.len, ?_⟩⟩
          refine ⟨_, rfl, _, rfl, d, a1, k, L, nts ds, rfl, hb.same (s13.trans s4), ok, (s3.trans s4) _ _ hq, l4, l1, il, by omega, fun H5 e5 s5 lb => ⟨_, _, rfl, lb.dq, m.sh, m.dep, m.len, rfl, ?_⟩⟩
          rw [decide_eq_true rfl]
          exact kk H5 (s13.trans (s4.trans s5))
        · have g : gdD L (.tuple ds) = false := by rw [gn]; exact decide_eq_false nd
          rw [decide_eq_false fun e => nd (cntS_nodup e)]
          refine iteF ?_
          exact ⟨_, rfl, _, rfl, bad s13 g _ fun H2 s2 => kk H2 (s13.trans s2)⟩
end
end Sm

set_option Elab.async false
set_option linter.all false
set_option maxRecDepth 100000
set_option maxHeartbeats 16000000
namespace Sm
open PySem PySem.Spec PyProof.Rows L2
open C8 (pss_cut tCut)
theorem cutV_mem {xs : List V} {lo hi : Option Int} {x : V} (h : x ∈ cutV xs lo hi) : x ∈ xs := List.mem_of_mem_drop (List.mem_of_mem_take h)
def IV (x : V) : Prop := ∃ i : Int, x = .int i ∧ -1 ≤ i ∧ i ≤ 100
theorem IV.itm {K : PySem.W.Frag} {E : Addr → Prop} {H : Hp} {x : V} (h : IV x) : Itm K E H x := by
  obtain ⟨i, rfl, h0, h1⟩ := h
  exact Itm.int (by omega) (by omega)
theorem Good.iv {K : PySem.W.Frag} {E : Addr → Prop} {H : Hp} {u : Addr} {xs : List V} (h : H u = some (.tup xs)) (le : LE E H) (l : xs.length ≤ 16) (a : ∀ x ∈ xs, IV x) : Good K E H (.ref u) := Good.tup h le l fun x hx => (a x hx).itm
/-- a comprehension over a range whose items have a property that stays -/
theorem lc_mGR {lo : Int} {n : Nat} {g : TG} {te : TE} {vs : List Nat} {σ : L2.St} {H : Hp} {D : Addr} {Qd : Hp → Prop} (G : V → Hp → Prop) (Gs : ∀ v H H', G v H → Same H H' → G v H') (nD : H D = none) (ln : n ≤ 20000)
    (hs : ∀ (i : Nat) H', i < n → Same H H' → (∃ acc, H' D = some (.lst acc)) → ∀ R : VK, (∀ H4 y, Same H' H4 → (∀ ys, G y (upd H4 D (.lst ys))) → R y H4) → g (.int (lo + i)) (wipe σ vs) H' fun σ2 H2 => wipe σ2 vs = wipe σ vs ∧ te σ2 H2 R)
    (mono : ∀ x H' (A B : L2.St → Hp → Prop), (∀ σ2 H2, A σ2 H2 → B σ2 H2) → g x (wipe σ vs) H' A → g x (wipe σ vs) H' B)
    (hd : ∀ H' xs, Same H H' → xs.length = n → (∀ x ∈ xs, G x H') → H' D = some (.lst xs) → Qd H') :
    ∃ W : Nat → Nat → Hp → Prop, (∃ m, W 0 m (upd H D (.lst []))) ∧ ∀ i m H, W i m H → ((Itr lo n).stop i H ∧ Qd H) ∨ ((Itr lo n).go i H ∧ ∃ Nx : Hp → Prop, (∀ H', Nx H' → ∃ m', m' < m ∧ W (i + 1) m' H') ∧ ∀ x H', (Itr lo n).yld i H x H' → g x (wipe σ vs) H' fun σ2 H2 => wipe σ2 vs = wipe σ vs ∧ tYes σ2 H2 fun b H3 =>
        if b = true then te σ2 H3 fun y H4 => ∃ acc, H4 D = some (.lst acc) ∧ acc.length < sizeLine ∧ Nx (upd H4 D (.lst (acc ++ [y]))) else Nx H3) := by
  refine lc_range (fun i H' => ∃ xs : List V, Same H H' ∧ xs.length = i ∧ (∀ x ∈ xs, ∀ ys, G x (upd H' D (.lst ys))) ∧ H' D = some (.lst xs)) ⟨[], same_upd nD, rfl, fun x hx => (nomatch hx), upd_same⟩ ?_ ?_
  · rintro i H' il ⟨xs, s, xl, xg, hD⟩
    refine mono _ H' _ _ ?_ (hs i H' il s ⟨_, hD⟩ (fun y H4 => ∃ acc, H4 D = some (.lst acc) ∧ acc.length < sizeLine ∧ ∃ xs : List V, Same H (upd H4 D (.lst (acc ++ [y]))) ∧ xs.length = i + 1 ∧ (∀ x ∈ xs, ∀ ys, G x (upd (upd H4 D (.lst (acc ++ [y]))) D (.lst ys))) ∧ upd H4 D (.lst (acc ++ [y])) D = some (.lst xs)) fun H4 y s4 gy => ?_)
    · rintro σ2 H2 ⟨e, h⟩
      refine ⟨e, ?_⟩
      unfold tYes
      exact iteT h
    · refine ⟨xs, s4 _ _ hD, ?_, xs ++ [y], ?_, by rw [List.length_append, List.length_singleton, xl], fun x hx ys => ?_, upd_same⟩
      · rw [xl]
        exact Nat.lt_of_le_of_lt (show i ≤ 20000 by omega) (by decide)
      · intro b o hb
        rw [upd_ne (ne_of_none hb nD)]
        exact s4 _ _ (s _ _ hb)
      · rw [upd_twice]
        rcases List.mem_append.mp hx with hx | hx
        · exact Gs _ _ _ (xg x hx ys) (Same.upds s4)
        · rw [List.mem_singleton.mp hx]
          exact gy ys
  · rintro H' ⟨xs, s, xl, xg, hD⟩
    refine hd H' xs s xl (fun x hx => ?_) hD
    have := xg x hx xs
    rwa [upd_self hD] at this
def lstO : List Of := [⟨0, 2, 1, 3⟩, ⟨1, 1, 0, 1⟩]
theorem lstO_ok : ∀ o ∈ lstO, OfOk 2 o := by
  intro o ho
  rcases List.mem_cons.mp ho with rfl | ho
  · exact ⟨by decide, by decide, by decide, by decide, by decide, by decide, by decide⟩
  · rw [List.mem_singleton.mp ho]
    exact ⟨by decide, by decide, by decide, by decide, by decide, by decide, by decide⟩
def sp_law (K : PySem.W.Frag) : Sp := fun vs H Q _ => ∃ (a : Addr) (ns : List Int), vs = [.ref a] ∧ SqL K H a (ns.map V.int) ∧ ns.length ≤ 63 ∧ ∀ H', Q (.bl true) H'
section
variable {P : Program} {w : World} {K : PySem.W.Frag} {mg : Str → Option Value} {base : Heap}
abbrev s_law : Stmt := topS 25
abbrev N_law : List Str := ["_law_script", "_law_deck_here", "_law_turn", "_law_board_here", "_law_ring_here", "_law_values", "_law_k", "_law_least", "_law_index", "_law_value"]
theorem sc_law : FnScope N_law ["_law_script"] (defScope s_law) := ⟨rfl, rfl, rfl, by decide +kernel, rfl, by decide +kernel, by decide +kernel⟩
theorem ok_lawC {f fR : Addr} {fd fdR : FuncData} (T : Txt mg) (F : Fun K "law" "law" s_law f fd) (G_l_right : FnG P w K mg base 6 fR fdR ["_law_board_here", "_law_value"] (sp_l_right K)) (m_l_right : mg "_law_right" = some (.ref fR)) (k_l_right : PySem.W.keepIn K (.ref fR) = true) (b_l_right : L2.Binds K fdR ["_law_board_here", "_law_value"] [])
    (C_l_odd : Cal P w K mg base "_law_odd" ["_law_deck_here"] 3 (sp_l_odd K)) (C_l_draw : Cal P w K mg base "_law_draw" ["_law_deck_here", "_law_many"] 1 (sp_l_draw K)) (C_l_ring : Cal P w K mg base "_law_ring" ["_law_deck_here", "_law_kinds"] 3 (sp_l_ring K)) (C_l_deck : Cal P w K mg base "_law_deck" ["_law_script"] 1 (sp_l_deck K)) : FnG P w K mg base 7 f fd ["_law_script"] (sp_law K) := by
  obtain ⟨f_l_odd, fd_l_odd, G_l_odd, m_l_odd, k_l_odd, b_l_odd⟩ := C_l_odd
  obtain ⟨f_l_draw, fd_l_draw, G_l_draw, m_l_draw, k_l_draw, b_l_draw⟩ := C_l_draw
  obtain ⟨f_l_ring, fd_l_ring, G_l_ring, m_l_ring, k_l_ring, b_l_ring⟩ := C_l_ring
  obtain ⟨f_l_deck, fd_l_deck, G_l_deck, m_l_deck, k_l_deck, b_l_deck⟩ := C_l_deck
  refine FnG.body F sc_law (fun vs H Q E h => ?_) (fun cdv A outer s H vs Q E gu hr h => ?_)
  · obtain ⟨a, ns, rfl, _⟩ := h
    rfl
  obtain ⟨a, ns, rfl, hS, hlen, kk⟩ := h
  refine ⟨_, (pss_cons (ps_set (i := 1) sc_law.nd rfl (Or.inl rfl) (pe_call G_l_deck (hr.mono (by decide)) (by rfl) m_l_deck k_l_deck b_l_deck .nil pass0 (pa_cons (pv 0) pa_nil)))
    (pss_cons (ps_for PassesOwn.never rfl (pi_range1 (by rfl) T.n_range (pa_cons pe_int pa_nil)) (pg_name (i := 2) sc_law.nd rfl (Or.inl rfl))
      (pss_cons (ps_asg (pe_call G_l_ring (hr.mono (by decide)) (by rfl) m_l_ring k_l_ring b_l_ring .nil pass0 (pa_cons (pv 1) (pa_cons (pe_op op_add pe_int (pe_op op_modN (pe_callTy call_int1 (by rfl) T.n_int (by decide +kernel) (pa_cons (pv 2) pa_nil)) pe_int)) pa_nil))) (pg_tup (by rfl) (pgs_cons (pg_name (i := 3) sc_law.nd rfl (Or.inr rfl)) (pgs_cons (pg_name (i := 4) sc_law.nd rfl (Or.inr rfl)) pgs_nil))))
    (pss_cons (ps_set (i := 5) sc_law.nd rfl (Or.inl rfl) (pe_op op_cat (pe_lc (own := [("_law_k", 6)]) (g := gName 6) (tt := tYes) rfl sc_law.nd (pi_range1 (by rfl) T.n_range (pa_cons (pe_callB call_len_seq (by rfl) T.n_len (by decide +kernel) (pa_cons (pv 4) pa_nil)) pa_nil)) (blkOk_by (own := [("_law_k", 6)]) (N := N_law) (sc := defScope s_law) (by decide +kernel)) (fun _ _ _ _ _ => pg_name (i := 6) sc_law.nd rfl (Or.inl rfl)) (fun _ _ _ _ _ => pts_nil) (fun _ _ _ _ _ => (pe_op (show OpR _ _ (rCatA K) from op_catA) (pe_slice (show SlR _ (rSlA K) from sl_tupA) (pv 4) (po_some (pv 6)) po_none) (pe_slice (show SlR _ (rSlA K) from sl_tupA) (pv 4) po_none (po_some (pv 6)))))) (pe_lstN (pa_cons (pe_op op_catA (pv 4) (pv 4)) (pa_cons (pe_slice sl_tupA (pv 4) (po_some pe_int) po_none) (pa_cons (pe_callTy call_listN (by rfl) T.n_list (by decide +kernel) (pa_cons (pv 4) pa_nil)) (pa_cons (pe_tup pa_nil) pa_nil)))))))
    (pss_cons (ps_expr (pe_bm PySem.F.plainAttrs_list PySem.F.slot_list_append PySem.F.type_list_append mt_append (pv 5) (pa_cons (pe_callTy call_tuple_of (by rfl) T.n_tuple (by decide +kernel) (pa_cons (pe_lc (own := [("_law_index", 8)]) (g := gName 8) (tt := tYes) rfl sc_law.nd (pi_tup (pv 4)) (blkOk_by (own := [("_law_index", 8)]) (N := N_law) (sc := defScope s_law) (by decide +kernel)) (fun _ _ _ _ _ => pg_name (i := 8) sc_law.nd rfl (Or.inl rfl)) (fun _ _ _ _ _ => pts_nil) (fun _ _ _ _ _ => (pe_ifExp (pt_cmpR op_eq (pv 8) pe_int (nomark _)) pe_bl (pv 8)))) pa_nil)) pa_nil)))
    (pss_cons (ps_for PassesOwn.never rfl (pi_range1 (by rfl) T.n_range (pa_cons (pe_callB call_len_seq (by rfl) T.n_len (by decide +kernel) (pa_cons (pe_ix ix_tup (pv 3) pe_int (fun _ _ => rfl)) pa_nil)) pa_nil)) (pg_name (i := 6) sc_law.nd rfl (Or.inl rfl))
      (pss_one (ps_expr (pe_bm PySem.F.plainAttrs_list PySem.F.slot_list_extend PySem.F.type_list_extend mt_extend (pv 5) (pa_cons (pe_lstN (pa_cons (pe_tup (pa_cons (pv 6) (pa_cons (pe_call G_l_draw (hr.mono (by decide)) (by rfl) m_l_draw k_l_draw b_l_draw .nil pass0 (pa_cons (pv 1) (pa_cons (pe_callB call_len_seq (by rfl) T.n_len (by decide +kernel) (pa_cons (pe_ix ix_tup (pv 3) pe_int (fun _ _ => rfl)) pa_nil)) pa_nil))) pa_nil))) (pa_cons (pe_tup (pa_cons (pe_call G_l_draw (hr.mono (by decide)) (by rfl) m_l_draw k_l_draw b_l_draw .nil pass0 (pa_cons (pv 1) (pa_cons (pe_callB call_len_seq (by rfl) T.n_len (by decide +kernel) (pa_cons (pe_ix ix_tup (pv 3) pe_int (fun _ _ => rfl)) pa_nil)) pa_nil))) (pa_cons (pv 6) pa_nil))) (pa_cons (pe_tup (pa_cons (pv 6) pa_nil)) pa_nil)))) pa_nil)))))
    (pss_cons (ps_expr (pe_bm PySem.F.plainAttrs_list PySem.F.slot_list_extend PySem.F.type_list_extend mt_extend (pv 5) (pa_cons (pe_lstN (pa_cons (pe_call G_l_odd (hr.mono (by decide)) (by rfl) m_l_odd k_l_odd b_l_odd .nil pass0 (pa_cons (pv 1) pa_nil)) (pa_cons (pe_call G_l_odd (hr.mono (by decide)) (by rfl) m_l_odd k_l_odd b_l_odd .nil pass0 (pa_cons (pv 1) pa_nil)) (pa_cons (pe_tup (pa_cons (pe_callB call_len_seq (by rfl) T.n_len (by decide +kernel) (pa_cons (pe_ix ix_tup (pv 3) pe_int (fun _ _ => rfl)) pa_nil)) (pa_cons pe_int pa_nil))) (pa_cons (pe_tup (pa_cons (pe_un un_neg pe_int) (pa_cons pe_int pa_nil))) pa_nil))))) pa_nil)))
    (pss_one (ps_if (pt_not (pt_val (pe_callB (cr_all rfl) (by rfl) T.n_all (by decide +kernel) (pa_cons (pe_lc (own := [("_law_value", 9)]) (g := gName 9) (tt := tYes) rfl sc_law.nd (pi_list (pv 5)) (blkOk_by (own := [("_law_value", 9)]) (N := N_law) (sc := defScope s_law) (by decide +kernel)) (fun _ _ _ _ _ => pg_name (i := 9) sc_law.nd rfl (Or.inl rfl)) (fun _ _ _ _ _ => pts_nil) (fun _ _ _ _ _ => (pe_callG G_l_right gu (hr.mono (by decide)) (by rfl) m_l_right k_l_right b_l_right (pa_cons (pv 3) (pa_cons (pv 9) pa_nil))))) pa_nil)))) (pss_one (ps_ret pe_bl)) pss_nil))))))))
    (pss_cons (ps_set (i := 7) sc_law.nd rfl (Or.inl rfl) (pe_tup (pa_cons pe_int (pa_cons (pe_tup (pa_cons (pe_tup (pa_cons pe_int (pa_cons pe_int (pa_cons pe_int (pa_cons pe_int pa_nil))))) (pa_cons (pe_tup (pa_cons pe_int (pa_cons pe_int (pa_cons pe_int (pa_cons pe_int pa_nil))))) pa_nil))) pa_nil))))
    (pss_one (ps_ret (pe_and (pe_callG G_l_right gu (hr.mono (by decide)) (by rfl) m_l_right k_l_right b_l_right (pa_cons (pv 7) (pa_cons (pe_tup (pa_cons pe_int (pa_cons pe_int pa_nil))) pa_nil))) (pe_one (pe_callG G_l_right gu (hr.mono (by decide)) (by rfl) m_l_right k_l_right b_l_right (pa_cons (pv 7) (pa_cons (pe_tup (pa_cons pe_int (pa_cons pe_int pa_nil))) pa_nil)))))))))), ?_⟩
  refine ⟨_, rfl, a, ns, rfl, hS, hlen, fun H1 p l s1 D1 => ?_⟩
  refine ⟨6, rfl, (by decide), (by decide), ?_⟩
  refine for_range (lo := 0) (n := 6) (fun i σ H' => ∃ (n : Int) (v2 v3 v4 v5 v6 v7 v8 v9 : Option V), σ = [some (.ref a), some (.ref p), v2, v3, v4, v5, v6, v7, v8, v9] ∧ Deck H' p l n ∧ 0 ≤ n ∧ n ≤ 1000 * (i : Int)) ⟨0, _, _, _, _, _, _, _, _, rfl, D1, by omega, by omega⟩ ?_ ?_
  · rintro i σ H2 hi ⟨n, v2, v3, v4, v5, v6, v7, v8, v9, rfl, D2, n0, n1⟩
    have hi : i < 6 := hi
    refine ⟨_, rfl, _, rfl, .inl ⟨_, rfl, _, _, rfl, rfl, (show (3 : Int) ≠ 0 by decide), _, _, rfl, rfl, ?_⟩⟩
    obtain ⟨k, ek, k2, k4⟩ : ∃ k : Nat, 2 + (0 + (i : Int)).fmod 3 = (k : Int) ∧ 2 ≤ k ∧ k ≤ 4 := ⟨2 + i % 3, by rw [fmod_pos (by decide)]; omega, by omega, by omega⟩
    refine ⟨p, l, n, k, (show [V.ref p, V.int (2 + (0 + (i : Int)).fmod 3)] = [V.ref p, V.int (k : Int)] by rw [ek]), D2, n0, by omega, k2, k4, fun H3 b d r L is n3 f3 D3 a0 a1 hbt hB ok l63 hr isl il => ?_⟩
    refine ⟨b, _, rfl, SqT.of hbt, rfl, _, _, rfl, _, _, rfl, rfl, ?_⟩
    obtain ⟨tb, qs, hd, htb, hL⟩ := id hB
    have lq : (qs.map V.ref).length = L.length := by rw [List.length_map, hL.1]
    have rv : ∀ x ∈ (is.map fun i : Nat => (i : Int)).map V.int, IV x := fun x hx => by
      obtain ⟨y, hy, rfl⟩ := List.mem_map.mp hx
      obtain ⟨i, hi, rfl⟩ := List.mem_map.mp hy
      exact ⟨_, rfl, by omega, by have := il i hi; omega⟩
    have lr : ((is.map fun i : Nat => (i : Int)).map V.int).length = is.length := by rw [List.length_map, List.length_map]
    have gr : ∀ j, j < is.length → ((is.map fun i : Nat => (i : Int)).map V.int)[j]? = some (.int ((is.getD j 0 : Nat) : Int)) := fun j hj => by
      rw [List.getElem?_map, List.getElem?_map, List.getElem?_eq_getElem hj, List.getD_eq_getElem?_getD, List.getElem?_eq_getElem hj]
      rfl
    have L1 : 1 ≤ L.length := by
      have := il (is.getD 0 0) (by rw [List.getD_eq_getElem?_getD, List.getElem?_eq_getElem (by omega)]; exact List.getElem_mem _)
      omega
    generalize (is.map fun i : Nat => (i : Int)).map V.int = rs at *
    have sz : ∀ m, m ≤ 20 → m ≤ sizeLine := fun m h => Nat.le_trans h (by decide)
    obtain ⟨E0, hE0⟩ : ∃ E0 : Addr → Prop, E0 = fun b => b = p ∨ b = l := ⟨_, rfl⟩
    have le3 : LE E0 H3 := fun b e => by
      rw [hE0] at e
      rcases e with rfl | rfl
      · exact ⟨_, D3.hp⟩
      · obtain ⟨c, q, _⟩ := D3.hl
        exact ⟨_, q⟩
    have ep : E0 p := by rw [hE0]; exact Or.inl rfl
    have el : E0 l := by rw [hE0]; exact Or.inr rfl
    refine ⟨_, rfl, r, _, rfl, .inr (SqT.of hr), _, rfl, by omega, by omega, fun C nC => ?_⟩
    have rl : ((rs.length : Nat) : Int).toNat = is.length := by rw [lr]; omega
    rw [rl]
    refine lc_mGR (fun u H' => Good K (fun b => E0 b ∨ b = C) H' u) (fun v _ _ h s => h.ag (Ag.of s)) nC (by omega) ?_ gName_mono ?_
    · rintro j H' hj s' ⟨acc, hacc⟩ R' hR'
      have c1 := cutV_length rs (some (0 + (j : Int))) none
      have c2 := cutV_length rs none (some (0 + (j : Int)))
      refine ⟨rfl, _, rfl, _, rfl, _, rfl, no_part ?_⟩
      refine sl_uni (s' _ _ hr) fun u1 H4 s4 hu1 => ?_
      refine ⟨_, rfl, no_part ⟨_, rfl, _, rfl, ?_⟩⟩
      refine sl_uni (s4 _ _ (s' _ _ hr)) fun u2 H5 s5 hu2 => ?_
      refine cat_uni (s5 _ _ hu1) hu2 (sz _ (by omega)) fun u3 H6 s6 hu3 => ?_
      have s46 := s4.trans (s5.trans s6)
      refine hR' _ _ s46 fun ys => ?_
      have le6 : LE (fun b => E0 b ∨ b = C) H6 := ((le3.same s').same s46).more (s46 _ _ hacc)
      exact Good.ag (E := fun b => E0 b ∨ b = C) (Good.iv hu3 le6 (by rw [List.length_append]; omega) (all_app (fun x hx => rv x (cutV_mem hx)) (fun x hx => rv x (cutV_mem hx)))) (Ag.put (Or.inr rfl))
    intro H4 vs s4 vl vg hC
    have hr4 := s4 _ _ hr
    refine ⟨_, rfl, _, rfl, ?_⟩
    refine cat_uni hr4 hr4 (sz _ (by omega)) fun u4 H5 s5 hu4 => ?_
    refine ⟨_, rfl, _, rfl, no_part ?_⟩
    refine sl_uni (s5 _ _ hr4) fun u5 H6 s6 hu5 => ?_
    have s46 := s5.trans s6
    refine ⟨_, rfl, r, _, rfl, s46 _ _ hr4, fun u6 nu6 eu6 => ?_⟩
    have s7 := same_upd (o := .lst rs) nu6
    have hu6 : upd H6 u6 (.lst rs) u6 = some (.lst rs) := upd_same
    have c3 := cutV_length rs (some 1) none
    refine ⟨(by show 0 ≤ sizeLine; decide), fun u7 nu7 => ⟨(by show 4 ≤ sizeLine; decide), fun F nF eF => ?_⟩⟩
    have s8 := same_upd (o := .tup []) nu7
    have hu7 : upd (upd H6 u6 (.lst rs)) u7 (.tup []) u7 = some (.tup []) := upd_same
    have s9 := same_upd (o := .lst [V.ref u4, .ref u5, .ref u6, .ref u7]) nF
    have hF : upd (upd (upd H6 u6 (.lst rs)) u7 (.tup [])) F (.lst [V.ref u4, .ref u5, .ref u6, .ref u7]) F = some (.lst [V.ref u4, .ref u5, .ref u6, .ref u7]) := upd_same
    have le6 := (le3.same s4).same s46
    have s79 := s7.trans (s8.trans s9)
    have s69 := s6.trans s79
    generalize upd (upd (upd H6 u6 (.lst rs)) u7 (.tup [])) F (.lst [V.ref u4, .ref u5, .ref u6, .ref u7]) = H9 at *
    have le9 : LE E0 H9 := le6.same s79
    have q0 : Good K E0 H9 (.ref u4) := Good.iv (s69 _ _ hu4) le9 (by rw [List.length_append]; omega) (all_app rv rv)
    have q1 : Good K E0 H9 (.ref u5) := Good.iv (s79 _ _ hu5) le9 (by omega) (fun x hx => rv x (cutV_mem hx))
    have q2 : Good K E0 H9 (.ref u6) := Good.lst ((s8.trans s9) _ _ hu6) (le6.nn nu6) eu6 (by omega) fun x hx => (rv x hx).itm
    have q3 : Good K E0 H9 (.ref u7) := Good.iv (s9 _ _ hu7) le9 (by show 0 ≤ 16; decide) all_nil
    have s49 := s5.trans s69
    refine ⟨C, F, _, _, rfl, rfl, s49 _ _ hC, hF, sz _ (by show vs.length + 4 ≤ 20; omega), fun V' nV => ?_⟩
    have gw : ∀ b, (E0 b ∨ b = V') → E0 b ∨ H9 b = none := fun b c => c.imp id fun c => by rw [c]; exact nV
    have qa : ∀ x ∈ vs ++ [V.ref u4, .ref u5, .ref u6, .ref u7], Good K (fun b => E0 b ∨ b = V') H9 x := all_app (fun x hx => ((vg x hx).ag (Ag.of s49)).grow fun b c => by
      rcases c with c | c
      · exact .inl (.inl c)
      · rw [c]; exact .inr nV) (all_cons (q0.grow gw) (all_cons (q1.grow gw) (all_cons (q2.grow gw) (all_cons (q3.grow gw) all_nil))))
    have fl : (vs ++ [V.ref u4, .ref u5, .ref u6, .ref u7]).length ≤ 8 := by rw [List.length_append]; show vs.length + 4 ≤ 8; omega
    have s39 := s4.trans s49
    have D9 := D3.same s39
    obtain ⟨Vp, Vl⟩ := D9.lne nV
    have nV3 : H3 V' = none := Same.free s39 nV
    have sV := same_upd (o := .lst (vs ++ [V.ref u4, .ref u5, .ref u6, .ref u7])) nV
    have hV : upd H9 V' (.lst (vs ++ [V.ref u4, .ref u5, .ref u6, .ref u7])) V' = some (.lst (vs ++ [V.ref u4, .ref u5, .ref u6, .ref u7])) := upd_same
    have ring9 := s39 _ _ hr
    clear q0 q1 q2 q3 hu4 hu5 hu6 hu7 vg vl hC nC gw
    generalize vs ++ [V.ref u4, .ref u5, .ref u6, .ref u7] = fs at *
    have E1p : (fun b => E0 b ∨ b = V') p := Or.inl ep
    have E1l : (fun b => E0 b ∨ b = V') l := Or.inl el
    have E1V : (fun b => E0 b ∨ b = V') V' := Or.inr rfl
    refine ⟨_, rfl, .inl ⟨rfl, _, SqL.of hV⟩, ?_⟩
    refine ⟨_, rfl, r, rfl, ⟨_, SqT.of (sV _ _ ring9)⟩, fun R nR => ?_⟩
    refine lc_mT (fun j => if V.int ((is.getD j 0 : Nat) : Int) = V.int 1 then V.bl true else V.int ((is.getD j 0 : Nat) : Int)) (sV _ _ ring9) nR (by omega) ?_ gName_mono ?_
    · intro j x H' hx s' R' hR
      have hj : j < is.length := by
        have := (List.getElem?_eq_some_iff.mp hx).1
        rwa [lr] at this
      rw [gr j hj] at hx
      have ex : x = .int ((is.getD j 0 : Nat) : Int) := (Option.some.inj hx).symm
      subst ex
      have hR := hR H' (Same.refl _)
      refine ⟨rfl, _, rfl, rfl, _, rfl, by_one (fun c => ?_) (fun c => ?_)⟩
      · rw [if_pos c] at hR
        exact hR
      · rw [if_neg c] at hR
        exact ⟨_, rfl, hR⟩
    intro H10 s10 hR
    refine ⟨R, _, rfl, .inl ⟨SqL.of hR, fun u10 nu10 => ?_⟩⟩
    have hV10 := s10 _ _ hV
    have s11 := same_upd (o := .tup ((List.range rs.length).map fun j => if V.int ((is.getD j 0 : Nat) : Int) = V.int 1 then V.bl true else V.int ((is.getD j 0 : Nat) : Int))) nu10
    have hu10 : upd H10 u10 (.tup ((List.range rs.length).map fun j => if V.int ((is.getD j 0 : Nat) : Int) = V.int 1 then V.bl true else V.int ((is.getD j 0 : Nat) : Int))) u10 = some (.tup ((List.range rs.length).map fun j => if V.int ((is.getD j 0 : Nat) : Int) = V.int 1 then V.bl true else V.int ((is.getD j 0 : Nat) : Int))) := upd_same
    have sV11 := sV.trans (s10.trans s11)
    have hV11 := s11 _ _ hV10
    generalize upd H10 u10 (.tup ((List.range rs.length).map fun j => if V.int ((is.getD j 0 : Nat) : Int) = V.int 1 then V.bl true else V.int ((is.getD j 0 : Nat) : Int))) = H11 at *
    have le11 : LE (fun b => E0 b ∨ b = V') H11 := (le9.same sV11).more hV11
    have qb : ∀ x ∈ fs ++ [V.ref u10], Good K (fun b => E0 b ∨ b = V') H11 x := all_app (fun x hx => (qa x hx).ag (Ag.of sV11)) (all_cons (Good.tup hu10 le11 (by rw [List.length_map, List.length_range]; omega) fun x hx => by
      obtain ⟨j, hj, rfl⟩ := List.mem_map.mp hx
      have hj : j < is.length := by have := List.mem_range.mp hj; omega
      have hi := il (is.getD j 0) (by rw [List.getD_eq_getElem?_getD, List.getElem?_eq_getElem hj]; exact List.getElem_mem hj)
      split
      · exact Itm.bl true
      · exact Itm.int (by omega) (by omega)) all_nil)
    refine ⟨V', _, _, rfl, rfl, hV11, Nat.lt_of_le_of_lt (show fs.length ≤ 8 from fl) (by decide), ?_⟩
    have putF : ∀ {Hb : Hp} {n' : Int} (zs' : List V), Fr p l H3 Hb → Deck Hb p l n' → Fr p l H3 (upd Hb V' (.lst zs')) ∧ Deck (upd Hb V' (.lst zs')) p l n' := by
      intro Hb n' zs' f D
      refine ⟨fun b o h1 h2 hb' => by rw [upd_ne (ne_of_none hb' nV3)]; exact f b o h1 h2 hb', ⟨by rw [upd_ne Vp.symm]; exact D.hp, ?_⟩⟩
      obtain ⟨cells, q1, q2⟩ := D.hl
      exact ⟨cells, by rw [upd_ne Vl.symm]; exact q1, q2⟩
    obtain ⟨f12, D12⟩ := putF (fs ++ [V.ref u10]) (Same.fr (s39.trans sV11)) (D9.same sV11)
    have qc : ∀ x ∈ fs ++ [V.ref u10], Good K (fun b => E0 b ∨ b = V') (upd H11 V' (.lst (fs ++ [V.ref u10]))) x := fun x hx => (qb x hx).ag (Ag.put (E := fun b => E0 b ∨ b = V') E1V)
    have hV12 : upd H11 V' (.lst (fs ++ [V.ref u10])) V' = some (.lst (fs ++ [V.ref u10])) := upd_same
    have fl12 : (fs ++ [V.ref u10]).length ≤ 9 := by rw [List.length_append]; show fs.length + 1 ≤ 9; omega
    clear qa qb hu10 hV11 hV10 sV11 le11 s11 s10 hR nR nu10 hV sV le9 ring9 D9
    generalize upd H11 V' (.lst (fs ++ [V.ref u10])) = H12 at *
    generalize fs ++ [V.ref u10] = gs at *
    have hd12 := f12.tup D3 hd
    have htb12 := f12.tup D3 htb
    refine ⟨_, rfl, _, _, _, _, rfl, rfl, SqT.of hd12, atI_nat (j := 1) rfl, tb, _, rfl, .inr (SqT.of htb12), _, rfl, by omega, by omega, ?_⟩
    rw [show ((((qs.map V.ref).length : Nat) : Int)).toNat = L.length by rw [lq]; omega]
    refine for_range (lo := 0) (n := L.length) (fun j σ H' => ∃ (n' : Int) (hs : List V) (v6 v7 v8 v9 : Option V), σ = [some (.ref a), some (.ref p), some (.int (0 + (i : Int))), some (.ref d), some (.ref r), some (.ref V'), v6, v7, v8, v9] ∧ Fr p l H3 H' ∧ Deck H' p l n' ∧ n3 ≤ n' ∧ n' ≤ n3 + 2 * (j : Int) ∧ H' V' = some (.lst hs) ∧ hs.length ≤ 9 + 3 * j ∧ ∀ x ∈ hs, Good K (fun b => E0 b ∨ b = V') H' x) ⟨n3, gs, _, _, _, _, rfl, f12, D12, by omega, by omega, hV12, by omega, qc⟩ ?_ ?_
    · rintro j σ H' hj ⟨n', hs, v6, v7, v8, v9, rfl, f', D', m0, m1, hV', hl, hg⟩
      have ln : (((qs.map V.ref).length : Nat) : Int) = (L.length : Int) := by rw [lq]
      have le' : LE (fun b => E0 b ∨ b = V') H' := (le3.fr f' D').more hV'
      have stay : ∀ {Hb : Hp} {b xs}, Fr p l H3 Hb → H3 b = some (.tup xs) → Hb b = some (.tup xs) := fun {Hb b xs} f h => f.tup D3 h
      refine ⟨_, rfl, .inl ⟨rfl, _, SqL.of hV'⟩, ?_⟩
      refine ⟨_, rfl, _, rfl, _, rfl, _, _, _, _, rfl, rfl, SqT.of (stay f' hd), atI_nat (j := 1) rfl, tb, _, rfl, .inr (SqT.of (stay f' htb)), p, l, n', _, rfl, D', by omega, by omega, by omega, by omega, fun ra Ha a0 a1 fa Da => ⟨(by show 2 ≤ sizeLine; decide), fun w1 nw1 => ?_⟩⟩
      have t1 := same_upd (o := .tup [.int (0 + (j : Int)), .int ra]) nw1
      have hw1 : upd Ha w1 (.tup [.int (0 + (j : Int)), .int ra]) w1 = some (.tup [.int (0 + (j : Int)), .int ra]) := upd_same
      have Db := Da.same t1
      have fb := f'.trans (fa.trans (Same.fr t1))
      generalize upd Ha w1 (.tup [.int (0 + (j : Int)), .int ra]) = Hb at *
      refine ⟨_, rfl, _, rfl, _, _, _, _, rfl, rfl, SqT.of (stay fb hd), atI_nat (j := 1) rfl, tb, _, rfl, .inr (SqT.of (stay fb htb)), p, l, n' + 1, _, rfl, Db, by omega, by omega, by omega, by omega, fun rb Hc b0 b1 fc Dc => ⟨_, rfl, (by show 2 ≤ sizeLine; decide), fun w2 nw2 => ?_⟩⟩
      have t2 := same_upd (o := .tup [.int rb, .int (0 + (j : Int))]) nw2
      have hw2 : upd Hc w2 (.tup [.int rb, .int (0 + (j : Int))]) w2 = some (.tup [.int rb, .int (0 + (j : Int))]) := upd_same
      have Dd := Dc.same t2
      have fd' := fb.trans (fc.trans (Same.fr t2))
      have hw1d := t2 _ _ (fc.tup Db hw1)
      have f2d := fa.trans ((Same.fr t1).trans (fc.trans (Same.fr t2)))
      generalize upd Hc w2 (.tup [.int rb, .int (0 + (j : Int))]) = Hd at *
      refine ⟨_, rfl, (by show 1 ≤ sizeLine; decide), fun w3 nw3 => ⟨(by show 3 ≤ sizeLine; decide), fun g ng eg => ?_⟩⟩
      have t3 := same_upd (o := .tup [.int (0 + (j : Int))]) nw3
      have hw3 : upd Hd w3 (.tup [.int (0 + (j : Int))]) w3 = some (.tup [.int (0 + (j : Int))]) := upd_same
      have t4 := same_upd (o := .lst [V.ref w1, .ref w2, .ref w3]) ng
      have hgl : upd (upd Hd w3 (.tup [.int (0 + (j : Int))])) g (.lst [V.ref w1, .ref w2, .ref w3]) g = some (.lst [V.ref w1, .ref w2, .ref w3]) := upd_same
      have t34 := t3.trans t4
      generalize upd (upd Hd w3 (.tup [.int (0 + (j : Int))])) g (.lst [V.ref w1, .ref w2, .ref w3]) = He at *
      have De := Dd.same t34
      have fe := fd'.trans (Same.fr t34)
      have f2e := f2d.trans (Same.fr t34)
      have hVe := f2e V' _ Vp Vl hV'
      have lee : LE (fun b => E0 b ∨ b = V') He := (le3.fr fe De).more hVe
      have la : ra < (L.length : Int) := by rw [ln] at a1; exact a1
      have lb : rb < (L.length : Int) := by rw [ln] at b1; exact b1
      have i1 : IV (.int (0 + (j : Int))) := ⟨_, rfl, by omega, by omega⟩
      have i2 : IV (.int ra) := ⟨_, rfl, by omega, by omega⟩
      have i3 : IV (.int rb) := ⟨_, rfl, by omega, by omega⟩
      have g1 : Good K (fun b => E0 b ∨ b = V') He (.ref w1) := Good.iv (t34 _ _ hw1d) lee (by show 2 ≤ 16; decide) (all_cons i1 (all_cons i2 all_nil))
      have g2 : Good K (fun b => E0 b ∨ b = V') He (.ref w2) := Good.iv (t34 _ _ hw2) lee (by show 2 ≤ 16; decide) (all_cons i3 (all_cons i1 all_nil))
      have g3 : Good K (fun b => E0 b ∨ b = V') He (.ref w3) := Good.iv (t4 _ _ hw3) lee (by show 1 ≤ 16; decide) (all_cons i1 all_nil)
      obtain ⟨fz, Dz⟩ := putF (hs ++ [V.ref w1, .ref w2, .ref w3]) fe De
      refine ⟨V', g, _, _, rfl, rfl, hVe, hgl, Nat.le_trans (show hs.length + 3 ≤ 300 by omega) (by decide), n' + 1 + 1, hs ++ [V.ref w1, .ref w2, .ref w3], _, _, _, _, rfl, fz, Dz, by omega, by omega, upd_same, by rw [List.length_append]; show hs.length + 3 ≤ 9 + 3 * (j + 1); omega, fun x hx => Good.ag (E := fun b => E0 b ∨ b = V') (all_app (fun x hx => (hg x hx).ag (f2e.ag E1p E1l)) (all_cons g1 (all_cons g2 (all_cons g3 all_nil))) x hx) (Ag.put E1V)⟩
    · rintro σ H' ⟨n', hs, v6, v7, v8, v9, rfl, f', D', m0, m1, hV', hl, hg⟩
      have stay : ∀ {Hb : Hp} {b xs}, Fr p l H3 Hb → H3 b = some (.tup xs) → Hb b = some (.tup xs) := fun {Hb b xs} f h => f.tup D3 h
      refine ⟨_, rfl, .inl ⟨rfl, _, SqL.of hV'⟩, ?_⟩
      refine ⟨_, rfl, p, l, n', rfl, D', by omega, by omega, fun Ha x1 d1 fa Da hx1 sm1 tx1 => ?_⟩
      refine ⟨_, rfl, p, l, n' + 1, rfl, Da, by omega, by omega, fun Hb x2 d2 fb Db hx2 sm2 tx2 => ?_⟩
      have fab := f'.trans (fa.trans fb)
      refine ⟨_, rfl, _, _, _, _, rfl, rfl, SqT.of (stay fab hd), atI_nat (j := 1) rfl, tb, _, rfl, .inr (SqT.of (stay fab htb)), (by show 2 ≤ sizeLine; decide), fun w1 nw1 => ?_⟩
      have t1 := same_upd (o := .tup [.int (((qs.map V.ref).length : Nat) : Int), .int 0]) nw1
      have hw1 : upd Hb w1 (.tup [.int (((qs.map V.ref).length : Nat) : Int), .int 0]) w1 = some (.tup [.int (((qs.map V.ref).length : Nat) : Int), .int 0]) := upd_same
      generalize upd Hb w1 (.tup [.int (((qs.map V.ref).length : Nat) : Int), .int 0]) = Hc at *
      refine ⟨_, rfl, (by show 2 ≤ sizeLine; decide), fun w2 nw2 => ⟨(by show 4 ≤ sizeLine; decide), fun g ng eg => ?_⟩⟩
      have t2 := same_upd (o := .tup [.int (-1), .int 0]) nw2
      have hw2 : upd Hc w2 (.tup [.int (-1), .int 0]) w2 = some (.tup [.int (-1), .int 0]) := upd_same
      have t3 := same_upd (o := .lst [x1, x2, V.ref w1, .ref w2]) ng
      have hgl : upd (upd Hc w2 (.tup [.int (-1), .int 0])) g (.lst [x1, x2, V.ref w1, .ref w2]) g = some (.lst [x1, x2, V.ref w1, .ref w2]) := upd_same
      have t23 := t2.trans t3
      have tb3 := t1.trans t23
      generalize upd (upd Hc w2 (.tup [.int (-1), .int 0])) g (.lst [x1, x2, V.ref w1, .ref w2]) = He at *
      have le' : LE (fun b => E0 b ∨ b = V') H' := (le3.fr f' D').more hV'
      have lea : LE (fun b => E0 b ∨ b = V') Ha := (le3.fr (f'.trans fa) Da).more (fa V' _ Vp Vl hV')
      have fe := fab.trans (Same.fr tb3)
      have f2e := fa.trans (fb.trans (Same.fr tb3))
      have De := Db.same tb3
      have hVe := f2e V' _ Vp Vl hV'
      have lee : LE (fun b => E0 b ∨ b = V') He := (le3.fr fe De).more hVe
      have g1 : Good K (fun b => E0 b ∨ b = V') He x1 := Good.ag (H := Ha) ⟨d1, fun H'' a => hx1 H'' fun b o hn hs => a b o (le'.nn hn) hs, sm1.up (by decide) (by decide), tx1⟩ ((fb.ag E1p E1l).trans (Ag.of tb3))
      have g2 : Good K (fun b => E0 b ∨ b = V') He x2 := Good.ag (H := Hb) ⟨d2, fun H'' a => hx2 H'' fun b o hn hs => a b o (lea.nn hn) hs, sm2.up (by decide) (by decide), tx2⟩ (Ag.of tb3)
      have i1 : IV (.int (((qs.map V.ref).length : Nat) : Int)) := ⟨_, rfl, by omega, by omega⟩
      have i2 : IV (.int 0) := ⟨_, rfl, by decide, by decide⟩
      have i3 : IV (.int (-1)) := ⟨_, rfl, by decide, by decide⟩
      have g3 : Good K (fun b => E0 b ∨ b = V') He (.ref w1) := Good.iv (t23 _ _ hw1) lee (by show 2 ≤ 16; decide) (all_cons i1 (all_cons i2 all_nil))
      have g4 : Good K (fun b => E0 b ∨ b = V') He (.ref w2) := Good.iv (t3 _ _ hw2) lee (by show 2 ≤ 16; decide) (all_cons i3 (all_cons i2 all_nil))
      obtain ⟨fz, Dz⟩ := putF (hs ++ [x1, x2, V.ref w1, .ref w2]) fe De
      refine ⟨V', g, _, _, rfl, rfl, hVe, hgl, Nat.le_trans (show hs.length + 4 ≤ 300 by omega) (by decide), ?_⟩
      have gz : ∀ x ∈ hs ++ [x1, x2, V.ref w1, .ref w2], Good K (fun b => E0 b ∨ b = V') (upd He V' (.lst (hs ++ [x1, x2, V.ref w1, .ref w2]))) x := fun x hx => Good.ag (E := fun b => E0 b ∨ b = V') (all_app (fun x hx => (hg x hx).ag (f2e.ag E1p E1l)) (all_cons g1 (all_cons g2 (all_cons g3 (all_cons g4 all_nil)))) x hx) (Ag.put E1V)
      have hVz : upd He V' (.lst (hs ++ [x1, x2, V.ref w1, .ref w2])) V' = some (.lst (hs ++ [x1, x2, V.ref w1, .ref w2])) := upd_same
      have lz : (hs ++ [x1, x2, V.ref w1, .ref w2]).length ≤ 300 := by rw [List.length_append]; show hs.length + 4 ≤ 300; omega
      clear g1 g2 g3 g4
      generalize upd He V' (.lst (hs ++ [x1, x2, V.ref w1, .ref w2])) = Hz at *
      generalize hs ++ [x1, x2, V.ref w1, .ref w2] = zs at *
      have hBz := hB.fr fz D3
      refine ⟨_, rfl, V', rfl, ⟨_, SqL.of hVz⟩, fun U nU => ?_⟩
      refine lc_mL (fun _ => V.bl true) hVz nU (by omega) ?_ gName_mono ?_
      · intro j x H7 hx s7 R' hR'
        obtain ⟨dx, q1, q2, q3⟩ := (gz x (List.mem_of_getElem? hx)).ag (Ag.of s7)
        refine ⟨rfl, _, rfl, _, rfl, d, k, L, x, dx, rfl, hBz.same s7, ok, q1.dq, (fun ds e => ?_), k4, (q2.up (by decide) (by decide)).shd, by omega, fun H8 s8 => hR' H8 s8⟩
        rw [e] at q3
        exact of_decide_eq_true q3
      intro H7 s7 hU
      have hU : H7 U = some (.lst ((List.replicate zs.length true).map V.bl)) := by
        rw [hU]
        congr 2
        refine List.ext_getElem (by simp) fun i h1 h2 => ?_
        rw [List.getElem_map, List.getElem_map, List.getElem_replicate]
      refine ⟨U, _, rfl, SqL.of hU, ?_⟩
      rw [show (List.replicate zs.length true).all id = true by simp]
      refine ⟨_, rfl, iteF ?_⟩
      exact ⟨n' + 1 + 1, _, _, _, _, _, _, _, _, rfl, Dz.same s7, by omega, by omega⟩
  · rintro σ H2 ⟨n, v2, v3, v4, v5, v6, v7, v8, v9, rfl, D2, n0, n1⟩
    refine ⟨(by show 4 ≤ sizeLine; decide), fun q1 nq1 => ⟨(by show 4 ≤ sizeLine; decide), fun q2 nq2 => ⟨(by show 2 ≤ sizeLine; decide), fun tt ntt => ⟨(by show 2 ≤ sizeLine; decide), fun d nd => ?_⟩⟩⟩⟩
    have w1 := same_upd (o := .tup [.int 0, .int 2, .int 1, .int 3]) nq1
    have w2 := same_upd (o := .tup [.int 1, .int 1, .int 0, .int 1]) nq2
    have w3 := same_upd (o := .tup [.ref q1, .ref q2]) ntt
    have w4 := same_upd (o := .tup [.int 2, .ref tt]) nd
    have hB : BoardAt (upd (upd (upd (upd H2 q1 (.tup [.int 0, .int 2, .int 1, .int 3])) q2 (.tup [.int 1, .int 1, .int 0, .int 1])) tt (.tup [.ref q1, .ref q2])) d (.tup [.int 2, .ref tt])) d 2 lstO := by
      refine ⟨tt, [q1, q2], upd_same, w4 _ _ upd_same, rfl, fun i q e => ?_⟩
      match i, e with
      | 0, e => cases e; exact ⟨_, rfl, (w2.trans (w3.trans w4)) _ _ upd_same⟩
      | 1, e => cases e; exact ⟨_, rfl, (w3.trans w4) _ _ upd_same⟩
    generalize upd (upd (upd (upd H2 q1 (.tup [.int 0, .int 2, .int 1, .int 3])) q2 (.tup [.int 1, .int 1, .int 0, .int 1])) tt (.tup [.ref q1, .ref q2])) d (.tup [.int 2, .ref tt]) = H3 at *
    refine ⟨_, rfl, (by show 2 ≤ sizeLine; decide), fun u1 nu1 => ?_⟩
    have x1 := same_upd (o := .tup [.int 0, .int 1]) nu1
    refine ⟨d, 2, lstO, .ref u1, .tuple [.int 0, .int 1], rfl, hB.same x1, lstO_ok, .tup upd_same (.cons (.int 0) (.cons (.int 1) .nil)), (fun ds e => by cases e; decide), by decide, ⟨by decide +kernel, by decide +kernel, by decide +kernel⟩, by decide, fun H4 s4 => ⟨_, rfl, iteT ?_⟩⟩
    refine ⟨_, rfl, (by show 2 ≤ sizeLine; decide), fun u2 nu2 => ?_⟩
    have x2 := same_upd (o := .tup [.int 1, .int 0]) nu2
    exact ⟨d, 2, lstO, .ref u2, .tuple [.int 1, .int 0], rfl, hB.same (x1.trans (s4.trans x2)), lstO_ok, .tup upd_same (.cons (.int 1) (.cons (.int 0) .nil)), (fun ds e => by cases e; decide), by decide, ⟨by decide +kernel, by decide +kernel, by decide +kernel⟩, by decide, fun H5 s5 => kk H5⟩
end
end Sm

set_option Elab.async false
set_option linter.all false
set_option maxRecDepth 100000
set_option maxHeartbeats 16000000
namespace Sm
open PySem PySem.Spec PyProof.Rows L2
theorem all_mk {l : PySem.W.OpenLaw} {w : World} {K : PySem.W.Frag} {h : Heap} {mg : Str → Option Value} {fa : Addr} (X : K.In h) (G : h.Ns mainGlobals mg) (hfa : mg "law" = some (.ref fa))
    {F_is_whole : Addr} {od_is_whole an_is_whole : Option Addr} {sl_is_whole : Array (Option Value)} {oc_is_whole kV_is_whole dc_is_whole pm_is_whole cd_is_whole ct_is_whole : Value} (a_is_whole : PySem.W.nsIn K mainGlobals "is_whole" = some (some (.ref F_is_whole))) (l_is_whole : K.lookup F_is_whole = some ⟨oc_is_whole, od_is_whole, .func (PySem.W.fnOf "is_whole" "is_whole" (defArgs s_is_whole) (defBody s_is_whole) (defScope s_is_whole) .none kV_is_whole dc_is_whole pm_is_whole an_is_whole cd_is_whole ct_is_whole), sl_is_whole⟩) (c_is_whole : PySem.W.codeIn K cd_is_whole "is_whole" = true) (k_is_whole : PySem.W.keepIn K (.ref F_is_whole) = true)
    {F_is_within : Addr} {od_is_within an_is_within : Option Addr} {sl_is_within : Array (Option Value)} {oc_is_within kV_is_within dc_is_within pm_is_within cd_is_within ct_is_within : Value} (a_is_within : PySem.W.nsIn K mainGlobals "is_within" = some (some (.ref F_is_within))) (l_is_within : K.lookup F_is_within = some ⟨oc_is_within, od_is_within, .func (PySem.W.fnOf "is_within" "is_within" (defArgs s_is_within) (defBody s_is_within) (defScope s_is_within) .none kV_is_within dc_is_within pm_is_within an_is_within cd_is_within ct_is_within), sl_is_within⟩) (c_is_within : PySem.W.codeIn K cd_is_within "is_within" = true) (k_is_within : PySem.W.keepIn K (.ref F_is_within) = true)
    {F_is_gaining_loop : Addr} {od_is_gaining_loop an_is_gaining_loop : Option Addr} {sl_is_gaining_loop : Array (Option Value)} {oc_is_gaining_loop kV_is_gaining_loop dc_is_gaining_loop pm_is_gaining_loop cd_is_gaining_loop ct_is_gaining_loop : Value} (a_is_gaining_loop : PySem.W.nsIn K mainGlobals "is_gaining_loop" = some (some (.ref F_is_gaining_loop))) (l_is_gaining_loop : K.lookup F_is_gaining_loop = some ⟨oc_is_gaining_loop, od_is_gaining_loop, .func (PySem.W.fnOf "is_gaining_loop" "is_gaining_loop" (defArgs s_is_gaining_loop) (defBody s_is_gaining_loop) (defScope s_is_gaining_loop) .none kV_is_gaining_loop dc_is_gaining_loop pm_is_gaining_loop an_is_gaining_loop cd_is_gaining_loop ct_is_gaining_loop), sl_is_gaining_loop⟩) (c_is_gaining_loop : PySem.W.codeIn K cd_is_gaining_loop "is_gaining_loop" = true) (k_is_gaining_loop : PySem.W.keepIn K (.ref F_is_gaining_loop) = true)
    {F_gains : Addr} {od_gains an_gains : Option Addr} {sl_gains : Array (Option Value)} {oc_gains kV_gains dc_gains pm_gains cd_gains ct_gains : Value} (a_gains : PySem.W.nsIn K mainGlobals "gains" = some (some (.ref F_gains))) (l_gains : K.lookup F_gains = some ⟨oc_gains, od_gains, .func (PySem.W.fnOf "gains" "gains" (defArgs s_gains) (defBody s_gains) (defScope s_gains) .none kV_gains dc_gains pm_gains an_gains cd_gains ct_gains), sl_gains⟩) (c_gains : PySem.W.codeIn K cd_gains "gains" = true) (k_gains : PySem.W.keepIn K (.ref F_gains) = true)
    {F_loop_purse : Addr} {od_loop_purse an_loop_purse : Option Addr} {sl_loop_purse : Array (Option Value)} {oc_loop_purse kV_loop_purse dc_loop_purse pm_loop_purse cd_loop_purse ct_loop_purse : Value} (a_loop_purse : PySem.W.nsIn K mainGlobals "loop_purse" = some (some (.ref F_loop_purse))) (l_loop_purse : K.lookup F_loop_purse = some ⟨oc_loop_purse, od_loop_purse, .func (PySem.W.fnOf "loop_purse" "loop_purse" (defArgs s_loop_purse) (defBody s_loop_purse) (defScope s_loop_purse) .none kV_loop_purse dc_loop_purse pm_loop_purse an_loop_purse cd_loop_purse ct_loop_purse), sl_loop_purse⟩) (c_loop_purse : PySem.W.codeIn K cd_loop_purse "loop_purse" = true) (k_loop_purse : PySem.W.keepIn K (.ref F_loop_purse) = true)
    {F_l_deck : Addr} {od_l_deck an_l_deck : Option Addr} {sl_l_deck : Array (Option Value)} {oc_l_deck kV_l_deck dc_l_deck pm_l_deck cd_l_deck ct_l_deck : Value} (a_l_deck : PySem.W.nsIn K mainGlobals "_law_deck" = some (some (.ref F_l_deck))) (l_l_deck : K.lookup F_l_deck = some ⟨oc_l_deck, od_l_deck, .func (PySem.W.fnOf "_law_deck" "_law_deck" (defArgs s_l_deck) (defBody s_l_deck) (defScope s_l_deck) .none kV_l_deck dc_l_deck pm_l_deck an_l_deck cd_l_deck ct_l_deck), sl_l_deck⟩) (c_l_deck : PySem.W.codeIn K cd_l_deck "_law_deck" = true) (k_l_deck : PySem.W.keepIn K (.ref F_l_deck) = true)
    {F_l_draw : Addr} {od_l_draw an_l_draw : Option Addr} {sl_l_draw : Array (Option Value)} {oc_l_draw kV_l_draw dc_l_draw pm_l_draw cd_l_draw ct_l_draw : Value} (a_l_draw : PySem.W.nsIn K mainGlobals "_law_draw" = some (some (.ref F_l_draw))) (l_l_draw : K.lookup F_l_draw = some ⟨oc_l_draw, od_l_draw, .func (PySem.W.fnOf "_law_draw" "_law_draw" (defArgs s_l_draw) (defBody s_l_draw) (defScope s_l_draw) .none kV_l_draw dc_l_draw pm_l_draw an_l_draw cd_l_draw ct_l_draw), sl_l_draw⟩) (c_l_draw : PySem.W.codeIn K cd_l_draw "_law_draw" = true) (k_l_draw : PySem.W.keepIn K (.ref F_l_draw) = true)
    {F_l_one : Addr} {od_l_one an_l_one : Option Addr} {sl_l_one : Array (Option Value)} {oc_l_one kV_l_one dc_l_one pm_l_one cd_l_one ct_l_one : Value} (a_l_one : PySem.W.nsIn K mainGlobals "_law_one" = some (some (.ref F_l_one))) (l_l_one : K.lookup F_l_one = some ⟨oc_l_one, od_l_one, .func (PySem.W.fnOf "_law_one" "_law_one" (defArgs s_l_one) (defBody s_l_one) (defScope s_l_one) .none kV_l_one dc_l_one pm_l_one an_l_one cd_l_one ct_l_one), sl_l_one⟩) (c_l_one : PySem.W.codeIn K cd_l_one "_law_one" = true) (k_l_one : PySem.W.keepIn K (.ref F_l_one) = true)
    {F_l_board : Addr} {od_l_board an_l_board : Option Addr} {sl_l_board : Array (Option Value)} {oc_l_board kV_l_board dc_l_board pm_l_board cd_l_board ct_l_board : Value} (a_l_board : PySem.W.nsIn K mainGlobals "_law_board" = some (some (.ref F_l_board))) (l_l_board : K.lookup F_l_board = some ⟨oc_l_board, od_l_board, .func (PySem.W.fnOf "_law_board" "_law_board" (defArgs s_l_board) (defBody s_l_board) (defScope s_l_board) .none kV_l_board dc_l_board pm_l_board an_l_board cd_l_board ct_l_board), sl_l_board⟩) (c_l_board : PySem.W.codeIn K cd_l_board "_law_board" = true) (k_l_board : PySem.W.keepIn K (.ref F_l_board) = true)
    {F_l_ring : Addr} {od_l_ring an_l_ring : Option Addr} {sl_l_ring : Array (Option Value)} {oc_l_ring kV_l_ring dc_l_ring pm_l_ring cd_l_ring ct_l_ring : Value} (a_l_ring : PySem.W.nsIn K mainGlobals "_law_ring" = some (some (.ref F_l_ring))) (l_l_ring : K.lookup F_l_ring = some ⟨oc_l_ring, od_l_ring, .func (PySem.W.fnOf "_law_ring" "_law_ring" (defArgs s_l_ring) (defBody s_l_ring) (defScope s_l_ring) .none kV_l_ring dc_l_ring pm_l_ring an_l_ring cd_l_ring ct_l_ring), sl_l_ring⟩) (c_l_ring : PySem.W.codeIn K cd_l_ring "_law_ring" = true) (k_l_ring : PySem.W.keepIn K (.ref F_l_ring) = true)
    {F_l_gcd : Addr} {od_l_gcd an_l_gcd : Option Addr} {sl_l_gcd : Array (Option Value)} {oc_l_gcd kV_l_gcd dc_l_gcd pm_l_gcd cd_l_gcd ct_l_gcd : Value} (a_l_gcd : PySem.W.nsIn K mainGlobals "_law_gcd" = some (some (.ref F_l_gcd))) (l_l_gcd : K.lookup F_l_gcd = some ⟨oc_l_gcd, od_l_gcd, .func (PySem.W.fnOf "_law_gcd" "_law_gcd" (defArgs s_l_gcd) (defBody s_l_gcd) (defScope s_l_gcd) .none kV_l_gcd dc_l_gcd pm_l_gcd an_l_gcd cd_l_gcd ct_l_gcd), sl_l_gcd⟩) (c_l_gcd : PySem.W.codeIn K cd_l_gcd "_law_gcd" = true) (k_l_gcd : PySem.W.keepIn K (.ref F_l_gcd) = true)
    {F_l_is_loop : Addr} {od_l_is_loop an_l_is_loop : Option Addr} {sl_l_is_loop : Array (Option Value)} {oc_l_is_loop kV_l_is_loop dc_l_is_loop pm_l_is_loop cd_l_is_loop ct_l_is_loop : Value} (a_l_is_loop : PySem.W.nsIn K mainGlobals "_law_is_loop" = some (some (.ref F_l_is_loop))) (l_l_is_loop : K.lookup F_l_is_loop = some ⟨oc_l_is_loop, od_l_is_loop, .func (PySem.W.fnOf "_law_is_loop" "_law_is_loop" (defArgs s_l_is_loop) (defBody s_l_is_loop) (defScope s_l_is_loop) .none kV_l_is_loop dc_l_is_loop pm_l_is_loop an_l_is_loop cd_l_is_loop ct_l_is_loop), sl_l_is_loop⟩) (c_l_is_loop : PySem.W.codeIn K cd_l_is_loop "_law_is_loop" = true) (k_l_is_loop : PySem.W.keepIn K (.ref F_l_is_loop) = true)
    {F_l_product : Addr} {od_l_product an_l_product : Option Addr} {sl_l_product : Array (Option Value)} {oc_l_product kV_l_product dc_l_product pm_l_product cd_l_product ct_l_product : Value} (a_l_product : PySem.W.nsIn K mainGlobals "_law_product" = some (some (.ref F_l_product))) (l_l_product : K.lookup F_l_product = some ⟨oc_l_product, od_l_product, .func (PySem.W.fnOf "_law_product" "_law_product" (defArgs s_l_product) (defBody s_l_product) (defScope s_l_product) .none kV_l_product dc_l_product pm_l_product an_l_product cd_l_product ct_l_product), sl_l_product⟩) (c_l_product : PySem.W.codeIn K cd_l_product "_law_product" = true) (k_l_product : PySem.W.keepIn K (.ref F_l_product) = true)
    {F_l_gains : Addr} {od_l_gains an_l_gains : Option Addr} {sl_l_gains : Array (Option Value)} {oc_l_gains kV_l_gains dc_l_gains pm_l_gains cd_l_gains ct_l_gains : Value} (a_l_gains : PySem.W.nsIn K mainGlobals "_law_gains" = some (some (.ref F_l_gains))) (l_l_gains : K.lookup F_l_gains = some ⟨oc_l_gains, od_l_gains, .func (PySem.W.fnOf "_law_gains" "_law_gains" (defArgs s_l_gains) (defBody s_l_gains) (defScope s_l_gains) .none kV_l_gains dc_l_gains pm_l_gains an_l_gains cd_l_gains ct_l_gains), sl_l_gains⟩) (c_l_gains : PySem.W.codeIn K cd_l_gains "_law_gains" = true) (k_l_gains : PySem.W.keepIn K (.ref F_l_gains) = true)
    {F_l_odd : Addr} {od_l_odd an_l_odd : Option Addr} {sl_l_odd : Array (Option Value)} {oc_l_odd kV_l_odd dc_l_odd pm_l_odd cd_l_odd ct_l_odd : Value} (a_l_odd : PySem.W.nsIn K mainGlobals "_law_odd" = some (some (.ref F_l_odd))) (l_l_odd : K.lookup F_l_odd = some ⟨oc_l_odd, od_l_odd, .func (PySem.W.fnOf "_law_odd" "_law_odd" (defArgs s_l_odd) (defBody s_l_odd) (defScope s_l_odd) .none kV_l_odd dc_l_odd pm_l_odd an_l_odd cd_l_odd ct_l_odd), sl_l_odd⟩) (c_l_odd : PySem.W.codeIn K cd_l_odd "_law_odd" = true) (k_l_odd : PySem.W.keepIn K (.ref F_l_odd) = true)
    {F_l_due : Addr} {od_l_due an_l_due : Option Addr} {sl_l_due : Array (Option Value)} {oc_l_due kV_l_due dc_l_due pm_l_due cd_l_due ct_l_due : Value} (a_l_due : PySem.W.nsIn K mainGlobals "_law_due" = some (some (.ref F_l_due))) (l_l_due : K.lookup F_l_due = some ⟨oc_l_due, od_l_due, .func (PySem.W.fnOf "_law_due" "_law_due" (defArgs s_l_due) (defBody s_l_due) (defScope s_l_due) .none kV_l_due dc_l_due pm_l_due an_l_due cd_l_due ct_l_due), sl_l_due⟩) (c_l_due : PySem.W.codeIn K cd_l_due "_law_due" = true) (k_l_due : PySem.W.keepIn K (.ref F_l_due) = true)
    {F_l_is_bad : Addr} {od_l_is_bad an_l_is_bad : Option Addr} {sl_l_is_bad : Array (Option Value)} {oc_l_is_bad kV_l_is_bad dc_l_is_bad pm_l_is_bad cd_l_is_bad ct_l_is_bad : Value} (a_l_is_bad : PySem.W.nsIn K mainGlobals "_law_is_bad" = some (some (.ref F_l_is_bad))) (l_l_is_bad : K.lookup F_l_is_bad = some ⟨oc_l_is_bad, od_l_is_bad, .func (PySem.W.fnOf "_law_is_bad" "_law_is_bad" (defArgs s_l_is_bad) (defBody s_l_is_bad) (defScope s_l_is_bad) .none kV_l_is_bad dc_l_is_bad pm_l_is_bad an_l_is_bad cd_l_is_bad ct_l_is_bad), sl_l_is_bad⟩) (c_l_is_bad : PySem.W.codeIn K cd_l_is_bad "_law_is_bad" = true) (k_l_is_bad : PySem.W.keepIn K (.ref F_l_is_bad) = true)
    {F_l_right : Addr} {od_l_right an_l_right : Option Addr} {sl_l_right : Array (Option Value)} {oc_l_right kV_l_right dc_l_right pm_l_right cd_l_right ct_l_right : Value} (a_l_right : PySem.W.nsIn K mainGlobals "_law_right" = some (some (.ref F_l_right))) (l_l_right : K.lookup F_l_right = some ⟨oc_l_right, od_l_right, .func (PySem.W.fnOf "_law_right" "_law_right" (defArgs s_l_right) (defBody s_l_right) (defScope s_l_right) .none kV_l_right dc_l_right pm_l_right an_l_right cd_l_right ct_l_right), sl_l_right⟩) (c_l_right : PySem.W.codeIn K cd_l_right "_law_right" = true) (k_l_right : PySem.W.keepIn K (.ref F_l_right) = true)
    {F_law : Addr} {od_law an_law : Option Addr} {sl_law : Array (Option Value)} {oc_law kV_law dc_law pm_law cd_law ct_law : Value} (a_law : PySem.W.nsIn K mainGlobals "law" = some (some (.ref F_law))) (l_law : K.lookup F_law = some ⟨oc_law, od_law, .func (PySem.W.fnOf "law" "law" (defArgs s_law) (defBody s_law) (defScope s_law) .none kV_law dc_law pm_law an_law cd_law ct_law), sl_law⟩) (c_law : PySem.W.codeIn K cd_law "law" = true) (k_law : PySem.W.keepIn K (.ref F_law) = true)
    {cChangeError : Addr}
    {cBadLoop fBadLoop NnBadLoop : Addr} {nmBadLoop qnBadLoop : Str} {bsBadLoop : List Value} {snBadLoop : List Str} {subBadLoop : List Value} {abBadLoop : Bool} {colBadLoop : Option Bool} {ddBadLoop : Option Addr} {m0BadLoop m1BadLoop m2BadLoop m3BadLoop m5BadLoop : Option Value} {odIBadLoop anIBadLoop : Option Addr} {slIBadLoop : Array (Option Value)} {ocIBadLoop kVIBadLoop dcIBadLoop pmIBadLoop cdIBadLoop ctIBadLoop : Value}
    (a_ChangeError : PySem.W.nsIn K mainGlobals "ChangeError" = some (some (.ref cChangeError)))
    (e_ChangeError : PySem.W.subIn K (.ref cChangeError) (.type "BaseException") = some true)
    (h_ChangeError : PySem.W.hasDictIn K cChangeError = true)
    (t_ChangeError : PySem.W.typeIn K (.ref cChangeError) = some (.type "type"))
    (i_ChangeError : PySem.W.isClsIn K cChangeError = true)
    (g_cl : PySem.W.specialIn K (.builtin "object.__class__") "__get__" = some (some (.builtin "getset_descriptor.__get__")))
    (t_cl : PySem.W.takesIn K (.builtin "object.__class__") = some true)
    (a_BadLoop : PySem.W.nsIn K mainGlobals "BadLoop" = some (some (.ref cBadLoop)))
    (x_BadLoop : K.lookup cBadLoop = some (excClassObj nmBadLoop qnBadLoop cBadLoop NnBadLoop bsBadLoop [.ref cChangeError, .type "ValueError", .type "Exception", .type "BaseException", .type "object"] true snBadLoop subBadLoop abBadLoop colBadLoop ddBadLoop m0BadLoop m1BadLoop m2BadLoop m3BadLoop m5BadLoop "ValueError.__new__"))
    (fsa_BadLoop : PySem.W.findIn K (.ref cBadLoop) "__setattr__" = some (some (.builtin "object.__setattr__")))
    (fga_BadLoop : PySem.W.findIn K (.ref cBadLoop) "__getattribute__" = some (some (.builtin "BaseException.__getattribute__")))
    (fgg_BadLoop : PySem.W.findIn K (.ref cBadLoop) "__getattr__" = some none)
    (fno_BadLoop : PySem.W.findIn K (.ref cBadLoop) "indexes" = some none)
    (fiC_BadLoop : PySem.W.findIn K (.ref cBadLoop) "__init__" = some (some (.ref fBadLoop)))
    (fcl_BadLoop : PySem.W.findIn K (.ref cBadLoop) "__class__" = some (some (.builtin "object.__class__")))
    (tf_BadLoop : PySem.W.typeIn K (.ref fBadLoop) = some (.type "function"))
    (t_BadLoop : PySem.W.typeIn K (.ref cBadLoop) = some (.type "type"))
    (k_BadLoop : PySem.W.keepIn K (.ref cBadLoop) = true)
    (e_BadLoop : PySem.W.subIn K (.ref cBadLoop) (.type "BaseException") = some true)
    (s_BadLoop : PySem.W.subIn K (.ref cBadLoop) (.ref cBadLoop) = some true)
    (h_BadLoop : PySem.W.hasDictIn K cBadLoop = true)
    (m_BadLoop : PySem.W.mroIn K cBadLoop (.type "object") = some true)
    (lf_BadLoop : K.lookup fBadLoop = some ⟨ocIBadLoop, odIBadLoop, .func (PySem.W.fnOf "__init__" "BadLoop.__init__" (defArgs s_BadLoop_init) (defBody s_BadLoop_init) (defScope s_BadLoop_init) .none kVIBadLoop dcIBadLoop pmIBadLoop anIBadLoop cdIBadLoop ctIBadLoop), slIBadLoop⟩)
    (cf_BadLoop : PySem.W.codeIn K cdIBadLoop "BadLoop.__init__" = true)
    (kf_BadLoop : PySem.W.keepIn K (.ref fBadLoop) = true)
    (isub_BadLoop_ChangeError : PySem.W.subIn K (.ref cBadLoop) (.ref cChangeError) = some true)
    (z_abs : PySem.W.nsIn K mainGlobals "abs" = some none)
    (z_all : PySem.W.nsIn K mainGlobals "all" = some none)
    (z_bool : PySem.W.nsIn K mainGlobals "bool" = some none)
    (z_int : PySem.W.nsIn K mainGlobals "int" = some none)
    (z_isinstance : PySem.W.nsIn K mainGlobals "isinstance" = some none)
    (z_len : PySem.W.nsIn K mainGlobals "len" = some none)
    (z_list : PySem.W.nsIn K mainGlobals "list" = some none)
    (z_max : PySem.W.nsIn K mainGlobals "max" = some none)
    (z_range : PySem.W.nsIn K mainGlobals "range" = some none)
    (z_repr : PySem.W.nsIn K mainGlobals "repr" = some none)
    (z_set : PySem.W.nsIn K mainGlobals "set" = some none)
    (z_sorted : PySem.W.nsIn K mainGlobals "sorted" = some none)
    (z_tuple : PySem.W.nsIn K mainGlobals "tuple" = some none)
    (z_zip : PySem.W.nsIn K mainGlobals "zip" = some none)
    (g_gcd : PySem.W.nsIn K mainGlobals "gcd" = some (some (.builtin "math.gcd"))) :
    ∃ fd : FuncData, (∀ (s : Shared) (v : Value), BindsTo s fd ⟨[v], []⟩ [("_law_script", v)]) ∧ ∀ base : Heap, K.In base → base.Ns mainGlobals mg → FnG l.prog w K mg base 7 fa fd ["_law_script"] (sp_law K) := by
  have e := hfa.symm.trans (PySem.W.mg_of X G a_law)
  cases e
  have T : Txt mg := ⟨PySem.W.mg_none_of X G z_abs, PySem.W.mg_none_of X G z_all, PySem.W.mg_none_of X G z_bool, PySem.W.mg_none_of X G z_int, PySem.W.mg_none_of X G z_isinstance, PySem.W.mg_none_of X G z_len, PySem.W.mg_none_of X G z_list, PySem.W.mg_none_of X G z_max, PySem.W.mg_none_of X G z_range, PySem.W.mg_none_of X G z_repr, PySem.W.mg_none_of X G z_set, PySem.W.mg_none_of X G z_sorted, PySem.W.mg_none_of X G z_tuple, PySem.W.mg_none_of X G z_zip, PySem.W.mg_of X G g_gcd⟩
  have XBadLoop : XVal K mg "BadLoop" "indexes" cBadLoop fBadLoop :=
    { g := PySem.W.mg_of X G a_BadLoop, oex := ⟨⟨nmBadLoop, qnBadLoop, NnBadLoop, bsBadLoop, _, snBadLoop, subBadLoop, abBadLoop, colBadLoop, ddBadLoop, m0BadLoop, m1BadLoop, m2BadLoop, m3BadLoop, m5BadLoop, x_BadLoop, by rfl⟩, fsa_BadLoop, e_BadLoop, t_BadLoop, k_BadLoop⟩, no := fno_BadLoop, iC := fiC_BadLoop, tI := tf_BadLoop, xf := ⟨fga_BadLoop, fgg_BadLoop, e_BadLoop, h_BadLoop⟩,
      ec := ⟨fga_BadLoop, fgg_BadLoop, e_BadLoop, h_BadLoop, fcl_BadLoop, g_cl, t_cl, m_BadLoop⟩, te := PySem.W.exm_ref e_BadLoop h_BadLoop t_BadLoop s_BadLoop }
  have iBadLoop : IniF K "BadLoop.__init__" "indexes" s_BadLoop_init fBadLoop := ⟨_, fun_mk (st := s_BadLoop_init) lf_BadLoop cf_BadLoop kf_BadLoop, (fun_mk (st := s_BadLoop_init) lf_BadLoop cf_BadLoop kf_BadLoop).binds (ps := ["self", "indexes"]) fun _ _ _ _ _ _ us hl => match us, hl with | [_, _], _ => rfl⟩
  have k_BadLoop_ChangeError : PySem.W.kitOne K (.ref cBadLoop) (.ref cChangeError) = some true := kit_own i_ChangeError t_ChangeError isub_BadLoop_ChangeError s_BadLoop
  have D_is_whole : Df K mg "is_whole" s_is_whole ["value"] := ⟨_, _, fun_mk (st := s_is_whole) l_is_whole c_is_whole k_is_whole, PySem.W.mg_of X G a_is_whole, (fun_mk (st := s_is_whole) l_is_whole c_is_whole k_is_whole).binds (ps := ["value"]) fun _ _ _ _ _ _ us hl => match us, hl with | [_], _ => rfl⟩
  have D_is_within : Df K mg "is_within" s_is_within ["value", "low", "high"] := ⟨_, _, fun_mk (st := s_is_within) l_is_within c_is_within k_is_within, PySem.W.mg_of X G a_is_within, (fun_mk (st := s_is_within) l_is_within c_is_within k_is_within).binds (ps := ["value", "low", "high"]) fun _ _ _ _ _ _ us hl => match us, hl with | [_, _, _], _ => rfl⟩
  have D_is_gaining_loop : Df K mg "is_gaining_loop" s_is_gaining_loop ["board", "value"] := ⟨_, _, fun_mk (st := s_is_gaining_loop) l_is_gaining_loop c_is_gaining_loop k_is_gaining_loop, PySem.W.mg_of X G a_is_gaining_loop, (fun_mk (st := s_is_gaining_loop) l_is_gaining_loop c_is_gaining_loop k_is_gaining_loop).binds (ps := ["board", "value"]) fun _ _ _ _ _ _ us hl => match us, hl with | [_, _], _ => rfl⟩
  have D_gains : Df K mg "gains" s_gains ["board", "indexes"] := ⟨_, _, fun_mk (st := s_gains) l_gains c_gains k_gains, PySem.W.mg_of X G a_gains, (fun_mk (st := s_gains) l_gains c_gains k_gains).binds (ps := ["board", "indexes"]) fun _ _ _ _ _ _ us hl => match us, hl with | [_, _], _ => rfl⟩
  have D_loop_purse : Df K mg "loop_purse" s_loop_purse ["board", "indexes"] := ⟨_, _, fun_mk (st := s_loop_purse) l_loop_purse c_loop_purse k_loop_purse, PySem.W.mg_of X G a_loop_purse, (fun_mk (st := s_loop_purse) l_loop_purse c_loop_purse k_loop_purse).binds (ps := ["board", "indexes"]) fun _ _ _ _ _ _ us hl => match us, hl with | [_, _], _ => rfl⟩
  have D_l_deck : Df K mg "_law_deck" s_l_deck ["_law_script"] := ⟨_, _, fun_mk (st := s_l_deck) l_l_deck c_l_deck k_l_deck, PySem.W.mg_of X G a_l_deck, (fun_mk (st := s_l_deck) l_l_deck c_l_deck k_l_deck).binds (ps := ["_law_script"]) fun _ _ _ _ _ _ us hl => match us, hl with | [_], _ => rfl⟩
  have D_l_draw : Df K mg "_law_draw" s_l_draw ["_law_deck_here", "_law_many"] := ⟨_, _, fun_mk (st := s_l_draw) l_l_draw c_l_draw k_l_draw, PySem.W.mg_of X G a_l_draw, (fun_mk (st := s_l_draw) l_l_draw c_l_draw k_l_draw).binds (ps := ["_law_deck_here", "_law_many"]) fun _ _ _ _ _ _ us hl => match us, hl with | [_, _], _ => rfl⟩
  have D_l_one : Df K mg "_law_one" s_l_one ["_law_deck_here", "_law_items"] := ⟨_, _, fun_mk (st := s_l_one) l_l_one c_l_one k_l_one, PySem.W.mg_of X G a_l_one, (fun_mk (st := s_l_one) l_l_one c_l_one k_l_one).binds (ps := ["_law_deck_here", "_law_items"]) fun _ _ _ _ _ _ us hl => match us, hl with | [_, _], _ => rfl⟩
  have D_l_board : Df K mg "_law_board" s_l_board ["_law_deck_here", "_law_kinds", "_law_many", "_law_upto"] := ⟨_, _, fun_mk (st := s_l_board) l_l_board c_l_board k_l_board, PySem.W.mg_of X G a_l_board, (fun_mk (st := s_l_board) l_l_board c_l_board k_l_board).binds (ps := ["_law_deck_here", "_law_kinds", "_law_many", "_law_upto"]) fun _ _ _ _ _ _ us hl => match us, hl with | [_, _, _, _], _ => rfl⟩
  have D_l_ring : Df K mg "_law_ring" s_l_ring ["_law_deck_here", "_law_kinds"] := ⟨_, _, fun_mk (st := s_l_ring) l_l_ring c_l_ring k_l_ring, PySem.W.mg_of X G a_l_ring, (fun_mk (st := s_l_ring) l_l_ring c_l_ring k_l_ring).binds (ps := ["_law_deck_here", "_law_kinds"]) fun _ _ _ _ _ _ us hl => match us, hl with | [_, _], _ => rfl⟩
  have D_l_gcd : Df K mg "_law_gcd" s_l_gcd ["_law_one_here", "_law_other"] := ⟨_, _, fun_mk (st := s_l_gcd) l_l_gcd c_l_gcd k_l_gcd, PySem.W.mg_of X G a_l_gcd, (fun_mk (st := s_l_gcd) l_l_gcd c_l_gcd k_l_gcd).binds (ps := ["_law_one_here", "_law_other"]) fun _ _ _ _ _ _ us hl => match us, hl with | [_, _], _ => rfl⟩
  have D_l_is_loop : Df K mg "_law_is_loop" s_l_is_loop ["_law_board_here", "_law_value"] := ⟨_, _, fun_mk (st := s_l_is_loop) l_l_is_loop c_l_is_loop k_l_is_loop, PySem.W.mg_of X G a_l_is_loop, (fun_mk (st := s_l_is_loop) l_l_is_loop c_l_is_loop k_l_is_loop).binds (ps := ["_law_board_here", "_law_value"]) fun _ _ _ _ _ _ us hl => match us, hl with | [_, _], _ => rfl⟩
  have D_l_product : Df K mg "_law_product" s_l_product ["_law_board_here", "_law_indexes", "_law_item"] := ⟨_, _, fun_mk (st := s_l_product) l_l_product c_l_product k_l_product, PySem.W.mg_of X G a_l_product, (fun_mk (st := s_l_product) l_l_product c_l_product k_l_product).binds (ps := ["_law_board_here", "_law_indexes", "_law_item"]) fun _ _ _ _ _ _ us hl => match us, hl with | [_, _, _], _ => rfl⟩
  have D_l_gains : Df K mg "_law_gains" s_l_gains ["_law_board_here", "_law_indexes"] := ⟨_, _, fun_mk (st := s_l_gains) l_l_gains c_l_gains k_l_gains, PySem.W.mg_of X G a_l_gains, (fun_mk (st := s_l_gains) l_l_gains c_l_gains k_l_gains).binds (ps := ["_law_board_here", "_law_indexes"]) fun _ _ _ _ _ _ us hl => match us, hl with | [_, _], _ => rfl⟩
  have D_l_odd : Df K mg "_law_odd" s_l_odd ["_law_deck_here"] := ⟨_, _, fun_mk (st := s_l_odd) l_l_odd c_l_odd k_l_odd, PySem.W.mg_of X G a_l_odd, (fun_mk (st := s_l_odd) l_l_odd c_l_odd k_l_odd).binds (ps := ["_law_deck_here"]) fun _ _ _ _ _ _ us hl => match us, hl with | [_], _ => rfl⟩
  have D_l_due : Df K mg "_law_due" s_l_due ["_law_board_here", "_law_indexes"] := ⟨_, _, fun_mk (st := s_l_due) l_l_due c_l_due k_l_due, PySem.W.mg_of X G a_l_due, (fun_mk (st := s_l_due) l_l_due c_l_due k_l_due).binds (ps := ["_law_board_here", "_law_indexes"]) fun _ _ _ _ _ _ us hl => match us, hl with | [_, _], _ => rfl⟩
  have D_l_is_bad : Df K mg "_law_is_bad" s_l_is_bad ["_law_board_here", "_law_value"] := ⟨_, _, fun_mk (st := s_l_is_bad) l_l_is_bad c_l_is_bad k_l_is_bad, PySem.W.mg_of X G a_l_is_bad, (fun_mk (st := s_l_is_bad) l_l_is_bad c_l_is_bad k_l_is_bad).binds (ps := ["_law_board_here", "_law_value"]) fun _ _ _ _ _ _ us hl => match us, hl with | [_, _], _ => rfl⟩
  have D_l_right : Df K mg "_law_right" s_l_right ["_law_board_here", "_law_value"] := ⟨_, _, fun_mk (st := s_l_right) l_l_right c_l_right k_l_right, PySem.W.mg_of X G a_l_right, (fun_mk (st := s_l_right) l_l_right c_l_right k_l_right).binds (ps := ["_law_board_here", "_law_value"]) fun _ _ _ _ _ _ us hl => match us, hl with | [_, _], _ => rfl⟩
  have D_law : Df K mg "law" s_law ["_law_script"] := ⟨_, _, fun_mk (st := s_law) l_law c_law k_law, PySem.W.mg_of X G a_law, (fun_mk (st := s_law) l_law c_law k_law).binds (ps := ["_law_script"]) fun _ _ _ _ _ _ us hl => match us, hl with | [_], _ => rfl⟩
  refine ⟨PySem.W.fnOf "law" "law" (defArgs s_law) (defBody s_law) (defScope s_law) .none kV_law dc_law pm_law an_law cd_law ct_law, fun s v => .of_eq rfl, fun base _ _ => ?_⟩
  have C_is_whole : Cal l.prog w K mg base "is_whole" ["value"] 1 (sp_is_whole K) := ok_is_whole T D_is_whole
  have C_gains : Cal l.prog w K mg base "gains" ["board", "indexes"] 1 (sp_gains K) := ok_gains T D_gains
  have C_l_deck : Cal l.prog w K mg base "_law_deck" ["_law_script"] 1 (sp_l_deck K) := ok_l_deck T D_l_deck
  have C_l_draw : Cal l.prog w K mg base "_law_draw" ["_law_deck_here", "_law_many"] 1 (sp_l_draw K) := ok_l_draw T D_l_draw
  have C_l_gcd : Cal l.prog w K mg base "_law_gcd" ["_law_one_here", "_law_other"] 1 (sp_l_gcd K) := ok_l_gcd T D_l_gcd
  have C_l_is_loop : Cal l.prog w K mg base "_law_is_loop" ["_law_board_here", "_law_value"] 1 (sp_l_is_loop K) := ok_l_is_loop T D_l_is_loop
  have C_l_product : Cal l.prog w K mg base "_law_product" ["_law_board_here", "_law_indexes", "_law_item"] 1 (sp_l_product K) := ok_l_product T D_l_product
  have C_is_within : Cal l.prog w K mg base "is_within" ["value", "low", "high"] 2 (sp_is_within K) := ok_is_within T D_is_within C_is_whole
  have C_l_one : Cal l.prog w K mg base "_law_one" ["_law_deck_here", "_law_items"] 2 (sp_l_one K) := ok_l_one T D_l_one C_l_draw
  have C_l_board : Cal l.prog w K mg base "_law_board" ["_law_deck_here", "_law_kinds", "_law_many", "_law_upto"] 2 (sp_l_board K) := ok_l_board T D_l_board C_l_draw
  have C_l_gains : Cal l.prog w K mg base "_law_gains" ["_law_board_here", "_law_indexes"] 2 (sp_l_gains K) := ok_l_gains T D_l_gains C_l_product
  have C_l_due : Cal l.prog w K mg base "_law_due" ["_law_board_here", "_law_indexes"] 2 (sp_l_due K) := ok_l_due T D_l_due C_l_gcd
  have C_is_gaining_loop : Cal l.prog w K mg base "is_gaining_loop" ["board", "value"] 3 (sp_is_gaining_loop K) := ok_is_gaining_loop T D_is_gaining_loop C_gains C_is_within
  have C_l_ring : Cal l.prog w K mg base "_law_ring" ["_law_deck_here", "_law_kinds"] 3 (sp_l_ring K) := ok_l_ring T D_l_ring C_l_board C_l_draw
  have C_l_odd : Cal l.prog w K mg base "_law_odd" ["_law_deck_here"] 3 (sp_l_odd K) := ok_l_odd T D_l_odd C_l_one
  have C_loop_purseX := ok_loop_purse (P := l.prog) (w := w) (base := base) T XBadLoop iBadLoop D_loop_purse C_is_gaining_loop
  have C_loop_purse := ok_loop0 C_loop_purseX
  have G_l_is_bad := ok_l_is_bad (P := l.prog) (w := w) (base := base) T XBadLoop ⟨PySem.W.mg_of X G a_ChangeError⟩ k_BadLoop_ChangeError C_loop_purseX (fun_mk (st := s_l_is_bad) l_l_is_bad c_l_is_bad k_l_is_bad)
  have b_l_is_bad := (fun_mk (st := s_l_is_bad) l_l_is_bad c_l_is_bad k_l_is_bad).binds (ps := ["_law_board_here", "_law_value"]) fun _ _ _ _ _ _ us hl => match us, hl with | [_, _], _ => rfl
  have G_l_right := ok_l_right (P := l.prog) (w := w) (base := base) T G_l_is_bad (PySem.W.mg_of X G a_l_is_bad) k_l_is_bad b_l_is_bad C_l_is_loop C_l_gains C_loop_purse C_l_due (fun_mk (st := s_l_right) l_l_right c_l_right k_l_right)
  have b_l_right := (fun_mk (st := s_l_right) l_l_right c_l_right k_l_right).binds (ps := ["_law_board_here", "_law_value"]) fun _ _ _ _ _ _ us hl => match us, hl with | [_, _], _ => rfl
  exact ok_lawC T (fun_mk (st := s_law) l_law c_law k_law) G_l_right (PySem.W.mg_of X G a_l_right) k_l_right b_l_right C_l_odd C_l_draw C_l_ring C_l_deck

end Sm
open PySem PySem.W PyProof.Rows in
set_option maxRecDepth 100000 in
set_option maxHeartbeats 0 in
theorem PySem.Challenge.cw_smallchange_k52_purses_of_loops_holds : PySem.Challenge.rw_smallchange_k52_purses_of_loops.Holds := by
  w_on; o_law; k_head; (case hw => w_witness2)
  k_fill
  refine Sm.walk_at_law (l := PySem.Challenge.rw_smallchange_k52_purses_of_loops) (k := 7) (x := "_law_script") (sp := Sm.sp_law) rfl rfl ⟨rfl, by decide, by decide⟩ (fun w h Y => PySem.W.kIn_of Y) ?F (fun _ _ a ns hl hS => ⟨a, ns, rfl, hS, hl, fun _ => rfl⟩)
  case F =>
    intro w mg fa h KX G hmg
    refine' Sm.all_mk KX G hmg ?a_is_whole ?l_is_whole ?c_is_whole ?k_is_whole ?a_is_within ?l_is_within ?c_is_within ?k_is_within ?a_is_gaining_loop ?l_is_gaining_loop ?c_is_gaining_loop ?k_is_gaining_loop ?a_gains ?l_gains ?c_gains ?k_gains ?a_loop_purse ?l_loop_purse ?c_loop_purse ?k_loop_purse ?a_l_deck ?l_l_deck ?c_l_deck ?k_l_deck ?a_l_draw ?l_l_draw ?c_l_draw ?k_l_draw ?a_l_one ?l_l_one ?c_l_one ?k_l_one ?a_l_board ?l_l_board ?c_l_board ?k_l_board ?a_l_ring ?l_l_ring ?c_l_ring ?k_l_ring ?a_l_gcd ?l_l_gcd ?c_l_gcd ?k_l_gcd ?a_l_is_loop ?l_l_is_loop ?c_l_is_loop ?k_l_is_loop ?a_l_product ?l_l_product ?c_l_product ?k_l_product ?a_l_gains ?l_l_gains ?c_l_gains ?k_l_gains ?a_l_odd ?l_l_odd ?c_l_odd ?k_l_odd ?a_l_due ?l_l_due ?c_l_due ?k_l_due ?a_l_is_bad ?l_l_is_bad ?c_l_is_bad ?k_l_is_bad ?a_l_right ?l_l_right ?c_l_right ?k_l_right ?a_law ?l_law ?c_law ?k_law ?a_ChangeError ?e_ChangeError ?h_ChangeError ?t_ChangeError ?i_ChangeError ?g_cl ?t_cl ?a_BadLoop ?x_BadLoop ?fsa_BadLoop ?fga_BadLoop ?fgg_BadLoop ?fno_BadLoop ?fiC_BadLoop ?fcl_BadLoop ?tf_BadLoop ?t_BadLoop ?k_BadLoop ?e_BadLoop ?s_BadLoop ?h_BadLoop ?m_BadLoop ?lf_BadLoop ?cf_BadLoop ?kf_BadLoop ?isub_BadLoop_ChangeError ?z_abs ?z_all ?z_bool ?z_int ?z_isinstance ?z_len ?z_list ?z_max ?z_range ?z_repr ?z_set ?z_sorted ?z_tuple ?z_zip ?g_gcd
    (case a_is_whole => k_is)
    (case l_is_whole => k_is)
    (case c_is_whole => k_is)
    (case k_is_whole => k_is)
    (case a_is_within => k_is)
    (case l_is_within => k_is)
    (case c_is_within => k_is)
    (case k_is_within => k_is)
    (case a_is_gaining_loop => k_is)
    (case l_is_gaining_loop => k_is)
    (case c_is_gaining_loop => k_is)
    (case k_is_gaining_loop => k_is)
    (case a_gains => k_is)
    (case l_gains => k_is)
    (case c_gains => k_is)
    (case k_gains => k_is)
    (case a_loop_purse => k_is)
    (case l_loop_purse => k_is)
    (case c_loop_purse => k_is)
    (case k_loop_purse => k_is)
    (case a_l_deck => k_is)
    (case l_l_deck => k_is)
    (case c_l_deck => k_is)
    (case k_l_deck => k_is)
    (case a_l_draw => k_is)
    (case l_l_draw => k_is)
    (case c_l_draw => k_is)
    (case k_l_draw => k_is)
    (case a_l_one => k_is)
    (case l_l_one => k_is)
    (case c_l_one => k_is)
    (case k_l_one => k_is)
    (case a_l_board => k_is)
    (case l_l_board => k_is)
    (case c_l_board => k_is)
    (case k_l_board => k_is)
    (case a_l_ring => k_is)
    (case l_l_ring => k_is)
    (case c_l_ring => k_is)
    (case k_l_ring => k_is)
    (case a_l_gcd => k_is)
    (case l_l_gcd => k_is)
    (case c_l_gcd => k_is)
    (case k_l_gcd => k_is)
    (case a_l_is_loop => k_is)
    (case l_l_is_loop => k_is)
    (case c_l_is_loop => k_is)
    (case k_l_is_loop => k_is)
    (case a_l_product => k_is)
    (case l_l_product => k_is)
    (case c_l_product => k_is)
    (case k_l_product => k_is)
    (case a_l_gains => k_is)
    (case l_l_gains => k_is)
    (case c_l_gains => k_is)
    (case k_l_gains => k_is)
    (case a_l_odd => k_is)
    (case l_l_odd => k_is)
    (case c_l_odd => k_is)
    (case k_l_odd => k_is)
    (case a_l_due => k_is)
    (case l_l_due => k_is)
    (case c_l_due => k_is)
    (case k_l_due => k_is)
    (case a_l_is_bad => k_is)
    (case l_l_is_bad => k_is)
    (case c_l_is_bad => k_is)
    (case k_l_is_bad => k_is)
    (case a_l_right => k_is)
    (case l_l_right => k_is)
    (case c_l_right => k_is)
    (case k_l_right => k_is)
    (case a_law => k_is)
    (case l_law => k_is)
    (case c_law => k_is)
    (case k_law => k_is)
    (case a_ChangeError => first | k_is | rfl | decide +kernel)
    (case e_ChangeError => first | k_is | rfl | decide +kernel)
    (case h_ChangeError => first | k_is | rfl | decide +kernel)
    (case t_ChangeError => first | k_is | rfl | decide +kernel)
    (case i_ChangeError => first | k_is | rfl | decide +kernel)
    (case g_cl => first | k_is | rfl | decide +kernel)
    (case t_cl => first | k_is | rfl | decide +kernel)
    (case a_BadLoop => first | k_is | rfl | decide +kernel)
    (case x_BadLoop => first | k_is | rfl | decide +kernel)
    (case fsa_BadLoop => first | k_is | rfl | decide +kernel)
    (case fga_BadLoop => first | k_is | rfl | decide +kernel)
    (case fgg_BadLoop => first | k_is | rfl | decide +kernel)
    (case fno_BadLoop => first | k_is | rfl | decide +kernel)
    (case fiC_BadLoop => first | k_is | rfl | decide +kernel)
    (case fcl_BadLoop => first | k_is | rfl | decide +kernel)
    (case tf_BadLoop => first | k_is | rfl | decide +kernel)
    (case t_BadLoop => first | k_is | rfl | decide +kernel)
    (case k_BadLoop => first | k_is | rfl | decide +kernel)
    (case e_BadLoop => first | k_is | rfl | decide +kernel)
    (case s_BadLoop => first | k_is | rfl | decide +kernel)
    (case h_BadLoop => first | k_is | rfl | decide +kernel)
    (case m_BadLoop => first | k_is | rfl | decide +kernel)
    (case lf_BadLoop => first | k_is | rfl | decide +kernel)
    (case cf_BadLoop => first | k_is | rfl | decide +kernel)
    (case kf_BadLoop => first | k_is | rfl | decide +kernel)
    (case isub_BadLoop_ChangeError => first | k_is | rfl | decide +kernel)
    (case z_abs => k_is)
    (case z_all => k_is)
    (case z_bool => k_is)
    (case z_int => k_is)
    (case z_isinstance => k_is)
    (case z_len => k_is)
    (case z_list => k_is)
    (case z_max => k_is)
    (case z_range => k_is)
    (case z_repr => k_is)
    (case z_set => k_is)
    (case z_sorted => k_is)
    (case z_tuple => k_is)
    (case z_zip => k_is)
    (case g_gcd => k_is)

