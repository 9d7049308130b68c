import PyProof.Rows.All
import Wide.All
import OpenK.AllK
import Wide.FinOn
import HandS.ForMost
import HandS.Wide
import HandS.Codes
import PyProof.ReprRoads
import HandS.Conv
import HandS.IsInst
import HandS.Style
import HandS.TupAny
import HandS.ForExc
import HandS.ExcIs
import HandS.ExcInit
import HandS.ExcField
import HandS.ExcOwn
import KE.KExcIs
import KE.KExcInit
import PyProof.ExcBaseAll.LookupError
import HandS.Lambda
import HandS.Dict
import HandS.OwnEq
import HandS.SlotsOwn
import KE.KCallOwn
import KE.KOpsOwn
import KE.KFmtOwn
import OpenK.KMeth
import HandS.Small
import HandS.Zip
import HandS.Walk
import PyProof.WalkInts
import PyProof.WalksMore
import HandS.Star
import HandS.EndOwn
import HandS.List
import KE.DataEq
import PyProof.FactsAll.dict_1
import PyProof.FactsAll.subtypes
import HandS.TupMul
import HandS.Deep
import HandS.TupSets
import KE.GoesEnum
import PySem.Challenge.RW_smallchange_k70_purses_added_and_compare
set_option Elab.async false
set_option linter.all false
set_option maxRecDepth 100000
set_option maxHeartbeats 4000000
namespace Sm
open PySem PySem.Spec PyProof.Rows L2
/-! ### promises of defs where no repr is under way: as FnOk, with A's guards empty -/
structure FnG (P : Program) (w : World) (K : PySem.W.Frag) (mg : Str → Option Value) (base : Heap) (k : Nat) (f : Addr) (fd : FuncData) (ps : List Str) (sp : Sp) : Prop where
  len : ∀ vs H Q E, sp vs H Q E → vs.length = ps.length
  run : ∀ (A : Around) (outer : List Env) (s : Shared) (H : Hp) (args : Args) (us : List Value) (vs : List V) (Q : VK) (E : XK), A.guards = some [] → Room k A →
    Env0 P w K mg base A outer s H → BindsTo s fd args (ps.zip us) → Vals vs us → sp vs H Q E → codeAny (model P w) A (.call (.ref f) args) (CR CX0 outer P w H s Q E) s
section
variable {P : Program} {w : World} {K : PySem.W.Frag} {mg : Str → Option Value} {base : Heap} {k : Nat} {f : Addr} {fd : FuncData} {ps : List Str} {sp : Sp}
theorem FnG.of (F : FnOk P w K mg base CX0 k f fd ps sp) : FnG P w K mg base k f fd ps sp :=
  ⟨F.len, fun A outer s H args us vs Q E _ hr e b v h => F.run A outer s H args us vs Q E hr e b v h⟩
theorem FnG.body {x : Str} {st : Stmt} {N : List Str} (F : Fun K x x st f fd) (S : FnScope N ps (defScope st)) (len : ∀ vs H Q E, sp vs H Q E → vs.length = ps.length)
    (hb : ∀ (cdv : Value) (A : Around) (outer : List Env) (s : Shared) (H : Hp) (vs : List V) (Q : VK) (E : XK), A.guards = some [] → Room k (A.deeper (envOfC x (defScope st) s.heap.objs.size f cdv)) → sp vs H Q E →
      ∃ t, PSs (cxOf CX0 P w K mg base N x (defScope st) f cdv A outer s H E).nox (defBody st) t ∧ t { nx := fun _ H' => Q .non H', rt := Q } (start N vs) H) : FnG P w K mg base (k + 1) f fd ps sp := by
  obtain ⟨oc, od, kV, doc, pm, an, cdv, ct, osl, efd, look, code⟩ := F.ex
  subst efd
  constructor
  · exact len
  intro A outer s H args us vs Q E guard room e0 bind rel want
  have inn : K.In s.heap := e0.mod.kin.keeps fun b o e => (e0.bs b o e).1
  have nolim : s.heap.NoLimit := e0.mod.nolimit.keeps fun b o e => (e0.bs b o e).1
  refine codeAny_call_function room.depth (inn _ _ look) rfl S.co S.gen rfl (PySem.W.codeRec_of inn code) (bind _ _ _ _ ?_)
  refine wpAny_newFunctionEnv_cells S.kind ?_ ?_
  · rintro ⟨n, v⟩ there
    have := S.par n (List.of_mem_zip there).1
    cases this with
    | inl q => exact .inl q
    | inr q => exact .inr ⟨q, PySem.W.cellsFrom_some _ _ _ (.inl q)⟩
  · intro env eenv s1 laid
    subst eenv
    refine ⟨nolim.keeps laid.toInCall.keep, codeAny_func ?_⟩
    obtain ⟨t, der, goal⟩ := hb cdv A outer s H vs Q E guard (room.deeper _) want
    have I := inv_start (CX := CX0) (E := E) S room.hd e0 (len _ _ _ _ want) rel laid
    refine wpAny_mono (der.nox.run [] s1 (start N vs) H _ I goal) (fun out s' got => ?_) fun e s' got => got
    match out, got with
    | .ret u, ⟨v, σ', H', J, rv, q⟩ => exact ⟨v, H', J.os, J.bare, J.base, J.hok, rv, q⟩
    | .next, ⟨σ', H', J, q⟩ => exact ⟨V.non, H', J.os, J.bare, J.base, J.hok, rfl, q⟩
    | .brk, ⟨_, _, _, q⟩ => exact q.elim
    | .cont, ⟨_, _, _, q⟩ => exact q.elim
end
section
variable {X : Cx} {k : Nat} {f : Addr} {fd : FuncData} {ps : List Str} {sp : Sp} {x : Str} {p pos : Pos} {e : Expr} {es : List Expr} {t : TA}
theorem pe_callG (F : FnG X.prog X.w X.K X.mg X.base k f fd ps sp) (gu : X.A.guards = some []) (hr : Room k X.A) (hg : Gl X x) (hm : X.mg x = some (.ref f)) (hk : PySem.W.keepIn X.K (.ref f) = true) (hb : Binds X.K fd ps [])
    (ha : PA X (e :: es) t) (hdb : (x == ("__debug__" : Str)) = false := by decide) (he : starEach (e :: es) X.env = (false, eval e X.env) :: starEach es X.env := by rfl) (hpl : (backTo pos (starEach es X.env)).any (·.1) = false := by rfl) :
    PE X (.Call (.Name x p) (e :: es) [] pos) (tCall sp [] E0 t) := by
  constructor
  intro pins s σ H Q I want
  refine wpAny_Call_Name_kw (ld_glob I hg hm ?_ hdb)
  refine PySem.W.callWith_K (h₀ := X.base) I.ok.mod.kin hk (thn (ha.run pos pins s σ H _ I want) ?_) he hpl
  rintro us s1 ⟨vs, H1, I1, rel, q⟩
  refine ⟨I1.kIn, ?_⟩
  have q : sp vs H1 Q E0 := by
    have q : sp (vs ++ []) H1 Q E0 := q
    rw [List.append_nil] at q
    exact q
  have b := hb s1 us I1.kIn (by rw [List.append_nil, ← rel.length]; exact F.len _ _ _ _ q)
  rw [List.append_nil] at b
  refine wpAny_call (codeAny_mono (F.run X.A X.stack s1 H1 ⟨us, []⟩ us vs Q E0 gu hr I1.env0 b rel q) ?_)
  rintro (e | out) s' got
  · exact got.elim
  · match out, got with
    | .ret u, got => exact I1.after got
    | .next, got => exact got.elim
    | .brk, got => exact got.elim
    | .cont, got => exact got.elim
/-- repr of data at any depth -/
theorem call_repr_data (gu : X.A.guards = some []) (room : ∃ k, Room k X.A) : CallR X (.builtin "repr") (fun xs H Q => ∃ a d, xs = [.ref a] ∧ Dp X.K H (.ref a) d ∧ PyData.showable d = true ∧ PyData.hasDict d = false ∧ d.depth ≤ 60 ∧ d.shown.length ≤ sizeLine ∧ Q (.str d.shown) H) := by
  intro pins s σ H xs us Q I rel want
  obtain ⟨a, d, rfl, data, sh, nd, dep, len, q⟩ := want
  obtain ⟨u, rfl, ru⟩ := vals1 rel
  obtain ⟨as, reads⟩ := Dp.reads I d _ u data ru
  cases ru
  obtain ⟨k, room⟩ := room
  have un := room.un
  exact repr_of_reads' reads sh (PyData.noDict_hsm nd) gu (by omega) (fun _ _ e => e) (fun h' v tk keep => ⟨.str d.shown, H, I.kept keep, ⟨_, rfl⟩, q⟩) len
end
/-! ### the law's own call, at the caller's place -/
theorem law_at {P : Program} {w : World} {K : PySem.W.Frag} {mg mb : Str → Option Value} {k : Nat} {fa a : Addr} {fd : FuncData} {x : Str} {sp : Sp} {s₁ : Shared} {vs : List Value} {ns : List Int}
    (KX : K.In s₁.heap) (hns : s₁.heap.Ns mainGlobals mg) (hb : s₁.heap.Ns builtinsNs mb) (hbb : ∀ x : Str, x ≠ "__name__" → mb x = bootBuiltins x) (hlim : s₁.heap.NoLimit) (hg : s₁.gens = #[])
    (ha : s₁.heap.get? a = some { cls := .type "list", data := .seq vs.toArray }) (hi : IntsAre vs ns) (hl : ns.length ≤ sizeLine) (hr : Room k callerA)
    (F : ∀ base : Heap, K.In base → base.Ns mainGlobals mg → FnG P w K mg base k fa fd [x] sp) (hbind : ∀ (s : Shared) (u : Value), BindsTo s fd ⟨[u], []⟩ [(x, u)])
    (hsp : ∀ H : Hp, SqL K H a (ns.map V.int) → sp [.ref a] H (fun v _ => v = .bl true) E0) :
    codeAny (model P w) callerA (.call (.ref fa) ⟨[.ref a], []⟩) (fun r s' => r = .ok (.ret (.bool true)) ∧ OldK s₁.heap s'.heap ∧ s'.os = s₁.os ∧ AllBare s'.gens) s₁ := by
  have ivs := vals_ints hi
  -- what is tracked: the script, if the module does not hold it itself
  obtain ⟨H, seq, ok, only, free⟩ : ∃ H : Hp, SqL K H a (ns.map V.int) ∧ HOk P w H s₁.heap ∧ (∀ b u, H b = some u → b = a ∧ u = .frz { cls := .type "list", data := .seq vs.toArray } (.lst (ns.map V.int))) ∧ ∀ b u, H b = some u → K.lookup b = none := by
    cases look : K.lookup a with
    | some o =>
      have same := KX a o look
      rw [ha] at same
      injection same with same
      subst same
      have empty : ∀ {u : HO}, (none : Option HO) = some u → False := fun z => nomatch z
      refine ⟨fun _ => none, .inr ⟨_, vs.toArray, _, look, rfl, rfl, rfl, ?_, ?_⟩, fun b u z => (empty z).elim, fun b u z => (empty z).elim, fun b u z => (empty z).elim⟩
      · rw [List.size_toArray, hi.length]
        exact hl
      · simpa using ivs
    | none =>
      have at_a : ∀ b u, (fun b => if b = a then some (HO.frz { cls := .type "list", data := .seq vs.toArray } (.lst (ns.map V.int))) else none : Hp) b = some u → b = a ∧ u = .frz { cls := .type "list", data := .seq vs.toArray } (.lst (ns.map V.int)) := by
        intro b u z
        by_cases e : b = a
        · have z := (if_pos e).symm.trans z
          exact ⟨e, (Option.some.inj z).symm⟩
        · exact nomatch (if_neg e).symm.trans z
      refine ⟨_, .inl (.inr ⟨_, if_pos rfl⟩), fun b u z => ?_, at_a, fun b u z => ?_⟩
      · obtain ⟨rfl, rfl⟩ := at_a b u z
        exact ⟨ha, by rw [List.length_map]; exact hl, vs, _, ivs, ha⟩
      · rw [(at_a b u z).1]
        exact look
  have stays : ∀ {b : Addr} {o : Obj}, s₁.heap.get? b = some o → (∀ u, H b ≠ some u) → (hidT s₁.heap H).get? b = some o := fun {b o} e no => hidT_get e (by
    cases z : H b with
    | none => rfl
    | some u => exact (no u z).elim)
  have spaces : ∀ {b : Addr} {m : Str → Option Value}, s₁.heap.Ns b m → (hidT s₁.heap H).Ns b m := by
    rintro b m ⟨o, es, ep, there, data, rest⟩
    refine ⟨o, es, ep, stays there fun u z => ?_, data, rest⟩
    rw [(only b u z).1, ha] at there
    injection there with there
    subst there
    exact nomatch data
  have inn : K.In (hidT s₁.heap H) := fun b o e => stays (KX b o e) fun u z => by
    rw [free b u z] at e
    exact nomatch e
  have mod : Mod K mg (hidT s₁.heap H) := by
    obtain ⟨mc, c1, c2⟩ := hlim
    exact ⟨inn, spaces hns, ⟨mb, spaces hb, hbb⟩, mc, spaces c1, c2⟩
  have e0 : Env0 P w K mg (hidT s₁.heap H) callerA [] s₁ H := by
    refine ⟨rfl, mod, fun b o e => of_hidT e, Nat.le_of_eq (hidT_size _ _), trivial, ?_, ok, .of_eq hg⟩
    intro b q
    exact absurd q (List.not_mem_nil (a := b))
  refine codeAny_mono ((F _ inn (spaces hns)).run callerA [] s₁ H ⟨[.ref a], []⟩ [.ref a] [.ref a] _ _ rfl hr e0 (hbind s₁ (.ref a)) (.cons rfl .nil) (hsp H seq)) ?_
  rintro (e | out) s' got
  · exact got.elim
  · match out, got with
    | .next, got => exact got.elim
    | .brk, got => exact got.elim
    | .cont, got => exact got.elim
    | .ret u, ⟨v, H', os, bare, un, ok', rel, q⟩ =>
      have q : v = V.bl true := q
      subst q
      have rel : u = Value.bool true := rel
      subst rel
      refine ⟨rfl, .of_keep fun b o e => ?_, os, bare⟩
      cases z : H b with
      | none => exact un.keep b o e z (List.not_mem_nil (a := b)) (List.not_mem_nil (a := b))
      | some u =>
        obtain ⟨rfl, rfl⟩ := only b u z
        have now := (ok' _ _ (un.frzs _ _ _ z)).1
        rw [ha] at e
        injection e with e
        rw [← e]
        exact now
theorem walk_at_law {l : PySem.W.OpenLaw} {k : Nat} {q : Program} {loose : List Str} {XP : (Str → Option Value) → Heap → Prop} {YP : World → Heap → Prop} {d : DefRec} {K : Params → PySem.W.Frag} {sp : PySem.W.Frag → Sp} {x : Str}
    (hn : l.most = some 63) (hdf : d.params.defaults = []) (hr : Room k callerA) (hY : ∀ (w : World) (h : Heap), YP w h → (K w.params).In h)
    (F : ∀ (w : World) (mg : Str → Option Value) (fa : Addr) (h : Heap), (K w.params).In h → h.Ns mainGlobals mg → mg d.name = some (.ref fa) →
      ∃ fd : FuncData, (∀ (s : Shared) (u : Value), BindsTo s fd ⟨[u], []⟩ [(x, u)]) ∧ ∀ base : Heap, (K w.params).In base → base.Ns mainGlobals mg → FnG l.prog w (K w.params) mg base k fa fd [x] (sp (K w.params)))
    (hsp : ∀ (K : PySem.W.Frag) (H : Hp) (a : Addr) (ns : List Int), ns.length ≤ 63 → SqL K H a (ns.map V.int) → sp K [.ref a] H (fun v _ => v = .bl true) E0) :
    PySem.W.WalkO q loose XP YP l.row.toRowW d [] (fun f vs => PySem.call f vs) := by
  refine Att.attach_call hn hdf ?_
  intro w s₀ s₁ mg mb fa o pm cd doc a vs ns G Y ho hd hcd hmg hobj hints hlen hg
  obtain ⟨fd, bind, each⟩ := F w mg fa _ (hY w _ Y) G.T.g hmg
  exact law_at (hY w _ Y) G.T.g G.T.b G.T.builtins G.T.nolimit hg hobj hints (Nat.le_trans hlen (by decide)) hr each bind fun H sq => hsp (K w.params) H a ns hlen sq
end Sm

set_option Elab.async false
set_option linter.all false
set_option maxRecDepth 100000
set_option maxHeartbeats 4000000
namespace Sm
open PySem PySem.Spec PyProof.Rows L2
section
variable {P : Program} {w : World} {K : PySem.W.Frag} {mg : Str → Option Value} {base : Heap}
def Df (K : PySem.W.Frag) (mg : Str → Option Value) (x : Str) (st : Stmt) (ps : List Str) : Prop :=
  ∃ (f : Addr) (fd : FuncData), Fun K x x st f fd ∧ mg x = some (.ref f) ∧ Binds K fd ps []
def Cal (P : Program) (w : World) (K : PySem.W.Frag) (mg : Str → Option Value) (base : Heap) (x : Str) (ps : List Str) (k : Nat) (sp : Sp) : Prop :=
  ∃ (f : Addr) (fd : FuncData), FnOk P w K mg base CX0 k f fd ps sp ∧ mg x = some (.ref f) ∧ PySem.W.keepIn K (.ref f) = true ∧ Binds K fd ps []
theorem Df.cal {x : Str} {st : Stmt} {N ps : List Str} {k : Nat} {sp : Sp} (D : Df K mg x st ps) (S : FnScope N ps (defScope st)) (len : ∀ vs H Q E, sp vs H Q E → vs.length = ps.length)
    (hbody : ∀ (f : Addr) (cdv : Value) (A : Around) (outer : List Env) (s : Shared) (H : Hp) (vs : List V) (Q : VK) (E : XK), Room k (A.deeper (envOfC x (defScope st) s.heap.objs.size f cdv)) → sp vs H Q E →
      ∃ t, PSs (cxOf CX0 P w K mg base N x (defScope st) f cdv A outer s H E).nox (defBody st) t ∧ t { nx := fun _ H' => Q .non H', rt := Q } (start N vs) H) : Cal P w K mg base x ps (k + 1) sp := by
  obtain ⟨f, fd, F, m, b⟩ := D
  exact ⟨f, fd, F.ok S len (fun cdv A outer s H vs Q E hr h => hbody f cdv A outer s H vs Q E hr h), m, F.kp, b⟩
theorem same_upd {H : Hp} {p : Addr} {o : HO} (h : H p = none) : Same H (upd H p o) := fun b x e => by
  rw [upd_ne (ne_of_none e h)]
  exact e
theorem iteP {p A B : Prop} [Decidable p] (h : p) (a : A) : if decide p = true then A else B := by
  rw [decide_eq_true h]
  exact iteT a
theorem iteN {p A B : Prop} [Decidable p] (h : ¬ p) (b : B) : if decide p = true then A else B := by
  rw [decide_eq_false h]
  exact iteF b
theorem iteNP {p A B : Prop} [Decidable p] (h : p) (b : B) : if (!decide p) = true then A else B := by
  rw [decide_eq_true h]
  exact iteF b
theorem iteNN {p A B : Prop} [Decidable p] (h : ¬ p) (a : A) : if (!decide p) = true then A else B := by
  rw [decide_eq_false h]
  exact iteT a
theorem ite3 {p A B : Prop} [Decidable p] (h1 : p → A) (h2 : ¬ p → B) : if decide p = true then A else B := by
  by_cases h : p
  · exact iteP h (h1 h)
  · exact iteN h (h2 h)
theorem fmod_pos {a b : Int} (h : 0 < b) : a.fmod b = a % b := Int.fmod_eq_emod_of_nonneg a (by omega)
end
/-! ### the deck -/
structure Deck (H : Hp) (p l : Addr) (n : Int) : Prop where
  hp : H p = some (.lst [.ref l, .int n])
  hl : ∃ cells : List Int, H l = some (.lst (cells.map V.int)) ∧ (∀ c ∈ cells, 0 ≤ c) ∧ cells.length ≤ 63
theorem deck_ne {l : Addr} {n : Int} {cells : List Int} : HO.lst [.ref l, .int n] ≠ HO.lst (cells.map V.int) := by
  intro q
  injection q with q
  cases cells with
  | nil => cases q
  | cons c r => cases (List.cons.inj q).1
/-- all but the deck is as it was -/
def Fr (p l : Addr) (H H' : Hp) : Prop := ∀ b o, b ≠ p → b ≠ l → H b = some o → H' b = some o
theorem Fr.trans {p l : Addr} {H H1 H2 : Hp} (a : Fr p l H H1) (b : Fr p l H1 H2) : Fr p l H H2 := fun c o h1 h2 h => b c o h1 h2 (a c o h1 h2 h)
theorem Same.fr {p l : Addr} {H H' : Hp} (s : Same H H') : Fr p l H H' := fun b o _ _ h => s b o h
theorem Deck.same {H H' : Hp} {p l : Addr} {n : Int} (D : Deck H p l n) (s : Same H H') : Deck H' p l n := by
  obtain ⟨cells, hl, hc⟩ := D.hl
  exact ⟨s _ _ D.hp, cells, s _ _ hl, hc⟩
theorem Fr.tup {H H' : Hp} {p l b : Addr} {n : Int} {xs : List V} (f : Fr p l H H') (D : Deck H p l n) (h : H b = some (.tup xs)) : H' b = some (.tup xs) := by
  obtain ⟨cells, hl, hc⟩ := D.hl
  exact f b _ (ne_of h D.hp (by intro q; cases q)) (ne_of h hl (by intro q; cases q)) h
def sp_l_deck (K : PySem.W.Frag) : Sp := fun vs H Q _ => ∃ (a : Addr) (ns : List Int), vs = [.ref a] ∧ SqL K H a (ns.map V.int) ∧ ns.length ≤ 63 ∧ ∀ H' p l, Same H H' → Deck H' p l 0 → Q (.ref p) H'
def sp_l_draw (K : PySem.W.Frag) : Sp := fun vs H Q _ => ∃ (p l : Addr) (n m : Int), vs = [.ref p, .int m] ∧ Deck H p l n ∧ 0 ≤ n ∧ n ≤ 1000000 ∧ 0 < m ∧ m ≤ 1000000000000000000000000000000000000000000000000000000000000 ∧
  ∀ r H', 0 ≤ r → r < m → Fr p l H H' → Deck H' p l (n + 1) → Q (.int r) H'
def sp_l_one (K : PySem.W.Frag) : Sp := fun vs H Q _ => ∃ (p l b : Addr) (n : Int) (xs : List V), vs = [.ref p, .ref b] ∧ Deck H p l n ∧ 0 ≤ n ∧ n ≤ 1000000 ∧ H b = some (.lst xs) ∧ b ≠ p ∧ b ≠ l ∧ 0 < xs.length ∧ xs.length ≤ 1000 ∧
  ∀ x H', x ∈ xs → Fr p l H H' → Deck H' p l (n + 1) → Q x H'
theorem cut63 {ns : List Int} (h : ns.length ≤ 63) : cutV (ns.map V.int) none (some 63) = ns.map V.int := by
  unfold cutV
  rw [HT.sIx_none, show HT.sIx (ns.map V.int).length (ns.map V.int).length (some 63) = min 63 (ns.map V.int).length from HT.sIx_nat _ _ 63]
  rw [List.length_map, Nat.min_eq_right h, List.drop_zero]
  exact List.take_of_length_le (by rw [List.length_map]; omega)
def absI (n : Int) : Int := if n < 0 then -n else n
theorem absI_pos (n : Int) : 0 ≤ absI n := by
  unfold absI
  split <;> omega
theorem div_draw {c m : Int} (h0 : 0 < m) (h : m ≤ 1000000000000000000000000000000000000000000000000000000000000) : CDivW c m :=
  wide_div (b := 300) h0 (by omega) (by decide) (by decide)
theorem cut_all {xs : List V} {n : Nat} : cutV xs none (some (n : Int)) = xs.take n := by
  unfold cutV
  rw [HT.sIx_none, HT.sIx_nat, List.drop_zero, Nat.sub_zero]
  rcases Nat.le_total n xs.length with h | h
  · rw [Nat.min_eq_left h]
  · rw [Nat.min_eq_right h, List.take_length, List.take_of_length_le h]
theorem ne_new {H : Hp} {p b : Addr} {o : HO} (h : H p = some o) (n : H b = none) : b ≠ p := (ne_of_none h n).symm
/-- what the deck's second list is not -/
theorem Deck.lne {H : Hp} {p l b : Addr} {n : Int} (D : Deck H p l n) (h : H b = none) : b ≠ p ∧ b ≠ l := by
  obtain ⟨cells, hl, hc⟩ := D.hl
  exact ⟨ne_new D.hp h, ne_new hl h⟩
section
variable {X : Cx}
/-- repr of an int or None -/
theorem call_repr_some : CallR X (.builtin "repr") (fun xs H Q => (∃ i, xs = [.int i] ∧ i.natAbs.log2 < 1920 ∧ Q (.str (toString i)) H) ∨ (xs = [.non] ∧ Q (.str "None") H)) := by
  intro pins s σ H xs us Q I r h
  rcases h with ⟨i, rfl, hz, q⟩ | ⟨rfl, q⟩
  · obtain ⟨u, rfl, t, rfl⟩ := vals1 r
    exact PySem.P.repr_of_int hz ⟨.str _, H, I.tok _, ⟨_, rfl⟩, q⟩
  · obtain ⟨u, rfl, rfl⟩ := vals1 r
    exact PySem.P.repr_of_none ⟨.str _, H, I.tok _, ⟨_, rfl⟩, q⟩
def dataI (ns : List Int) : PyData := .list (ns.map PyData.int)
theorem dp_ints {K : PySem.W.Frag} {H : Hp} : ∀ ns : List Int, DpAll K H (ns.map V.int) (ns.map PyData.int)
  | [] => .nil
  | n :: ns => .cons (.int n) (dp_ints ns)
theorem showable_ints : ∀ {ns : List Int}, (∀ n ∈ ns, n.natAbs.log2 < 1920) → PyData.showableAll (ns.map PyData.int) = true
  | [], _ => rfl
  | n :: ns, h => by
    have a := h n (List.mem_cons_self ..)
    have b := showable_ints (ns := ns) fun m hm => h m (List.mem_cons_of_mem _ hm)
    simp only [List.map_cons, PyData.showableAll, PyData.showable, decide_eq_true a, b, Bool.and_self]
theorem hasDict_ints : ∀ ns : List Int, PyData.hasDictAll (ns.map PyData.int) = false
  | [] => rfl
  | n :: ns => by
    simp only [List.map_cons, PyData.hasDictAll, PyData.hasDict, hasDict_ints ns, Bool.or_self]
theorem depth_ints : ∀ ns : List Int, PyData.depthAll (ns.map PyData.int) ≤ 1
  | [] => by simp [PyData.depthAll]
  | n :: ns => by
    have := depth_ints ns
    simp only [List.map_cons, PyData.depthAll, PyData.depth]
    omega
theorem shown_ints : ∀ {ns : List Int}, (∀ n ∈ ns, n.natAbs.log2 < 1920) → ((PyData.shownAll (ns.map PyData.int)).map (·.length)).sum ≤ 1921 * ns.length ∧ (PyData.shownAll (ns.map PyData.int)).length = ns.length
  | [], _ => by simp [PyData.shownAll]
  | n :: ns, h => by
    have a := PyProof.Rows.int_text_len_1921 (h n (List.mem_cons_self ..))
    obtain ⟨b, c⟩ := shown_ints (ns := ns) fun m hm => h m (List.mem_cons_of_mem _ hm)
    simp only [List.map_cons, PyData.shownAll, PyData.shown, List.sum_cons, List.length_cons]
    omega
/-- repr of a list of ints -/
theorem call_repr_ints (gu : X.A.guards = some []) (room : ∃ k, Room k X.A) : CallR X (.builtin "repr") (fun xs H Q => ∃ a ns, xs = [.ref a] ∧ SqL X.K H a (ns.map V.int) ∧ ns.length ≤ 5000 ∧ (∀ n ∈ ns, n.natAbs.log2 < 1920) ∧ Q (.str (dataI ns).shown) H) := by
  intro pins s σ H xs us Q I r h
  obtain ⟨a, ns, rfl, hS, len, small, q⟩ := h
  refine call_repr_data gu room pins s σ H _ us Q I r ⟨a, dataI ns, rfl, .lst hS (dp_ints ns), ?_, ?_, ?_, ?_, q⟩
  · unfold dataI
    simp only [PyData.showable, showable_ints small]
  · unfold dataI
    simp only [PyData.hasDict, hasDict_ints]
  · have := depth_ints ns
    unfold dataI
    simp only [PyData.depth]
    omega
  · obtain ⟨s1, s2⟩ := shown_ints small
    have := listText_len_le (PyData.shownAll (ns.map PyData.int))
    unfold dataI
    simp only [PyData.shown]
    rw [sizeLine_eq]
    omega
end
end Sm

set_option Elab.async false
set_option linter.all false
set_option maxRecDepth 100000
set_option maxHeartbeats 4000000
namespace Sm
open PySem PySem.Spec PyProof.Rows L2
/-- isinstance of the exception that the suite holds, with its dict: one class, or a tuple of classes just laid -/
def rIsX (K : PySem.W.Frag) (cls : Value) (d : Option Addr) (a : Addr) : List V → Hp → VK → Prop := fun xs H Q => ∃ (D dd : Addr) (fs : List (Str × V)), cls = .ref D ∧ d = some dd ∧ H dd = some (.xd fs) ∧ ExcC K D ∧
  ((∃ (c : V) (cv : Value) (b : Bool), xs = [.ref a, c] ∧ ClsV c cv ∧ PySem.W.kitOne K (.ref D) cv = some b ∧ Q (.bl b) H) ∨
   ∃ (tp : Addr) (cs : List V) (us : List Value) (b : Bool), xs = [.ref a, .ref tp] ∧ H tp = some (.tup cs) ∧ Paired ClsV cs us ∧ PySem.W.kitAny K (.ref D) us = some b ∧ Q (.bl b) H)
theorem call_isX {X : Cx} {a : Addr} {cls : Value} {d : Option Addr} {oe : Obj} {pn : List (Addr × Obj)} (hz : Zc cls d oe) (hf : ∃ vs, oe.data = .fields vs) : CallR (X.suite a ((a, oe) :: pn)) (.builtin "isinstance") (rIsX X.K cls d a) := by
  intro pins s σ H xs us Q I r h
  obtain ⟨D, dd, fs, rfl, rfl, ea, C, h⟩ := h
  obtain ⟨ha, _⟩ := I.pin (a, oe) (List.mem_append_left _ List.mem_cons_self)
  obtain ⟨vs, hd⟩ := hf
  have hx : ObjOk X.prog X.w H s.heap dd (.xd fs) := I.hok dd _ ea
  obtain ⟨mA, hns, hr⟩ := hx
  obtain ⟨od, ho, hl⟩ := lookIn_ns hns
  have J : PySem.W.InstAt s.heap a oe D (some od) := ⟨ha, hz.1, by unfold PySem.W.notCls; rw [hd] <;> rfl, by rw [hz.2]; exact ho⟩
  obtain ⟨cd, hc, _⟩ := PySem.W.any_some C.hd
  have Z := PySem.W.kitx_exc (x := a) (ox := oe) (od := some od) (by rw [hc]; rfl) C.hg C.hk C.hs C.ha C.hn C.ht C.hm
  rcases h with ⟨c, cv, b, rfl, k, e, q⟩ | ⟨tp, cs, ws, b, rfl, hT, k, e, q⟩
  · obtain ⟨u1, u2, rfl, r1, r2⟩ := vals2 r
    cases (show u1 = Value.ref a from r1)
    cases k.eq r2
    exact PySem.W.kia_one Z I.kIn J e (fun z => nomatch z) fun tk => ⟨.bl b, H, I.kept (t' := tk) fun _ _ z => z, rfl, q⟩
  · obtain ⟨u1, u2, rfl, r1, r2⟩ := vals2 r
    cases (show u1 = Value.ref a from r1)
    cases (show u2 = Value.ref tp from r2)
    obtain ⟨_, its, rv, o, h1, h2, n, h3⟩ := (show ObjOk X.prog X.w H s.heap tp (.tup cs) from I.hok tp _ hT)
    have e3 := ClsV.all k rv
    subst e3
    obtain ⟨oc, od', dt, sl⟩ := o
    simp only at h2 h3
    subst h2 h3
    exact PySem.W.kia_tup Z I.kIn J h1 e (fun z => nomatch z) fun tk => ⟨.bl b, H, I.kept (t' := tk) fun _ _ z => z, rfl, q⟩
theorem kit_own {K : PySem.W.Frag} {D C : Addr} {b : Bool} (h1 : PySem.W.isClsIn K C = true) (h2 : PySem.W.typeIn K (.ref C) = some (.type "type")) (h3 : PySem.W.subIn K (.ref D) (.ref C) = some b) (h4 : PySem.W.subIn K (.ref D) (.ref D) = some true) : PySem.W.kitOne K (.ref D) (.ref C) = some b := by
  unfold PySem.W.kitOne
  by_cases e : D = C
  · subst e
    rw [h4] at h3
    rw [if_pos (beq_self_eq_true _)]
    exact h3
  · rw [if_neg (fun q => e (Value.ref.inj (beq_iff_eq.mp q)))]
    have h1' : (PySem.W.clsIn K C).isSome = true := h1
    have z : ((PySem.W.clsIn K C).isSome && PySem.W.typeIn K (.ref C) == some (.type "type")) = true := by rw [h1', h2] <;> rfl
    show (if ((PySem.W.clsIn K C).isSome && PySem.W.typeIn K (.ref C) == some (.type "type")) = true then PySem.W.subIn K (.ref D) (.ref C) else none) = some b
    rw [if_pos z]
    exact h3
theorem kit_valerr {K : PySem.W.Frag} {D : Addr} {b : Bool} (h : PySem.W.subIn K (.ref D) (.type "ValueError") = some b) : PySem.W.kitOne K (.ref D) (.type "ValueError") = some b := by
  have q : ((Value.ref D) == (Value.type "ValueError")) = false := beq_eq_false_iff_ne.mpr fun z => nomatch z
  unfold PySem.W.kitOne
  rw [if_neg (by rw [q]; exact Bool.false_ne_true)]
  show (if PySem.W.kitMeta "ValueError" = true then PySem.W.subIn K (.ref D) (.type "ValueError") else none) = some b
  rw [if_pos (by decide +kernel)]
  exact h
theorem kit_cons_false {K : PySem.W.Frag} {t c : Value} {cs : List Value} {b : Bool} (h : PySem.W.kitOne K t c = some false) (hr : PySem.W.kitAny K t cs = some b) : PySem.W.kitAny K t (c :: cs) = some b := by
  unfold PySem.W.kitAny
  rw [h]
  exact hr
/-- an own exception class with one field, made by its own __init__ -/
structure XcTxt (K : PySem.W.Frag) (mg : Str → Option Value) (nm fl : Str) (C fI : Addr) : Prop where
  g : mg nm = some (.ref C)
  oex : OexC K C
  no : PySem.W.findIn K (.ref C) fl = some none
  iC : PySem.W.findIn K (.ref C) "__init__" = some (some (.ref fI))
  tI : PySem.W.typeIn K (.ref fI) = some (.type "function")
  xf : XfC K C
  ec : ExcC K C
/-- C(e), told plainly: the new exception's dict holds the field -/
def tMkF (C : Addr) (fl : Str) (ta : TA) : L2.St → Hp → XK → Prop := fun σ H Q => ta σ H fun vs H1 => ∃ v, vs = [v] ∧ ∀ d, H1 d = none → Q (.ref C) (some d) (upd H1 d (.xd [(fl, v)]))
def sp_init (K : PySem.W.Frag) (fl : Str) : Sp := fun vs H Q _ => ∃ (a C : Addr) (v : V), vs = [.ref a, v] ∧ OexC K C ∧ PySem.W.findIn K (.ref C) fl = some none ∧ H a = some (exo a C none) ∧ ∀ dx, H dx = none → dx ≠ a → Q .non (upd (upd H dx (exd dx [(fl, v)])) a (exo a C (some dx)))
theorem xc_mk {C : Addr} {fl : Str} {K : PySem.W.Frag} {ta : TA} {σ : L2.St} {H : Hp} {Q : XK} (T : OexC K C) (no : PySem.W.findIn K (.ref C) fl = some none)
    (h : ta σ H fun vs H1 => ∃ v, vs = [v] ∧ ∀ d H2, Same H1 H2 → H2 d = some (.xd [(fl, v)]) → Q (.ref C) (some d) H2) (mono : ∀ {A B : List V → Hp → Prop}, (∀ vs H1, A vs H1 → B vs H1) → ta σ H A → ta σ H B) : tMkO C (sp_init K fl) [] ta σ H Q := by
  refine mono ?_ h
  rintro vs H1 ⟨v, rfl, k⟩
  refine ⟨by show 1 ≤ 1000; decide, fun a na => ⟨a, C, v, rfl, T, no, upd_same, fun dx nd da => ⟨rfl, dx, [(fl, v)], upd_same, ?_, ?_, ?_⟩⟩⟩
  · rw [upd_ne da, upd_same]
  · rw [upd_ne da] at nd
    exact nd
  · have nd1 : H1 dx = none := by
      rw [upd_ne da] at nd
      exact nd
    refine k dx _ (fun b o hb => ?_) upd_same
    rw [upd_ne (ne_of_none hb nd1), del_ne (ne_of_none hb na), upd_ne (ne_of_none hb na), upd_ne (ne_of_none hb nd1), upd_ne (ne_of_none hb na)]
    exact hb
end Sm

set_option Elab.async false
set_option linter.all false
set_option maxRecDepth 100000
set_option maxHeartbeats 4000000
namespace Sm
open PySem PySem.Spec PyProof.Rows L2
/-! ### own exception classes over LookupError, whose __init__ stores one field -/
abbrev luTail : List Value := [.type "LookupError", .type "Exception", .type "BaseException", .type "object"]
/-- what the written part says of such a class -/
structure OexL (K : PySem.W.Frag) (C : Addr) : Prop where
  obj : ∃ nm q N bs bm sn sub ab col dd k0 k1 k2 k3 k5, K.lookup C = some (excClassObj nm q C N bs bm true sn sub ab col dd k0 k1 k2 k3 k5 "LookupError.__new__") ∧ PySem.W.excTail luTail bm = true
  facts : PySem.W.findIn K (.ref C) "__setattr__" = some (some (.builtin "object.__setattr__")) ∧ PySem.W.subIn K (.ref C) (.type "BaseException") = some true ∧ PySem.W.typeIn K (.ref C) = some (.type "type") ∧ PySem.W.keepIn K (.ref C) = true
section
open Builtin Builtin.ObjectAttr
variable {prog : Program} {w : World} {A : Around} {hp : Heap} {g : Array GenState} {dw : Drawn} {t : Nat} {os : OsState} {R : Result → Shared → Prop}
/-- object.__setattr__(x, name, v), x an exception without a dict whose class stands over a built-in one -/
theorem lu_store {K : PySem.W.Frag} {B : String} {bmB : List Value} {name : Str} {tk : Tok} {v : Value} {x C : Addr} {fv : Array Value} {cd : ClassData} (SF : StoreFacts B bmB "object.__setattr__" "object")
    (kin : K.In hp) (there : hp.get? x = some { cls := .ref C, data := .fields fv }) (known : PySem.W.clsIn K C = some cd) (over : PySem.W.excOver K C bmB = true) (dict : cd.hasDict = true) (no : PySem.W.findIn K (.ref C) name = some none)
    (told : ∀ h' tk' dx, (∀ b o, b ≠ x → hp.get? b = some o → h'.get? b = some o) → hp.objs.size ≤ dx → dx ≠ x → h'.get? x = some { cls := .ref C, dict := some dx, data := .fields fv } → h'.Ns1 dx (fun y => if y = name then some v else none) → R (.ok (.ret .none)) ⟨h', g, dw, tk', os⟩) :
    codeAny (model prog w) A (.call (.builtin "object.__setattr__") ⟨[.ref x, .str name tk, v], []⟩) R ⟨hp, g, dw, t, os⟩ := by
  have at_ : PySem.W.InstAt hp x { cls := .ref C, data := .fields fv } C none := ⟨there, rfl, rfl, trivial⟩
  have taker : PySem.W.takerIn K C name = some none := by unfold PySem.W.takerIn; rw [no]; rfl
  refine PySem.W.osa_openX (s := ⟨hp, g, dw, t, os⟩) SF kin at_ over taker fun b => ?_
  have apart : x ≠ hp.objs.size := Nat.ne_of_lt (Heap.lt_size there)
  have kls : PySem.W.Looks (model prog w) hp (classData C) cd := PySem.W.looks_clsIn kin known
  show wpAny _ _ (storeInOwnDict (.ref x) (.ref C) (.str name tk) name v b) _ _ _
  obtain ⟨n1, n2, n3, n4, n5, hd, n6, n7, n8, n9, n10⟩ := cd
  dsimp only at dict
  subst dict
  unfold storeInOwnDict ownDictForStores
  repeat (first | with_reducible refine PySem.HandSPX.store_in_new ?_ ?_ | with_reducible refine wpAny_loadPart_at there ?_ | with_reducible refine kls.at ?_ | wp_step)
  · exact ⟨_, #[], _, (Heap.get?_update_ne _ _ _ _ apart.symm).trans (Heap.get?_push_at rfl rfl), rfl, fun e he => absurd he (by simp), fun _ => rfl⟩
  · intro h' tk' names same
    have on : (hp.push { cls := .type "dict", data := .dict #[] }).get? x = some { cls := .ref C, data := .fields fv } := Heap.get?_push_of_some _ there
    refine told h' tk' hp.objs.size (fun b o hb ho => (same.2 b (Nat.ne_of_lt (Heap.lt_size ho))).trans ((Heap.get?_update_ne _ _ _ _ hb).trans (Heap.get?_push_of_some _ ho))) (Nat.le_refl _) apart.symm ((same.2 x apart).trans (Heap.get?_update_self _ on rfl)) names
end
/-- the abstract heap once the first field of the exception at a stands in its new dict at dx -/
theorem lu_un {fs : List Addr} {H : Hp} {hp h' : Heap} {a C dx : Addr} {f : Str} {y : V} (ea : H a = some (exo a C none)) (dn : hp.objs.size ≤ dx) (nd : H dx = none) (there : ∃ o, h'.get? a = some o)
    (keep : ∀ b o, b ≠ a → hp.get? b = some o → h'.get? b = some o) : Un fs [] H (upd (upd H dx (exd dx [(f, y)])) a (exo a C (some dx))) hp h' := by
  have other : ∀ {b : Addr}, H b = none → b ≠ a := fun {b} n z => by rw [z, ea] at n; cases n
  have young : ∀ {b : Addr} {o : Obj}, hp.get? b = some o → b ≠ dx := fun {b o} q => Nat.ne_of_lt (Nat.lt_of_lt_of_le (Heap.lt_size q) dn)
  constructor
  · intro b o q n _ _
    exact keep b o (other n) q
  · intro b o q n _ _
    exact ⟨o.slots, keep b o (other n) q⟩
  · intro b o q n _
    rw [upd_ne (other n), upd_ne (young q)]
    exact n
  · intro b o q _
    by_cases hb : b = a
    · subst hb; exact there
    · exact ⟨o, keep b o hb q⟩
  · intro b xs q
    rw [upd_ne (at_ne ea q exo_tup), upd_ne (ne_of_none q nd)]; exact q
  · intro b o v q
    rw [upd_ne (at_ne ea q exo_frz), upd_ne (ne_of_none q nd)]; exact q
  · intro b ps q
    exact ⟨#[], by rw [upd_ne (at_ne ea q exo_tbl), upd_ne (ne_of_none q nd), q]; simp⟩
section
variable {X : Cx} {pins : List (Addr × Obj)} {σ : L2.St} {H : Hp} {s : Shared} {a C : Addr} {f : Str} {y : V} {u : Value} {Q : Unit → Shared → Prop} {E : Value → Shared → Prop} {A : Around}
theorem lu_cls {K : PySem.W.Frag} {C : Addr} (T : OexL K C) : ∃ cd, PySem.W.clsIn K C = some cd ∧ cd.hasDict = true ∧ PySem.W.excOver K C luTail = true := by
  obtain ⟨nm, q, N, bs, bm, sn, sub, ab, col, dd, k0, k1, k2, k3, k5, hC, hbm⟩ := T.obj
  have known : PySem.W.clsIn K C = some { name := nm, bases := bs, mro := .ref C :: bm, ns := N, qualname := q, hasDict := true, slotNames := sn, subclasses := sub, abstract := ab, collection := col, hasDel := false } := by unfold PySem.W.clsIn; rw [hC] <;> rfl
  refine ⟨_, known, rfl, ?_⟩
  unfold PySem.W.excOver
  rw [known]
  show (C == C && PySem.W.excTail luTail bm) = true
  rw [hbm, beq_self_eq_true]
  rfl
/-- self.f = y in __init__ -/
theorem lu_ost (T : OexL X.K C) (I : Inv X pins σ H s) (e : H a = some (exo a C none)) (no : PySem.W.findIn X.K (.ref C) f = some none) (ry : RelV y u)
    (h : ∀ dx s', H dx = none → dx ≠ a → Inv X pins σ (upd (upd H dx (exd dx [(f, y)])) a (exo a C (some dx))) s' → Q () s') : wpAny (model X.prog X.w) A (setAttr (.ref a) f u) Q E s := by
  obtain ⟨cd, known, dict, over⟩ := lu_cls T
  obtain ⟨t1, ho⟩ := exo_at I.hok e
  obtain ⟨hp, g, d, t, os⟩ := s
  refine PySem.W.set_plain I.kIn (od := none) ⟨ho, rfl, rfl, trivial⟩ T.facts.1 (lu_store PySem.F.store_LookupError I.kIn ho known over dict no fun h' tk' dx k dn dne hx hn => ?_)
  have nd : H dx = none := I.hok.fresh dn
  refine h dx _ nd dne (I.un (t' := tk') (lu_un e dn nd ⟨_, hx⟩ k) fun b o q => ?_)
  by_cases hb : b = a
  · subst hb
    rw [upd_same] at q; cases q
    exact exo_ok hx
  rw [upd_ne hb] at q
  by_cases hd : b = dx
  · subst hd
    rw [upd_same] at q; cases q
    exact exd_ok hn (relO_put (fs := []) ry fun g => True.intro)
  rw [upd_ne hd] at q
  refine (I.hok b o q).stay (fun c v hc z => k c v ?_ z) (fun c hc => ?_) (fun c xs hc => ?_)
  · rcases hc with hc | hc
    · rw [hc]; exact hb
    · exact at_ne e hc exo_own
  · rw [upd_ne (at_ne e hc exo_own), upd_ne (ne_of_none hc nd)]; exact hc
  · rw [upd_ne (at_ne e hc exo_tup), upd_ne (ne_of_none hc nd)]; exact hc
end
/-- self.f = e -/
def tOsL (K : PySem.W.Frag) (f : Str) (to te : TE) : TS := fun D σ H => te σ H fun y H1 => to σ H1 fun x H2 => ∃ a C : Addr, x = .ref a ∧ OexL K C ∧ PySem.W.findIn K (.ref C) f = some none ∧ H2 a = some (exo a C none) ∧ ∀ dx, H2 dx = none → dx ≠ a → D.nx σ (upd (upd H2 dx (exd dx [(f, y)])) a (exo a C (some dx)))
section
variable {X : Cx} {o e : Expr} {es : List Expr} {to te : TE} {ta : TA} {f : Str} {p p' pos : Pos}
theorem ps_osL (ho : PE X o to) (he : PE X e te) (hs : swapsWith e (some (.Attribute o f p')) pos.line X.env = pure false := by rfl) : PS X (.Assign [.Attribute o f p'] e pos) (tOsL X.K f to te) := by
  refine ⟨fun pins s σ H D I h => plainObj_wpAny_Assign_Attribute (thn (he.run pins s σ H _ I h) ?_) hs⟩
  rintro v s1 ⟨y, H1, I1, r1, q1⟩
  refine thn (ho.run pins s1 σ H1 _ I1 q1) ?_
  rintro u s2 ⟨x, H2, I2, r2, a, C, rfl, T, no, ea, q⟩
  obtain rfl : u = Value.ref a := r2
  exact lu_ost T I2 ea no r1 fun dx s' n ne J => ⟨σ, _, J, q dx n ne⟩
/-- C(e) -/
theorem pmk_oexL {CX : CXT} {x : Str} {C fI : Addr} {k : Nat} {fd : FuncData} {ps : List Str} {sp : Sp} (T : OexL X.K C) (iC : PySem.W.findIn X.K (.ref C) "__init__" = some (some (.ref fI))) (tI : PySem.W.typeIn X.K (.ref fI) = some (.type "function"))
    (F1 : FnOk X.prog X.w X.K X.mg X.base CX k fI fd ps sp) (hr : Room (k + 1) X.A) (hb : Binds X.K fd ps []) (hx : Passes CX X (fun _ _ _ => False)) (hg : Gl X x) (hm : X.mg x = some (.ref C)) (ha : PA X (e :: es) ta)
    (hdb : (x == ("__debug__" : Str)) = false := by decide) (he : starEach (e :: es) X.env = (false, eval e X.env) :: starEach es X.env := by rfl) (hpl : (backTo pos (starEach es X.env)).any (·.1) = false := by rfl) :
    PMk X (.Call (.Name x p) (e :: es) [] pos) (tMkO C sp [] ta) := by
  intro pins s σ H Q I h
  obtain ⟨nm, q, N, bs, bm, sn, sub, ab, col, dd, k0, k1, k2, k3, k5, hC, hbm⟩ := T.obj
  obtain ⟨_, exc, typ, keep⟩ := T.facts
  refine wpAny_Call_Name_kw (ld_glob I hg hm (PySem.W.callWith_K (h₀ := X.base) I.ok.mod.kin keep (thn (ha.run pos pins s σ H _ I h) ?_) he hpl) hdb)
  rintro us s1 ⟨vs, H1, I1, r1, hz, q1⟩
  refine ⟨I1.kIn, ?_⟩
  show wpAny _ _ (call (.ref C) us) _ _ _
  obtain ⟨hp, g, dr, tk, os⟩ := s1
  generalize hn : hp.objs.size = n
  have old : hp.objs.size ≤ n + 1 := by omega
  have hq := q1 (n + 1) (I1.hok.fresh old)
  have kk : ∀ b o, hp.get? b = some o → ((hp.push (PySem.W.kdv_tup us)).push (PySem.HandSPX.excO C n)).get? b = some o := fun b o e => Heap.get?_push_of_some _ (Heap.get?_push_of_some _ e)
  have got : ((hp.push (PySem.W.kdv_tup us)).push (PySem.HandSPX.excO C n)).get? (n + 1) = some (PySem.HandSPX.excO C n) := by subst hn; heap_get
  have I2 : Inv X pins σ (upd H1 (n + 1) (exo (n + 1) C none)) ⟨(hp.push (PySem.W.kdv_tup us)).push (PySem.HandSPX.excO C n), g, dr, tk, os⟩ := I1.laid (t' := tk) (o := exo (n + 1) C none) kk old (exo_ok got)
  have r2 : Vals (V.ref (n + 1) :: (vs ++ [])) (Value.ref (n + 1) :: us) := .cons rfl (by rw [List.append_nil]; exact r1)
  have long : (Value.ref (n + 1) :: us).length = ps.length := r2.length.symm.trans (F1.len _ _ _ _ hq)
  have few : us.length ≤ sizeLine := by rw [← Paired.length r1, sizeLine_eq]; omega
  have ran := F1.run _ X.stack _ _ ⟨Value.ref (n + 1) :: us, []⟩ (Value.ref (n + 1) :: us) _ _ (fun _ _ _ => False) (hr.make C us []) (I2.env0.make C us []) (by have b := hb ⟨(hp.push (PySem.W.kdv_tup us)).push (PySem.HandSPX.excO C n), g, dr, tk, os⟩ (Value.ref (n + 1) :: us) I2.kIn (by rw [List.append_nil]; exact long); rw [List.append_nil] at b; exact b) r2 hq
  subst hn
  refine wpAny_call (PySem.HandSPX.call_own PySem.F.excBase_LookupError (fun Y => PySem.W.excTail_contains Y bm hbm) (I1.kIn _ _ hC) (PySem.W.looks_findIn I1.kIn iC) (fun self => PySem.W.bind_fn I1.kIn self tI) few (codeAny_mono ran ?_))
  rintro (er | fl) s' hq'
  · exact hx pins σ _ _ er s' I2 hq'
  match fl, hq' with
  | .next, z => exact False.elim z
  | .brk, z => exact False.elim z
  | .cont, z => exact False.elim z
  | .ret u, ⟨v, H2, os2, bare2, un2, hok2, rv, ev, d, fs, ea, ed, hd1, q2⟩ =>
    subst ev
    obtain ⟨h2, g2, d2, t2, os'⟩ := s'
    exact ⟨rv, mk_end (raises_own exc typ) I1 old kk un2 hok2 os2 bare2 ea ed hd1 q2⟩
end
/-- __init__(self, f): self.f = f -/
def sp_initL (K : PySem.W.Frag) (fl : Str) : Sp := fun vs H Q _ => ∃ (a C : Addr) (v : V), vs = [.ref a, v] ∧ OexL K C ∧ PySem.W.findIn K (.ref C) fl = some none ∧ H a = some (exo a C none) ∧ ∀ dx, H dx = none → dx ≠ a → Q .non (upd (upd H dx (exd dx [(fl, v)])) a (exo a C (some dx)))
theorem xc_mkL {C : Addr} {fl : Str} {K : PySem.W.Frag} {ta : TA} {σ : L2.St} {H : Hp} {Q : XK} (T : OexL K C) (no : PySem.W.findIn K (.ref C) fl = some none)
    (h : ta σ H fun vs H1 => ∃ v, vs = [v] ∧ ∀ d H2, Same H1 H2 → H2 d = some (.xd [(fl, v)]) → Q (.ref C) (some d) H2) (mono : ∀ {A B : List V → Hp → Prop}, (∀ vs H1, A vs H1 → B vs H1) → ta σ H A → ta σ H B) : tMkO C (sp_initL K fl) [] ta σ H Q := by
  refine mono ?_ h
  rintro vs H1 ⟨v, rfl, k⟩
  refine ⟨by show 1 ≤ 1000; decide, fun a na => ⟨a, C, v, rfl, T, no, upd_same, fun dx nd da => ⟨rfl, dx, [(fl, v)], upd_same, ?_, ?_, ?_⟩⟩⟩
  · rw [upd_ne da, upd_same]
  · rw [upd_ne da] at nd
    exact nd
  · have nd1 : H1 dx = none := by
      rw [upd_ne da] at nd
      exact nd
    refine k dx _ (fun b o hb => ?_) upd_same
    rw [upd_ne (ne_of_none hb nd1), del_ne (ne_of_none hb na), upd_ne (ne_of_none hb na), upd_ne (ne_of_none hb nd1), upd_ne (ne_of_none hb na)]
    exact hb
theorem kit_typ {K : PySem.W.Frag} {D : Addr} {b : Bool} {n : String} (hm : PySem.W.kitMeta n = true) (h : PySem.W.subIn K (.ref D) (.type n) = some b) : PySem.W.kitOne K (.ref D) (.type n) = some b := by
  have q : ((Value.ref D) == (Value.type n)) = false := beq_eq_false_iff_ne.mpr fun z => nomatch z
  unfold PySem.W.kitOne
  rw [if_neg (by rw [q]; exact Bool.false_ne_true)]
  show (if PySem.W.kitMeta n = true then PySem.W.subIn K (.ref D) (.type n) else none) = some b
  rw [if_pos hm]
  exact h
end Sm

set_option Elab.async false
set_option linter.all false
set_option maxRecDepth 100000
set_option maxHeartbeats 4000000
namespace Sm
open PySem PySem.Spec PyProof.Rows L2 LamX
/-- told: try: return a() / except e as n: a suite that is told by ts -/
def TAs (K : PySem.W.Frag) (CS : Addr) (Ng : List Str) (i : Nat) (ts : Addr → Value → Option Addr → TS) : (XK → Hp → VK → Prop) → Hp → VK → Prop := fun tl H Q =>
  tl (fun cls d H' => ∃ b, PySem.W.exmOne K cls (.ref CS) = some b ∧ (b = true → ∀ (σ : L2.St) (c : Addr), σ.length = Ng.length → H' c = none → ts c cls d { nx := fun _ H2 => Q .non H2, rt := Q } (σ.set i (some (.ref c))) H') ∧ (b = false → False)) H Q
theorem set_read {σ : L2.St} {N : List Str} {n : Str} {i : Nat} {v : V} (h : σ.length = N.length) (hi : N[i]? = some n) : (σ.set i (some v))[i]? = some (some v) := by
  have := (List.getElem?_eq_some_iff.mp hi).1
  rw [List.getElem?_set_self (by omega)]
/-- where an exception is taken, all slots are there -/
theorem takes_len {X : Cx} {W : WX} (t : Takes X W) : Takes X (fun cls d σ H => σ.length = X.N.length → W cls d σ H) := fun u s' z => by
  obtain ⟨a, B, sI, pins, σ, H, cls, d, e, I, nb, up, sky, na, os, ag, w⟩ := z
  exact t u s' ⟨a, B, sI, pins, σ, H, cls, d, e, I, nb, up, sky, na, os, ag, w I.len⟩
section
variable {X : Cx} {Ng : List Str} {x a e n q : Str} {sg : Scope} {g CS : Addr} {cdg : Value} {i : Nat} {b₀ : Stmt} {suite : List Stmt} {p1 p2 p3 p4 p5 p6 : Pos} {ts : Addr → Value → Option Addr → TS}
/-- the def that calls what it got and holds the exception in a suite of its own -/
theorem as_gives (hge : sg.names.lookup e = some .globalImplicit) (hme : X.mg e = some (.ref CS)) (hde : (e == ("__debug__" : Str)) = false) (h0 : ∀ f : Addr, (L2.start Ng [V.ref f])[0]? = some (some (V.ref f))) (nd : Ng.Nodup) (hi : Ng[i]? = some n)
    (hln : ∀ (s : Shared) (H : Hp), (cxOf C8.CX0 X.prog X.w X.K X.mg X.base Ng x sg g cdg X.A X.stack s H C8.E0).nox.env.kindOf n = some .local)
    (hsu : ∀ (s : Shared) (H : Hp) (c : Addr) (oe : Obj) (cls : Value) (d : Option Addr) (pn : List (Addr × Obj)), Zc cls d oe → (∃ vs, oe.data = .fields vs) → PSs ((cxOf C8.CX0 X.prog X.w X.K X.mg X.base Ng x sg g cdg X.A X.stack s H C8.E0).nox.suite c ((c, oe) :: pn)) (b₀ :: suite) (ts c cls d)) :
    GivesTo X Ng x sg g cdg [.Try [.Return (some (.Call (.Name a p1) [] [] p2)) p3] [.ExceptHandler (some (.Name e p4)) (some n) (b₀ :: suite) p5] [] [] p6] a q (TAs X.K CS Ng i ts) := by
  intro f c' s H Q tl act known told
  let Z := (cxOf C8.CX0 X.prog X.w X.K X.mg X.base Ng x sg g cdg X.A X.stack s H C8.E0).nox
  have glob : Gl Z e := hge
  let body : WX → TS := fun W D σ H1 => ∃ out : XK, (∀ cls d (σ' : L2.St) H', out cls d H' → σ'.length = Ng.length → W cls d σ' H') ∧ σ[0]? = some (some (.ref f)) ∧ H1 c' = some (CodeO c' q) ∧ tl out H1 D.rt
  have inner : ∀ (W : WX) (pn : List (Addr × Obj)) (xe : Value → Shared → Prop), Takes (Z.tr pn xe) W → PassesOwn (model Z.prog Z.w) Z.A Z.env xe → PSs (Z.tr pn xe) [.Return (some (.Call (.Name a p1) [] [] p2)) p3] (body W) := by
    intro W pn xe tk _
    refine ⟨fun pins s' σ H' D I told' => ?_⟩
    obtain ⟨out, hW, h1, h2, h3⟩ := told'
    exact (pss_one (ps_ret (pos := p3) (act _ pn xe out p1 p2 (takes_len tk) hW))).run pins s' σ H' D I ⟨h1, h2, h3⟩
  refine ⟨_, pss_one (ps_try_as (X := Z) (c := .ref CS) (i := i) (tb := body) (ts := ts) (Wout := fun _ _ _ _ => False) rfl rfl nd hi (hln s H) ⟨glob, hde, .inl hme⟩ L2.takes0 inner (fun c oe cls d pn hz hf => hsu s H c oe cls d pn hz hf)), ?_⟩
  exact ⟨_, fun cls d σ' H' w len => by
    obtain ⟨b, e1, e2, e3⟩ := w
    exact ⟨b, e1, fun hb c nc => e2 hb σ' c len nc, fun hb => e3 hb⟩, h0 f, known, told⟩
end
end Sm

set_option Elab.async false
set_option linter.all false
set_option maxRecDepth 100000
set_option maxHeartbeats 4000000
namespace Sm
open PySem PySem.Spec PyProof.Rows L2
/-! ### values of all kinds as data, dicts with text keys and ints too -/
def kD : Key → PyData
  | .inl i => .int i
  | .inr x => .str x
mutual
inductive Dq (K : PySem.W.Frag) (H : Hp) : V → PyData → Prop
  | non : Dq K H .non .none
  | bl (b : Bool) : Dq K H (.bl b) (.bool b)
  | int (i : Int) : Dq K H (.int i) (.int i)
  | str (x : Str) : Dq K H (.str x) (.str x)
  | lst {a : Addr} {xs : List V} {ds : List PyData} : H a = some (.lst xs) → (a == sysModules) = false → DqAll K H xs ds → Dq K H (.ref a) (.list ds)
  | tup {a : Addr} {xs : List V} {ds : List PyData} : H a = some (.tup xs) → DqAll K H xs ds → Dq K H (.ref a) (.tuple ds)
  | dic {a : Addr} (kvs : List (Key × Int)) : H a = some (.dK (kvs.map fun q => (q.1, V.int q.2))) → Dq K H (.ref a) (.dict (kvs.map fun q => (kD q.1, PyData.int q.2)))
inductive DqAll (K : PySem.W.Frag) (H : Hp) : List V → List PyData → Prop
  | nil : DqAll K H [] []
  | cons {v : V} {vs : List V} {d : PyData} {ds : List PyData} : Dq K H v d → DqAll K H vs ds → DqAll K H (v :: vs) (d :: ds)
end
mutual
theorem Dq.mono {K : PySem.W.Frag} {H H' : Hp} (e : ∀ b o, H b = some o → H' b = some o) : ∀ (d : PyData) (v : V), Dq K H v d → Dq K H' v d
  | .none, _, h => by cases h; exact .non
  | .bool b, _, h => by cases h; exact .bl b
  | .int i, _, h => by cases h; exact .int i
  | .str x, _, h => by cases h; exact .str x
  | .list ds, _, h => by
    cases h with
    | lst hs ne ha => exact .lst (e _ _ hs) ne (Dq.monoAll e ds _ ha)
  | .tuple ds, _, h => by
    cases h with
    | tup hs ha => exact .tup (e _ _ hs) (Dq.monoAll e ds _ ha)
  | .dict _, _, h => by
    cases h with
    | dic kvs hk => exact .dic kvs (e _ _ hk)
theorem Dq.monoAll {K : PySem.W.Frag} {H H' : Hp} (e : ∀ b o, H b = some o → H' b = some o) : ∀ (ds : List PyData) (vs : List V), DqAll K H vs ds → DqAll K H' vs ds
  | [], _, h => by cases h; exact .nil
  | d :: ds, _, h => by
    cases h with
    | cons h1 h2 => exact .cons (Dq.mono e d _ h1) (Dq.monoAll e ds _ h2)
end
theorem Dq.same {K : PySem.W.Frag} {H H' : Hp} {v : V} {d : PyData} (h : Dq K H v d) (s : Same H H') : Dq K H' v d := Dq.mono (fun b o => s b o) d v h
section
variable {X : Cx} {pins : List (Addr × Obj)} {σ : L2.St} {H : Hp} {s : Shared}
theorem dic_keys {h : Heap} {P : Program} {w : World} : ∀ {es : List DictEntry} {vs : List (Key × Value)} {kvs : List (Key × Int)}, Pairs (mixKind P w) es vs → KV (kvs.map fun q => (q.1, V.int q.2)) vs →
    ReadsAll h (es.map (·.key)) (kvs.map fun q => kD q.1) [] ∧ ReadsAll h (es.map (·.val)) (kvs.map fun q => PyData.int q.2) []
  | [], _, kvs, .nil, r => by
    cases kvs with
    | nil => exact ⟨.nil, .nil⟩
    | cons a b => exact nomatch r
  | e :: es, _, kvs, .cons h1 h2 h3, r => by
    cases kvs with
    | nil => exact nomatch r
    | cons a b =>
      cases r with
      | cons r1 r2 =>
        obtain ⟨q1, q2⟩ := dic_keys (h := h) h3 r2
        obtain ⟨g1, g2⟩ := r1
        have g1 : a.1 = _ := g1
        have g2 : RelV (V.int a.2) _ := g2
        obtain ⟨t, g2⟩ := g2
        refine ⟨?_, ?_⟩
        · have hk : Reads h e.key (kD a.1) [] := by
            rcases keyIs_shape h1 with ⟨i, t, e1, e2⟩ | ⟨x, t, e1, e2⟩
            · rw [g1, e2, e1]
              exact .int i t
            · rw [g1, e2, e1]
              exact .str x t
          exact .cons hk q1
        · have hv : Reads h e.val (.int a.2) [] := by
            rw [h2, g2]
            exact .int _ t
          exact .cons hv q2
mutual
theorem Dq.reads (I : Inv X pins σ H s) : ∀ (d : PyData) (v : V) (u : Value), Dq X.K H v d → RelV v u → ∃ as, Reads s.heap u d as ∧ sysModules ∉ as
  | .none, _, _, h, r => by
    cases h
    cases r
    exact ⟨_, Reads.none, List.not_mem_nil⟩
  | .bool b, _, _, h, r => by
    cases h
    cases r
    exact ⟨_, Reads.bool b, List.not_mem_nil⟩
  | .int i, _, _, h, r => by
    cases h
    obtain ⟨t, rfl⟩ := r
    exact ⟨_, Reads.int i t, List.not_mem_nil⟩
  | .str x, _, _, h, r => by
    cases h
    obtain ⟨t, rfl⟩ := r
    exact ⟨_, Reads.str x t, List.not_mem_nil⟩
  | .list ds, _, _, h, r => by
    cases h with
    | lst hs ne ha =>
      cases r
      obtain ⟨its, rv, ⟨o, n, ho, hc, _, hd⟩, _⟩ := I.list (SqL.of hs)
      obtain ⟨as, hr, hm⟩ := Dq.readsAll I ds _ its ha rv
      refine ⟨_, Reads.list ho hc hd hr, fun m => ?_⟩
      rcases List.mem_cons.mp m with e | e
      · rw [← e, beq_self_eq_true] at ne
        cases ne
      · exact hm e
  | .tuple ds, _, _, h, r => by
    cases h with
    | tup hs ha =>
      cases r
      obtain ⟨its, rv, ⟨o, ho, hc, n, hd⟩, _⟩ := I.tuple (SqT.of hs)
      obtain ⟨as, hr, hm⟩ := Dq.readsAll I ds _ its ha rv
      exact ⟨_, Reads.tuple ho hc hd hr, hm⟩
  | .dict _, _, _, h, r => by
    cases h with
    | dic kvs hk =>
      cases r
      obtain ⟨_, hd, vs, kv, o, es, ep, h1, h2, h3, _, h4, _⟩ := dk_of I.hok hk
      obtain ⟨q1, q2⟩ := dic_keys (h := s.heap) h4 kv
      have e1 : (kvs.map fun q => (kD q.1, PyData.int q.2)).map (·.1) = kvs.map fun q => kD q.1 := by rw [List.map_map]; rfl
      have e2 : (kvs.map fun q => (kD q.1, PyData.int q.2)).map (·.2) = kvs.map fun q => PyData.int q.2 := by rw [List.map_map]; rfl
      refine ⟨_, Reads.dict h1 h2.1 h3 (by rw [e1]; exact q1) (by rw [e2]; exact q2), fun m => ?_⟩
      rw [List.append_nil] at m
      rw [← List.mem_singleton.mp m, beq_self_eq_true] at hd
      cases hd
theorem Dq.readsAll (I : Inv X pins σ H s) : ∀ (ds : List PyData) (vs : List V) (us : List Value), DqAll X.K H vs ds → Vals vs us → ∃ as, ReadsAll s.heap us ds as ∧ sysModules ∉ as
  | [], _, _, h, r => by
    cases h
    cases r
    exact ⟨_, ReadsAll.nil, List.not_mem_nil⟩
  | d :: ds, _, _, h, r => by
    cases h with
    | cons h1 h2 =>
      cases r with
      | cons r1 r2 =>
        obtain ⟨as, q1, m1⟩ := Dq.reads I d _ _ h1 r1
        obtain ⟨bs, q2, m2⟩ := Dq.readsAll I ds _ _ h2 r2
        refine ⟨_, ReadsAll.cons q1 q2, fun m => ?_⟩
        rcases List.mem_append.mp m with e | e
        · exact m1 e
        · exact m2 e
end
/-- the built-in class of such a value -/
def tyN : PyData → String
  | .none => "NoneType"
  | .bool _ => "bool"
  | .int _ => "int"
  | .str _ => "str"
  | .list _ => "list"
  | .tuple _ => "tuple"
  | .dict _ => "dict"
theorem Dq.ty {K : PySem.W.Frag} {v : V} {d : PyData} (h : Dq K H v d) : TyX K H v (.type (tyN d)) := by
  cases h with
  | non => exact .base .non
  | bl b => exact .base (.bl b)
  | int i => exact .base (.int i)
  | str x => exact .base (.str x)
  | lst e _ _ => exact .base (.lst e)
  | tup e _ => exact .base (.tup e)
  | dic kvs e => exact .base (.dK e)
end
def isT (n m : String) : Bool := m == n || (n == "int" && m == "bool")
def isOf (n : String) (d : PyData) : Bool := isT n (tyN d)
theorem kit_q {K : PySem.W.Frag} {n : String} {d : PyData} (h : n = "int" ∨ n = "bool" ∨ n = "str" ∨ n = "tuple" ∨ n = "list") : PySem.W.kitOne K (.type (tyN d)) (.type n) = some (isOf n d) := by
  refine kit_ty ?_
  unfold isOf
  have m : tyN d = "NoneType" ∨ tyN d = "bool" ∨ tyN d = "int" ∨ tyN d = "str" ∨ tyN d = "list" ∨ tyN d = "tuple" ∨ tyN d = "dict" := by
    cases d <;> simp [tyN]
  generalize tyN d = m' at m
  rcases h with rfl | rfl | rfl | rfl | rfl <;> rcases m with rfl | rfl | rfl | rfl | rfl | rfl | rfl <;> decide +kernel
section
variable {X : Cx}
/-- isinstance(x, T), x of any kind, T built in -/
def rIsQ (K : PySem.W.Frag) : List V → Hp → VK → Prop := fun xs H Q => ∃ (x : V) (d : PyData) (n : String), xs = [x, .ty n] ∧ Dq K H x d ∧ (n = "int" ∨ n = "bool" ∨ n = "str" ∨ n = "tuple" ∨ n = "list") ∧ Q (.bl (isOf n d)) H
theorem call_isQ : CallR X (.builtin "isinstance") (rIsQ X.K) := by
  intro pins s σ H xs us Q I r h
  obtain ⟨x, d, n, rfl, hd, hn, q⟩ := h
  exact call_isi pins s σ H _ us Q I r ⟨x, .ty n, _, _, _, rfl, .ty n, hd.ty, kit_q hn, q⟩
/-- repr of a value of any kind -/
def rReprQ (K : PySem.W.Frag) : List V → Hp → VK → Prop := fun xs H Q => ∃ v d, xs = [v] ∧ Dq K H v d ∧ PyData.showable d = true ∧ d.depth ≤ 60 ∧ d.shown.length ≤ sizeLine ∧ Q (.str d.shown) H
theorem call_reprQ (gu : X.A.guards = some []) (room : ∃ k, Room k X.A) : CallR X (.builtin "repr") (rReprQ X.K) := by
  intro pins s σ H xs us Q I rel want
  obtain ⟨v, d, rfl, data, sh, dep, len, q⟩ := want
  obtain ⟨u, rfl, ru⟩ := vals1 rel
  obtain ⟨as, reads, ns⟩ := Dq.reads I d _ u data ru
  obtain ⟨k, room⟩ := room
  have un := room.un
  have done : ∀ h' (v : Value) tk, (∀ b o, s.heap.get? b = some o → h'.get? b = some o) → (∃ t, v = Value.str d.shown t) → ∃ y H2, Inv X pins σ H2 { s with heap := h', toks := tk } ∧ RelV y v ∧ Q y H2 := fun h' v tk keep e => ⟨.str d.shown, H, I.kept keep, e, q⟩
  have at_ : ∀ a, u = .ref a → _ := fun a e => repr_of_reads' (A := X.A) (s := s) (prog := X.prog) (w := X.w) (E := X.xe) (Q := fun y s' => ∃ z H2, Inv X pins σ H2 s' ∧ RelV z y ∧ Q z H2) (by rw [← e]; exact reads) sh (fun _ => ns) gu (by omega) (fun _ _ e => e) (fun h' v tk keep => ⟨.str d.shown, H, I.kept keep, ⟨_, rfl⟩, q⟩) len
  cases data with
  | non =>
    cases ru
    exact PySem.P.repr_of_none ⟨.str _, H, I.tok _, ⟨_, rfl⟩, q⟩
  | bl b =>
    cases ru
    refine PySem.P.repr_of_bool ⟨.str _, H, I.tok _, ⟨_, rfl⟩, ?_⟩
    cases b <;> exact q
  | int i =>
    obtain ⟨t, rfl⟩ := ru
    exact PySem.P.repr_of_int (of_decide_eq_true (by simpa [PyData.showable] using sh)) ⟨.str _, H, I.tok _, ⟨_, rfl⟩, q⟩
  | str x =>
    obtain ⟨t, rfl⟩ := ru
    exact PySem.P.repr_of_str ⟨.str _, H, I.tok _, ⟨_, rfl⟩, q⟩ len
  | lst e1 e2 e3 =>
    cases ru
    exact at_ _ rfl
  | tup e1 e2 =>
    cases ru
    exact at_ _ rfl
  | dic kvs e1 =>
    cases ru
    exact at_ _ rfl
/-- a list is made: it is not sys.modules -/
def tLstN (t : TA) : TE := fun σ H Q => t σ H fun xs H1 => xs.length ≤ sizeLine ∧ ∀ p, H1 p = none → (p == sysModules) = false → Q (.ref p) (upd H1 p (.lst xs))
theorem pe_lstN {es : List Expr} {pos : Pos} {t : TA} (h : PA X es t) : PE X (.List es pos) (tLstN t) := by
  refine ⟨fun pins s σ H Q I hq => ?_⟩
  refine wpAny_List_spliced (thn (h.run pos pins s σ H _ I hq) fun us s1 ⟨xs, H1, I1, r, z, q⟩ => ⟨by rw [← r.length]; exact z, ?_⟩)
  have hf : H1 s1.heap.objs.size = none := I1.hok.fresh (Nat.le_refl _)
  have hs : (s1.heap.objs.size == sysModules) = false := beq_eq_false_iff_ne.mpr (Ne.symm (Nat.ne_of_lt I1.big))
  refine ⟨.ref s1.heap.objs.size, upd H1 s1.heap.objs.size (.lst xs), I1.laid (t' := s1.toks) (fun b u e => Heap.get?_push_of_some _ e) (Nat.le_refl _) ?_, rfl, q _ hf hs⟩
  exact ⟨z, us, 0, r, Heap.get?_push_size _ rfl⟩
/-- list(t) of a tuple -/
theorem call_listN : CallR X (.type "list") (fun xs H Q => ∃ p ys, xs = [.ref p] ∧ H p = some (.tup ys) ∧ ∀ l, H l = none → (l == sysModules) = false → Q (.ref l) (upd H l (.lst ys))) := by
  intro pins s σ H xs us Q I r h
  obtain ⟨p, ys, rfl, hq, q⟩ := h
  have hs : (s.heap.objs.size == sysModules) = false := beq_eq_false_iff_ne.mpr (Ne.symm (Nat.ne_of_lt I.big))
  obtain ⟨u, rfl, rx⟩ := vals1 r
  cases rx
  obtain ⟨its, r', pl, hz⟩ := I.tuple (SqT.of hq)
  have hlen := r'.length
  obtain ⟨o, ho, hc, n, hd⟩ := pl
  exact call_list_seq p (.inr rfl) ho hc hd (fun h' c' kp e => ⟨.ref s.heap.objs.size, _, I.laid (t' := s.toks) kp (Nat.le_refl _) (show ObjOk X.prog X.w _ h' _ (.lst ys) from ⟨hz, its, c', r', e⟩), rfl, q _ (I.hok.fresh (Nat.le_refl _)) hs⟩) (by simp only [List.size_toArray] <;> omega)
end
end Sm

set_option Elab.async false
set_option linter.all false
set_option maxRecDepth 100000
set_option maxHeartbeats 4000000
namespace Sm
open PySem PySem.Spec PyProof.Rows L2 LamX
/-- repr of a value of any kind, in an except suite too -/
theorem call_reprU {X : Cx} (gu : X.A.guards = some []) (un : X.A.units + 100 < cLine) : CallR X (.builtin "repr") (rReprQ X.K) := by
  rintro pins s σ H xs us Q I rel ⟨v, d, rfl, data, sh, dep, len, q⟩
  obtain ⟨u, rfl, ru⟩ := vals1 rel
  obtain ⟨as, reads, ns⟩ := Dq.reads I d _ u data ru
  have at_ : ∀ a, u = .ref a → _ := fun a e => repr_of_reads' (A := X.A) (s := s) (prog := X.prog) (w := X.w) (E := X.xe) (Q := fun y s' => ∃ z H2, Inv X pins σ H2 s' ∧ RelV z y ∧ Q z H2) (by rw [← e]; exact reads) sh (fun _ => ns) gu (by omega) (fun _ _ e => e) (fun h' v tk keep => ⟨.str d.shown, H, I.kept keep, ⟨_, rfl⟩, q⟩) len
  cases data with
  | non => cases ru; exact PySem.P.repr_of_none ⟨.str _, H, I.tok _, ⟨_, rfl⟩, q⟩
  | bl b => cases ru; exact PySem.P.repr_of_bool ⟨.str _, H, I.tok _, ⟨_, rfl⟩, by cases b <;> exact q⟩
  | int i => obtain ⟨t, rfl⟩ := ru; exact PySem.P.repr_of_int (of_decide_eq_true (by simpa [PyData.showable] using sh)) ⟨.str _, H, I.tok _, ⟨_, rfl⟩, q⟩
  | str x => obtain ⟨t, rfl⟩ := ru; exact PySem.P.repr_of_str ⟨.str _, H, I.tok _, ⟨_, rfl⟩, q⟩ len
  | lst e1 e2 e3 => cases ru; exact at_ _ rfl
  | tup e1 e2 => cases ru; exact at_ _ rfl
  | dic kvs e1 => cases ru; exact at_ _ rfl
section
variable {X : Cx} {pins : List (Addr × Obj)} {σ : L2.St} {H : Hp} {s : Shared}
/-- a local name read, nothing else happens -/
theorem ld_var {E : Value → Shared → Prop} {Q : Value → Shared → Prop} {i : Nat} {x : Str} {pos : Pos} {v : V} (I : Inv X pins σ H s) (named : X.N[i]? = some x) (seen : Vis X.env.scope x) (e : σ[i]? = some (some v)) (h : ∀ u, RelV v u → Q u s)
    (hd : (x == ("__debug__" : Str)) = false := by decide) (hcd : (x == ("__classdict__" : Str)) = false := by decide) : wpAny (model X.prog X.w) X.A (eval (.Name x pos) X.env) Q E s := by
  obtain ⟨m, hn, hl⟩ := I.loc
  obtain ⟨u, r, l⟩ := hl i x v named e seen
  rcases l with ⟨hk, hm⟩ | ⟨hk | hk, c, hc, hcell⟩
  · exact wpAny_Name (wpAny_loadName_local I.ok.kind hk hn hm (h u r)) hd
  · exact wpAny_Name (wpAny_loadName_cell I.ok.kind hk hc hcell (h u r)) hd
  · exact wpAny_Name (wpAny_loadName_free I.ok.kind hk hc hcell (h u r) hcd) hd
/-- x() in the def that got the lambda: what is raised is taken at the very slots -/
theorem pe_actS {Ng : List Str} {qg : Str} {sg : Scope} {g f c' : Addr} {cdg pm ctv : Value} {params : Arguments} {body : Expr} {scope : Scope} {k i : Nat} {a : Str} {pn : List (Addr × Obj)} {xe : Value → Shared → Prop} {W : WX} {E : XK} {tb : TE} {p1 p2 : Pos} (σ0 : L2.St)
    (I : Inv X pins σ H s) (L : LamS X.env.scope scope) (hf : s.heap.get? f = some (PySem.W.kla_obj "<lambda>" (X.env.qual ++ "<lambda>") params body scope (cloFrom X.env.cells scope.names []) pm c' ctv)) (hfn : H f = none) (hfr : f ∉ frs X.stack)
    (hbind : bindArgs (PySem.W.kla_fn "<lambda>" (X.env.qual ++ "<lambda>") params body scope (cloFrom X.env.cells scope.names []) pm (.ref c') ctv) ⟨[], []⟩ = pure [])
    (tk : Takes ((cxOf C8.CX0 X.prog X.w X.K X.mg X.base Ng qg sg g cdg X.A X.stack s H C8.E0).tr pn xe) W) (hW : ∀ cls d H', E cls d H' → W cls d σ0 H') (hr : Room (k + 1) (X.A.deeper (envOfC qg sg s.heap.objs.size g cdg)))
    (hbody : ∀ (A : Around) (outer : List Env) (s : Shared) (H : Hp), Room k (A.deeper (lamEnv X scope s.heap.objs.size f c')) → PE (lamCx X A outer s H E scope f c') body tb)
    (hN : Ng[i]? = some a) (hv : Vis sg a) (hd : (a == ("__debug__" : Str)) = false := by decide) (hcd : (a == ("__classdict__" : Str)) = false := by decide) :
    PE ((cxOf C8.CX0 X.prog X.w X.K X.mg X.base Ng qg sg g cdg X.A X.stack s H C8.E0).tr pn xe) (.Call (.Name a p1) [] [] p2) (fun σZ HZ Q => σZ = σ0 ∧ σZ[i]? = some (some (.ref f)) ∧ HZ c' = some (CodeO c' (X.env.qual ++ "<lambda>")) ∧ tb σ HZ Q) := by
  refine ⟨fun pinsZ sZ σZ HZ Q IZ h => ?_⟩
  obtain ⟨rfl, hs, hc, ht⟩ := h
  refine wpAny_Call_Name_kw (ld_var IZ (pos := p1) (i := i) hN hv hs (fun u r1 => ?_) hd hcd)
  obtain rfl : u = Value.ref f := r1
  have of1 := IZ.base.keep f _ hf hfn hfr (fun z => nomatch (show f ∈ ([] : List Addr) from z))
  refine PySem.W.callWith_F0 ⟨_, _, _, _, of1⟩ ?_
  have un : Un (frs X.stack) [] H HZ s.heap sZ.heap := IZ.base
  obtain ⟨⟨oc, vs, t, hoc, hdc, hvc⟩, _, _⟩ := IZ.hok c' _ hc
  have ran : codeAny (model X.prog X.w) (X.A.deeper (envOfC qg sg s.heap.objs.size g cdg)) (.call (.ref f) ⟨[], []⟩) (CR (L2.CX X.prog X.w) (envOfC qg sg s.heap.objs.size g cdg :: X.stack) X.prog X.w HZ sZ Q E) sZ := by
    refine PySem.W.kla_callFunE hr.depth of1 rfl L.co L.gen rfl ⟨c', oc, vs, t, rfl, hoc, hdc, hvc⟩ ?_
    rw [hbind]
    refine wpAny_pure (wpAny_newFunctionEnv (fun y hy => (L.own y hy).2) (fun y hy => absurd hy (by simp)) (fun h₁ names same => ⟨IZ.nolimit.fresh _ same, ?_⟩) L.kind)
    have keep : ∀ b o, sZ.heap.get? b = some o → h₁.get? b = some o := fun b o e => same.extBut b o (Nat.ne_of_lt (Heap.lt_size e)) (Heap.get?_push_of_some _ e)
    refine PySem.W.kla_codeExpr (wpAny_mono ((hbody _ _ sZ HZ (hr.deeper _)).run [] _ _ HZ Q (lam_start2 I L IZ.env0 hr.hd un names keep) ht) ?_ fun e s' hq => hq)
    rintro v s' ⟨w', H', J', rv, q⟩
    exact ⟨w', H', J'.os, J'.bare, J'.base, J'.hok, rv, q⟩
  refine wpAny_call (codeAny_mono ran ?_)
  rintro (e | fl) s' hq
  · exact tk e s' (XE.of_call IZ (fun cls d H' h => hW cls d H' h) hq)
  match fl, hq with
  | .ret u, hq => exact IZ.after hq
  | .next, hq => exact False.elim hq
  | .brk, hq => exact False.elim hq
  | .cont, hq => exact False.elim hq
end
/-- the def that gets a lambda and a value: TT tells what it makes of both -/
def Gives2 (X : Cx) (Ng : List Str) (x : Str) (sg : Scope) (g : Addr) (cdg : Value) (bg : List Stmt) (a : Str) (q : Str) (TT : V → (XK → Hp → VK → Prop) → Hp → VK → Prop) : Prop :=
  ∀ (f c' : Addr) (s : Shared) (H : Hp) (v : V) (Q : VK) (tl : XK → Hp → VK → Prop),
    (∀ (W : WX) (pn : List (Addr × Obj)) (xe : Value → Shared → Prop) (E : XK) (p1 p2 : Pos) (σ0 : L2.St), Takes ((cxOf C8.CX0 X.prog X.w X.K X.mg X.base Ng x sg g cdg X.A X.stack s H C8.E0).tr pn xe) W → (∀ cls d H', E cls d H' → W cls d σ0 H') →
      PE ((cxOf C8.CX0 X.prog X.w X.K X.mg X.base Ng x sg g cdg X.A X.stack s H C8.E0).tr pn xe) (.Call (.Name a p1) [] [] p2) (fun σZ HZ Q => σZ = σ0 ∧ σZ[0]? = some (some (.ref f)) ∧ HZ c' = some (CodeO c' q) ∧ tl E HZ Q)) →
    H c' = some (CodeO c' q) → TT v tl H Q →
    ∃ t, PSs (cxOf C8.CX0 X.prog X.w X.K X.mg X.base Ng x sg g cdg X.A X.stack s H C8.E0).nox bg t ∧ t { nx := fun _ H' => Q .non H', rt := Q } (L2.start Ng [.ref f, v]) H
def tLam2 (T : List (Addr × Str)) (TT : V → (XK → Hp → VK → Prop) → Hp → VK → Prop) (t : XK → TE) (j : Nat) : TE := fun σ H Q => Tabs T H ∧ ∃ v, σ[j]? = some (some v) ∧ ∀ H1, ExtN H H1 → Tabs T H1 → TT v (fun E H' Q' => t E σ H' Q') H1 Q
section
variable {X : Cx}
/-- x(lambda: body, y) -/
theorem pe_lamcall2 {T : List (Addr × Str)} {TT : V → (XK → Hp → VK → Prop) → Hp → VK → Prop} {x a b y : Str} {g c P : Addr} {k j : Nat} {pg : Arguments} {bg : List Stmt} {sg : Scope} {dV kV doc pm cdv ct oc : Value} {an od : Option Addr} {osl : Array (Option Value)} {Ng : List Str}
    {params : Arguments} {body : Expr} {scope : Scope} {t : XK → TE} {p lpos pos py : Pos} (hg : Gl X x) (hm : X.mg x = some (.ref g)) (hk : PySem.W.keepIn X.K (.ref g) = true)
    (lk : X.K.lookup g = some ⟨oc, od, .func (PySem.W.fnOf x x pg bg sg dV kV doc pm an cdv ct), osl⟩) (hcg : PySem.W.codeIn X.K cdv x = true) (hb : L2.Binds X.K (PySem.W.fnOf x x pg bg sg dV kV doc pm an cdv ct) [a, b] []) (Sg : FnScope Ng [a, b] sg) (hNg : Ng[0]? = some a) (hva : Vis sg a)
    (hG : Gives2 X Ng x sg g cdv bg a (X.env.qual ++ "<lambda>") TT)
    (TB : TabB X.base X.mg c P) (hcode : X.env.code = .ref c) (hmT : (P, X.env.qual ++ "<lambda>") ∈ T) (hu : ∀ p ∈ T, p.1 = P → p.2 = X.env.qual ++ "<lambda>") (hr : Room (k + 2) X.A) (L : LamS X.env.scope scope) (hdef : defaultsOf params X.env = ([], []))
    (hbind : ∀ (q : Str) (cl : List (Str × Addr)) (pm cv ctv : Value), bindArgs (PySem.W.kla_fn "<lambda>" q params body scope cl pm cv ctv) ⟨[], []⟩ = pure [])
    (hbody : ∀ (A : Around) (outer : List Env) (s : Shared) (H : Hp) (E : XK) (f c' : Addr), Room k (A.deeper (lamEnv X scope s.heap.objs.size f c')) → PE (lamCx X A outer s H E scope f c') body (t E))
    (named : X.N[j]? = some y) (seen : Vis X.env.scope y)
    (hdb : (x == ("__debug__" : Str)) = false := by decide) (hd : (a == ("__debug__" : Str)) = false := by decide) (hcd : (a == ("__classdict__" : Str)) = false := by decide) (hyd : (y == ("__debug__" : Str)) = false := by decide) (hycd : (y == ("__classdict__" : Str)) = false := by decide) :
    PE X (.Call (.Name x p) [.Lambda params body scope lpos, .Name y py] [] pos) (tLam2 T TT t j) := by
  refine ⟨fun pins s σ H Q I h => ?_⟩
  obtain ⟨hT, v, hv, h⟩ := h
  refine wpAny_Call_Name_kw (ld_glob I hg hm (PySem.W.callWith_K (h₀ := X.base) I.ok.mod.kin hk ?_ (by rfl) (by rfl)) hdb)
  show wpAny _ _ (spliced ((false, eval (.Lambda params body scope lpos) X.env) :: backTo pos (starEach [.Name y py] X.env))) _ _ s
  refine Calls.spliced_cons (lam_make2 I TB hcode hmT hu hT hdef (L.has I.ok) ?_)
  intro f c' pm' ctv H1 s' I1 eN T1 hf hfn hfr hco
  show wpAny _ _ (spliced ((false, eval (.Name y py) X.env) :: backTo pos (starEach [] X.env))) _ _ s'
  refine Calls.spliced_cons (ld_var I1 named seen hv (fun u r1 => ?_) hyd hycd)
  refine Calls.spliced_nil ⟨I1.kIn, ?_⟩
  have ran : codeAny (model X.prog X.w) X.A (.call (.ref g) ⟨[.ref f, u], []⟩) (CR C8.CX0 X.stack X.prog X.w H1 s' Q C8.E0) s' := by
    refine run_ofS (N := Ng) (ps := [a, b]) (us := [.ref f, u]) (vs := [.ref f, v]) lk hcg Sg hr I1.env0 (hb s' [.ref f, u] I1.kIn rfl) (.cons rfl (.cons r1 .nil)) rfl fun room => ?_
    obtain ⟨t', got, fine⟩ := hG f c' s' H1 v Q (fun E H' Q' => t E σ H' Q') (fun W pn xe E p1 p2 σ0 tk hW => pe_actS (i := 0) σ0 I1 L hf hfn hfr (hbind _ _ _ _ _) tk hW room (fun A outer s H r2 => hbody A outer s H E f c' r2) hNg hva hd hcd) hco (h H1 eN T1)
    exact ⟨t', got.nox, fine⟩
  refine wpAny_call (codeAny_mono ran ?_)
  rintro (e | fl) s2 hq
  · exact (show False from hq).elim
  match fl, hq with
  | .ret u, hq => exact I1.after hq
  | .next, hq => exact False.elim hq
  | .brk, hq => exact False.elim hq
  | .cont, hq => exact False.elim hq
/-- try: a() / except e as n: a suite that is told by ts -/
def tActAs (K : PySem.W.Frag) (CS f c' : Addr) (q : Str) (i : Nat) (ts : Addr → Value → Option Addr → TS) (tl : XK → Hp → VK → Prop) : TS := fun D σ H => σ[0]? = some (some (.ref f)) ∧ H c' = some (CodeO c' q) ∧
  tl (fun cls d H' => wAs K (.ref CS) i ts (fun _ _ _ _ => False) D cls d σ H') H (fun _ H' => D.nx σ H')
theorem ps_act_as {Ng : List Str} {x a e n q : Str} {sg : Scope} {g CS f c' : Addr} {cdg : Value} {i : Nat} {b₀ : Stmt} {suite : List Stmt} {p1 p2 p3 p4 p5 p6 : Pos} {ts : Addr → Value → Option Addr → TS} {s : Shared} {H : Hp} {tl : XK → Hp → VK → Prop}
    (hge : sg.names.lookup e = some .globalImplicit) (hme : X.mg e = some (.ref CS)) (hde : (e == ("__debug__" : Str)) = false) (nd : Ng.Nodup) (hi : Ng[i]? = some n)
    (hln : (cxOf C8.CX0 X.prog X.w X.K X.mg X.base Ng x sg g cdg X.A X.stack s H C8.E0).nox.env.kindOf n = some .local)
    (act : ∀ (W : WX) (pn : List (Addr × Obj)) (xe : Value → Shared → Prop) (E : XK) (p1 p2 : Pos) (σ0 : L2.St), Takes ((cxOf C8.CX0 X.prog X.w X.K X.mg X.base Ng x sg g cdg X.A X.stack s H C8.E0).tr pn xe) W → (∀ cls d H', E cls d H' → W cls d σ0 H') →
      PE ((cxOf C8.CX0 X.prog X.w X.K X.mg X.base Ng x sg g cdg X.A X.stack s H C8.E0).tr pn xe) (.Call (.Name a p1) [] [] p2) (fun σZ HZ Q => σZ = σ0 ∧ σZ[0]? = some (some (.ref f)) ∧ HZ c' = some (CodeO c' q) ∧ tl E HZ Q))
    (hsu : ∀ (c : Addr) (oe : Obj) (cls : Value) (d : Option Addr) (pn : List (Addr × Obj)), Zc cls d oe → (∃ vs, oe.data = .fields vs) → PSs ((cxOf C8.CX0 X.prog X.w X.K X.mg X.base Ng x sg g cdg X.A X.stack s H C8.E0).nox.suite c ((c, oe) :: pn)) (b₀ :: suite) (ts c cls d)) :
    PS (cxOf C8.CX0 X.prog X.w X.K X.mg X.base Ng x sg g cdg X.A X.stack s H C8.E0).nox (.Try [.Expr (.Call (.Name a p1) [] [] p2) p3] [.ExceptHandler (some (.Name e p4)) (some n) (b₀ :: suite) p5] [] [] p6) (tActAs X.K CS f c' q i ts tl) := by
  let Z := (cxOf C8.CX0 X.prog X.w X.K X.mg X.base Ng x sg g cdg X.A X.stack s H C8.E0).nox
  have glob : Gl Z e := hge
  let tried : WX → TS := fun W D σ H1 => ∃ out : XK, (∀ cls d H', out cls d H' → W cls d σ H') ∧ σ[0]? = some (some (.ref f)) ∧ H1 c' = some (CodeO c' q) ∧ tl out H1 (fun _ H2 => D.nx σ H2)
  have inner : ∀ (W : WX) (pn : List (Addr × Obj)) (xe : Value → Shared → Prop), Takes (Z.tr pn xe) W → PassesOwn (model Z.prog Z.w) Z.A Z.env xe → PSs (Z.tr pn xe) [.Expr (.Call (.Name a p1) [] [] p2) p3] (tried W) := by
    intro W pn xe tk _
    refine ⟨fun pins s' σ H' D I told' => ?_⟩
    obtain ⟨out, hW, h1, h2, h3⟩ := told'
    exact (pss_one (ps_expr (pos := p3) (act _ pn xe out p1 p2 σ tk hW))).run pins s' σ H' D I ⟨rfl, h1, h2, h3⟩
  have whole := ps_try_as (X := Z) (c := .ref CS) (i := i) (tb := tried) (ts := ts) (Wout := fun _ _ _ _ => False) (pos := p6) (pos' := p5) (np := p4) rfl rfl nd hi hln ⟨glob, hde, .inl hme⟩ L2.takes0 inner (fun c oe cls d pn hz hf => hsu c oe cls d pn hz hf)
  refine ⟨fun pins s' σ H1 D I h => whole.run pins s' σ H1 D I ?_⟩
  obtain ⟨h1, h2, h3⟩ := h
  exact ⟨_, fun cls d H' h => h, h1, h2, h3⟩
end
end Sm

set_option Elab.async false
set_option linter.all false
set_option maxRecDepth 100000
set_option maxHeartbeats 4000000
namespace Sm
open PySem PySem.Spec PyProof.Rows L2
/-! ### try with several clauses `except C as n`, which together take all that the body raises -/
/-- behind a suite its name is gone -/
def offN (i : Nat) (D : Ends) : Ends := { nx := fun τ K => D.nx (τ.set i none) K, rt := D.rt, bk := fun τ K => D.bk (τ.set i none) K, ct := fun τ K => D.ct (τ.set i none) K }
def wNames (K : PySem.W.Frag) (D : Ends) : List (Value × Nat × (Addr → Value → Option Addr → TS)) → WX
  | [] => fun _ _ _ _ => False
  | (c, i, ts) :: more => fun cls d σ H => ∃ b, PySem.W.exmOne K cls c = some b ∧ (b = true → ∀ e, H e = none → ts e cls d (offN i D) (σ.set i (some (.ref e))) H) ∧ (b = false → wNames K D more cls d σ H)
inductive Clauses (X : Cx) : List ExceptHandler → List (Value × Nat × (Addr → Value → Option Addr → TS)) → Prop
  | nil : Clauses X [] []
  | cons {x n : Str} {c : Value} {i : Nat} {ts : Addr → Value → Option Addr → TS} {first : Stmt} {suite : List Stmt} {p q : Pos} {hds : List ExceptHandler} {more : List (Value × Nat × (Addr → Value → Option Addr → TS))}
      (known : Names X x c) (slot : X.N[i]? = some n) (own : X.env.kindOf n = some .local)
      (told : ∀ (e : Addr) (o : Obj) (cls : Value) (d : Option Addr) (pn : List (Addr × Obj)), Zc cls d o → (∃ vs, o.data = .fields vs) → PSs (X.suite e ((e, o) :: pn)) (first :: suite) (ts e cls d)) (rest : Clauses X hds more) :
      Clauses X (.ExceptHandler (some (.Name x p)) (some n) (first :: suite) q :: hds) ((c, i, ts) :: more)
section
variable {X : Cx} {body : List Stmt} {h₀ : ExceptHandler} {hds : List ExceptHandler} {cl : List (Value × Nat × (Addr → Value → Option Addr → TS))} {pos : Pos} {tb : WX → TS}
theorem ps_try_names (stk : X.stack = X.env :: X.outer) (frm : X.env.frame = some X.env.locals) (nd : X.N.Nodup)
    (inner : ∀ (W : WX) (pn : List (Addr × Obj)) (xe : Value → Shared → Prop), Takes (X.tr pn xe) W → PassesOwn (model X.prog X.w) X.A X.env xe → PSs (X.tr pn xe) body (tb W)) (cs : Clauses X (h₀ :: hds) cl) :
    PS X (.Try body (h₀ :: hds) [] [] pos) (fun D σ H => tb (wNames X.K D cl) D σ H) := by
  refine ⟨fun pins s σ H D I h => wpAny_Try_except ?_⟩
  have ok := I.ok
  refine wpAny_mono ((inner (wNames X.K D cl) (X.pn ++ pins) (fun e s₁ => wpAny (model X.prog X.w) X.A (noteFrame e X.env) (fun _ s₂ => wpAny (model X.prog X.w) X.A (setFlight e none) (fun _ s₃ => wpAny (model X.prog X.w) X.A (handleBy e X.env (h₀ :: hds)) (SP X pins D) X.xe s₃) X.xe s₂) X.xe s₁) ?_ PassesOwn.looking).run [] s σ H D (I.toTry _) h) ?_ (fun e s1 he => he)
  · rintro u s' ⟨a, B, sI, pins', τ, G, cls, d, rfl, J', bare, up, sky, fresh, os, ag, w⟩
    have J : Inv X pins τ G sI := J'.ofTry ok
    have sky2 : Sky B (X.env :: X.outer) a (Zc cls d) X.env.locals s'.heap := by rw [← stk]; exact sky
    show wpAny (model X.prog X.w) X.A (noteFrame (.ref a) X.env) _ _ _
    refine Sky.land Zc.steady (by rw [ok.frames, stk]) frm sky2 fun h3 fly up3 => ?_
    have landed : Inv X pins τ G { s' with heap := h3 } := J.landed bare fly.1 (up.trans up3) os ag
    obtain ⟨o3, vs3, there, kind, data⟩ := fly.there
    have outside : a ∉ frs (X.env :: X.outer) := fun m => by
      obtain ⟨_, o', e', no⟩ := fly.2.2.1.mem m
      rw [there] at e'; cases e'
      exact no _ data
    have nL : a ≠ X.env.locals := fun z => outside (List.mem_filterMap.mpr ⟨X.env, List.mem_cons_self, by rw [frm, z]⟩)
    have nF : a ∉ X.fs := fun m => by
      obtain ⟨e, he, q⟩ := List.mem_filterMap.mp m
      exact outside (List.mem_filterMap.mpr ⟨e, List.mem_cons_of_mem _ he, q⟩)
    have S3 := landed.suite there data fresh nL nF
    have typ : PySem.W.Looks (model X.prog X.w) h3 (typeOf (.ref a)) cls := fun A Q E s k q => wpAny_typeOf_ref (k _ _ there) (by rw [kind.1]; exact q)
    have each : ∀ {hs : List ExceptHandler} {ls : List (Value × Nat × (Addr → Value → Option Addr → TS))}, Clauses X hs ls → wNames X.K D ls cls d τ G → wpAny (model X.prog X.w) X.A (handleBy (.ref a) X.env hs) (SP X pins D) X.xe { s' with heap := h3 } := by
      intro hs ls cs
      induction cs with
      | nil => exact fun w => False.elim w
      | @cons x n c i ts first suite p q hds2 more known slot own told rest ih =>
        rintro ⟨b, asked, yes, no⟩
        refine wpAny_handleBy_cons (codeAny_handlers_test ?_) (by intro q; cases q)
        have match_ := PySem.W.exm_one (M := model X.prog X.w) landed.kIn typ asked
        have named : ∀ {Q : Value → Shared → Prop} {E : Value → Shared → Prop}, Q c { s' with heap := h3 } → wpAny (model X.prog X.w) (X.A.mark (some (.ref a))) (eval (.Name x p) X.env) Q E { s' with heap := h3 } := by
          intro Q E z
          obtain ⟨hg, hdbg, hm | ⟨hm, hv, hnn⟩⟩ := known
          · exact ld_glob (X := X.suite a ((a, o3) :: (X.pn ++ pins))) S3 hg hm z hdbg
          · exact ld_blt (X := X.suite a ((a, o3) :: (X.pn ++ pins))) S3 hg hm hv z hnn hdbg
        refine named (match_.here ?_)
        cases b with
        | false => exact ih (no rfl)
        | true =>
          refine codeAny_handlers_suite_as (HandSPX.lands_againZ fly fun h4 fly4 up4 => ?_)
          have J4 : Inv X pins τ G { s' with heap := h4 } := J.landed bare fly4.1 ((up.trans up3).trans up4) os ag
          obtain ⟨o4, vs4, there4, kind4, data4⟩ := fly4.there
          refine store_ok (X := X.suite a ((a, o4) :: (X.pn ++ pins))) (v := .ref a) (J4.suite there4 data4 fresh nL nF) nd slot (.inl own) rfl (fun s5 S5 => ?_) (.inr own)
          refine wpAny_mono ((told a o4 cls d (X.pn ++ pins) kind4 ⟨_, data4⟩).run [] s5 _ G _ S5 (yes rfl a fresh)) ?_ (fun _ _ z => False.elim z)
          intro fl s6 out
          have gone : ∀ {τ6 : L2.St} {H6 : Hp} {Q : Shared → Prop}, Inv (X.suite a ((a, o4) :: (X.pn ++ pins))) [] τ6 H6 s6 → (∀ s7, Inv X pins (τ6.set i none) H6 s7 → Q s7) → wpAny (model X.prog X.w) X.A (do bindName X.env n .none; unbindBehindTheSuite X.env n q) (fun _ s7 => Q s7) X.xe s6 :=
            fun {τ6 H6 Q} S6 z => gone_ok (S6.unsuite ok) nd slot own z
          match fl, out with
          | .next, ⟨τ6, H6, S6, z⟩ => exact gone S6 fun s7 J7 => ⟨_, _, J7, z⟩
          | .brk, ⟨τ6, H6, S6, z⟩ => exact gone S6 fun s7 J7 => ⟨_, _, J7, z⟩
          | .cont, ⟨τ6, H6, S6, z⟩ => exact gone S6 fun s7 J7 => ⟨_, _, J7, z⟩
          | .ret u, ⟨v6, τ6, H6, S6, r6, z⟩ => exact gone S6 fun s7 J7 => ⟨_, _, _, J7, r6, z⟩
    exact each cs w
  · intro fl s1 out
    match fl, out with
    | .next, ⟨τ, G, J', z⟩ => exact wpAny_execs_nil ⟨τ, G, J'.ofTry ok, z⟩
    | .brk, ⟨τ, G, J', z⟩ => exact ⟨τ, G, J'.ofTry ok, z⟩
    | .cont, ⟨τ, G, J', z⟩ => exact ⟨τ, G, J'.ofTry ok, z⟩
    | .ret u, ⟨v, τ, G, J', r, z⟩ => exact ⟨v, τ, G, J'.ofTry ok, r, z⟩
end
end Sm

set_option Elab.async false
set_option linter.all false
set_option maxRecDepth 100000
set_option maxHeartbeats 4000000
namespace Sm
open PySem PySem.Spec PyProof.Rows L2
/-! ### own exception classes with one field, over ValueError (XVal) and LookupError (XLook): what the written part says of them -/
structure XVal (K : PySem.W.Frag) (mg : Str → Option Value) (nm fl : Str) (C fI : Addr) : Prop where
  g : mg nm = some (.ref C)
  oex : OexC K C
  no : PySem.W.findIn K (.ref C) fl = some none
  iC : PySem.W.findIn K (.ref C) "__init__" = some (some (.ref fI))
  tI : PySem.W.typeIn K (.ref fI) = some (.type "function")
  xf : XfC K C
  ec : ExcC K C
  te : PySem.W.exmOne K (.ref C) (.ref C) = some true
structure XLook (K : PySem.W.Frag) (mg : Str → Option Value) (nm fl : Str) (C fI : Addr) : Prop where
  g : mg nm = some (.ref C)
  oex : OexL K C
  no : PySem.W.findIn K (.ref C) fl = some none
  iC : PySem.W.findIn K (.ref C) "__init__" = some (some (.ref fI))
  tI : PySem.W.typeIn K (.ref fI) = some (.type "function")
  xf : XfC K C
  ec : ExcC K C
  te : PySem.W.exmOne K (.ref C) (.ref C) = some true
/-- the def __init__ of such a class -/
def IniF (K : PySem.W.Frag) (q fl : Str) (st : Stmt) (fI : Addr) : Prop := ∃ fd, Fun K "__init__" q st fI fd ∧ Binds K fd ["self", fl] []
def CalX (P : Program) (w : World) (K : PySem.W.Frag) (mg : Str → Option Value) (base : Heap) (x : Str) (ps : List Str) (k : Nat) (sp : Sp) : Prop :=
  ∃ (f : Addr) (fd : FuncData), FnOk P w K mg base (L2.CX P w) k f fd ps sp ∧ mg x = some (.ref f) ∧ PySem.W.keepIn K (.ref f) = true ∧ Binds K fd ps []
/-- what is raised may be wished for at any slots that are there -/
theorem passL {X : Cx} {W : WX} {P : Program} {w : World} {n : Nat} (tk : Takes X W) (hp : X.prog = P := by rfl) (hw : X.w = w := by rfl) (hn : X.N.length = n := by rfl) : Passes (L2.CX P w) X (fun cls d H => ∀ σ : L2.St, σ.length = n → W cls d σ H) := by
  subst hp hw hn
  exact passes_call (takes_len tk) fun cls d σ H h => h σ
theorem un_mk {k : Nat} {A : Around} {h : Option Value} (r : Room k A) : (A.mark h).units + 100 < cLine := by
  have := r.un
  show A.units + 100 < cLine
  omega
theorem un_of {k : Nat} {A : Around} (r : Room k A) : A.units + 100 < cLine := by have := r.un; omega
/-- isinstance of an own instance -/
structure InsC (K : PySem.W.Frag) (C : Addr) : Prop where
  cl : Cls K C
  ha : PySem.W.findIn K (.ref C) "__class__" = some (some (.builtin "object.__class__"))
  hn : PySem.W.specialIn K (.builtin "object.__class__") "__get__" = some (some (.builtin "getset_descriptor.__get__"))
  ht : PySem.W.takesIn K (.builtin "object.__class__") = some true
  hm : PySem.W.mroIn K C (.type "object") = some true
theorem InsC.ty {K : PySem.W.Frag} {C a dx : Addr} {H : Hp} {fs : List (Str × V)} (c : InsC K C) (e : H a = some (.ins C dx fs)) : TyX K H (.ref a) (.ref C) := .base (.ins e c.cl c.ha c.hn c.ht c.hm)
/-! ### texts of texts -/
theorem ofString_small (s : String) : ∀ c ∈ (Str.ofString s).cps.toList, c < 16 ^ 8 := by
  intro c hc
  rw [signs_ofString] at hc
  obtain ⟨x, _, rfl⟩ := List.mem_map.mp hc
  have h : x.toNat < 1114112 := by
    have := x.valid
    rcases this with h | h
    · exact Nat.lt_trans h (by decide)
    · exact h.2
  exact Nat.lt_trans h (by decide)
end Sm

set_option Elab.async false
set_option linter.all false
set_option maxRecDepth 100000
set_option maxHeartbeats 4000000
namespace Sm
open PySem PySem.Spec PyProof.Rows L2
theorem own_ne {prog : Program} {w : World} {A : Around} {E : Value → Shared → Prop} {s : Shared} {K : PySem.W.Frag} {x C f : Addr} {ox : Obj} {od : Option Obj} {b tb : Value} {Q : Value → Shared → Prop} (u0 : A.units + 4 < cLine) (X : K.In s.heap) (J : PySem.W.InstAt s.heap x ox C od)
    (hb : PySem.W.Looks (model prog w) s.heap (typeOf b) tb) (nf : PySem.W.notFirst K C tb = true) (an : PySem.W.findIn K (.ref C) "__ne__" = some (some (.builtin "object.__ne__"))) (mo : PySem.W.mroIn K C (.type "object") = some true)
    (ae : PySem.W.findIn K (.ref C) "__eq__" = some (some (.ref f))) (fn : PySem.W.isFn K (.ref f) = true)
    (h : wpAny (model prog w) A.in1 (call (.ref f) [.ref x, b]) (fun v s' => ∃ r : Bool, v = .bool r ∧ Q (.bool (!r)) s') E s) : wpAny (model prog w) A (richCompare .NotEq (.ref x) b) Q E s := by
  have inner : wpAny (model prog w) A (call (.builtin "object.__ne__") [.ref x, b]) (fun v s' => ∃ r : Bool, v = .bool r ∧ Q (.bool r) s') E s := by
    refine wpAny_call (codeAny_call_builtin PySem.F.slot_object_ne.plain PySem.F.entry_object_ne (PySem.W.check_slot (i := "object.__ne__") (owner := "object") (n := "__ne__") (by decide +kernel) (by decide +kernel) (J.type.andThen (PySem.W.looks_mroIn X mo)) (PySem.F.args_object_ne_2 _ _) ?_))
    unfold Builtin.«object.__ne__»
    refine wpAny_bind (m := slotArgs "__ne__" 1 _) (wpAny_pure ?_)
    refine wpAny_bind (m := cRoomFor _ _) (wpAny_cRoomFor (by show A.units + 1 < cLine; omega) ?_)
    refine wpAny_bind (m := callSpecialIfBound? (.ref x) (Str.ofString "__eq__") _) (PySem.W.ifBound_K X J ae fn (wpAny_mono h ?_ fun _ _ z => z))
    rintro v s' ⟨r, rfl, q⟩
    exact wpAny_bind (wpAny_truthy_bool (wpAny_pure ⟨!r, rfl, q⟩))
  have one : wpAny (model prog w) A (tryCompare (.ref x) "__ne__" b) (fun r s' => ∃ z : Bool, r = some (.bool z) ∧ Q (.bool z) s') E s := by
    unfold tryCompare
    refine wpAny_bind ?_
    simp only [callSpecialIfBound?, bindSpecialIfBound?]
    refine wpAny_holding (wpAny_bind (wpAny_bind (wpAny_bind (J.type.here ((PySem.W.looks_findIn X an).here ?_)))))
    refine wpAny_bind (wpAny_askSetting (wpAny_ite ?_))
    have last : wpAny (model prog w) A (call (.builtin "object.__ne__") ([.ref x] ++ [b]) >>= fun v => pure (some v)) (fun r s' => wpAny (model prog w) A (match r with
      | some .notImplemented | none => pure none
      | some v => pure (some v)) (fun r s' => ∃ z : Bool, r = some (.bool z) ∧ Q (.bool z) s') E s') E s := by
      refine wpAny_bind (wpAny_mono inner ?_ fun _ _ z => z)
      rintro v s' ⟨r, rfl, q⟩
      exact wpAny_pure (wpAny_pure ⟨r, rfl, q⟩)
    split
    · exact wpAny_bind ((PySem.W.Looks.of_pure (PySem.F.slot_object_ne.bind _)).here (wpAny_pure (by exact last)))
    · exact wpAny_tryCatch (wpAny_bind ((PySem.W.Looks.of_pure (PySem.F.slot_object_ne.bind _)).here (wpAny_pure (by exact last))))
  unfold richCompare
  simp only [oneThing_ref]
  refine wpAny_holding (wpAny_bind (wpAny_cRoomFor (by omega) ?_))
  refine wpAny_bind (J.type.here (wpAny_bind (hb.here ?_)))
  have fin : wpAny (model prog w) A (tryCompare (.ref x) (cmpInfo .NotEq).2.1 b) (fun r s' => ∃ z : Bool, r = some (.bool z) ∧ Q (.bool z) s') E s := one
  split
  · rename_i q
    have e : PySem.W.subIn K tb (.ref C) = some false := by
      rcases Bool.or_eq_true_iff.mp nf with e | e
      · rw [beq_iff_eq.mp e] at q
        simp at q
      · exact beq_iff_eq.mp e
    refine wpAny_bind ((PySem.W.looks_subIn X e).here ?_)
    simp only [Bool.false_eq_true, if_false]
    refine wpAny_bind (wpAny_mono fin ?_ fun _ _ z => z)
    rintro r s' ⟨z, rfl, q⟩
    exact wpAny_pure q
  · refine wpAny_bind (wpAny_pure ?_)
    simp only [Bool.false_eq_true, if_false]
    refine wpAny_bind (wpAny_mono fin ?_ fun _ _ z => z)
    rintro r s' ⟨z, rfl, q⟩
    exact wpAny_pure q
/-! ### own special methods (__len__, __add__, __contains__, __eq__ ..) at instances of an own class -/
/-- the class at C has the def at f as its special method nm -/
structure Spm (K : PySem.W.Frag) (C : Addr) (nm : Str) (f : Addr) : Prop where
  at_ : PySem.W.findIn K (.ref C) nm = some (some (.ref f))
  fn : PySem.W.isFn K (.ref f) = true
section
variable {X : Cx} {CX : CXT} {n : Nat} {f C : Addr} {fd : FuncData} {ps : List Str} {sp : Sp} {E : XK}
/-- the def runs below the running body -/
theorem own_run {A : Around} {pins : List (Addr × Obj)} {s : Shared} {σ : L2.St} {H : Hp} {Q : VK} {us : List Value} {vs : List V} (F : FnOk X.prog X.w X.K X.mg X.base CX n f fd ps sp) (hb : Binds X.K fd ps []) (hx : Passes CX X E) (sb : Sub X n A)
    (I : Inv X pins σ H s) (r : Vals vs us) (h : sp vs H Q E) : wpAny (model X.prog X.w) A (call (.ref f) us) (EP X pins σ Q) X.xe s := by
  have z := I.env0
  have e0 : Env0 X.prog X.w X.K X.mg X.base A X.stack s H := ⟨by rw [sb.fr]; exact z.frames, z.mod, z.bs, z.bsz, z.funs, z.frf, z.hok, z.bare⟩
  have ln := F.len _ _ _ _ h
  have bi : BindsTo s fd ⟨us, []⟩ (ps.zip us) := by
    have q := hb s us I.kIn (by rw [List.append_nil, ← r.length]; exact ln)
    rwa [List.append_nil] at q
  refine wpAny_call (codeAny_mono (F.run A X.stack s H ⟨us, []⟩ us vs Q E sb.room e0 bi r h) ?_)
  rintro (e | out) s' got
  · exact hx pins σ H s e s' I got
  · match out, got with
    | .ret u, got => exact I.after got
    | .next, got => exact got.elim
    | .brk, got => exact got.elim
    | .cont, got => exact got.elim
theorem inst_of {pins : List (Addr × Obj)} {s : Shared} {σ : L2.St} {H : Hp} {a dx : Addr} {fs : List (Str × V)} (I : Inv X pins σ H s) (h : H a = some (.ins C dx fs)) : ∃ (ox : Obj) (od : Option Obj), PySem.W.InstAt s.heap a ox C od := by
  obtain ⟨mA, J, _⟩ := ins_get I.hok h
  obtain ⟨od, J, _⟩ := J.look
  exact ⟨_, _, J⟩
/-- len(o) -/
def rLenO (C : Addr) (sp : Sp) (E : XK) : List V → Hp → VK → Prop := fun xs H Q => ∃ (a dx : Addr) (fs : List (Str × V)), xs = [V.ref a] ∧ H a = some (.ins C dx fs) ∧ sp [.ref a] H (fun z H' => ∃ i : Int, z = .int i ∧ 0 ≤ i ∧ i < 2 ^ 63 ∧ Q (.int i) H') E
theorem call_lenO (m : Spm X.K C "__len__" f) (F : FnOk X.prog X.w X.K X.mg X.base CX n f fd ps sp) (hb : Binds X.K fd ps []) (hr : Room (n + 1) X.A) (hx : Passes CX X E) : CallR X (.builtin "len") (rLenO C sp E) := by
  intro pins s σ H xs us Q I r h
  obtain ⟨a, dx, fs, rfl, ha, q⟩ := h
  obtain ⟨u, rfl, ru⟩ := vals1 r
  cases (show u = Value.ref a from ru)
  obtain ⟨ox, od, J⟩ := inst_of I ha
  obtain ⟨mm, hF⟩ := I.fr
  refine PySem.W.len_K hF I.ok.mod.kin J m.at_ m.fn (wpAny_mono (own_run (A := X.A.in1) (vs := [.ref a]) F hb hx ⟨hr.in1, rfl⟩ I (.cons rfl .nil) q) ?_ fun _ _ z => z)
  rintro v s' ⟨z, H', I', rz, i, rfl, i0, i1, q⟩
  obtain ⟨t, rfl⟩ := (show ∃ t, v = Value.int i t from rz)
  exact ⟨⟨i0, i1⟩, .int i, H', I'.tok _, ⟨_, rfl⟩, q⟩
/-- x op y, both of the class -/
def rBinO (C : Addr) (sp : Sp) (E : XK) : R2 := fun x y H Q => ∃ (a dx : Addr) (fs : List (Str × V)) (b dy : Addr) (gs : List (Str × V)), x = .ref a ∧ y = .ref b ∧ H a = some (.ins C dx fs) ∧ H b = some (.ins C dy gs) ∧ sp [x, y] H Q E
theorem op_binO {op : Operator} (m : Spm X.K C (PySem.dunder op.info.2) f) (hc : PySem.W.selfFirst X.K C = true) (F : FnOk X.prog X.w X.K X.mg X.base CX n f fd ps sp) (hb : Binds X.K fd ps []) (hr : Room n X.A) (hx : Passes CX X E) : OpR X (binaryOp op) (rBinO C sp E) := by
  intro pins s σ H x y v u Q I rx ry h
  obtain ⟨a, dx, fs, b, dy, gs, rfl, rfl, ha, hb', q⟩ := h
  cases (show v = Value.ref a from rx)
  cases (show u = Value.ref b from ry)
  obtain ⟨ox, od, J⟩ := inst_of I ha
  obtain ⟨oy, ody, J'⟩ := inst_of I hb'
  obtain ⟨mm, hF⟩ := I.fr
  refine PySem.W.binop_K hF I.ok.mod.kin J J'.type hc m.at_ m.fn (wpAny_mono (own_run (vs := [.ref a, .ref b]) F hb hx ⟨hr, rfl⟩ I (.cons rfl (.cons rfl .nil)) q) ?_ fun _ _ z => z)
  rintro v s' ⟨z, H', I', rz, q⟩
  exact SlX.cmpback rz ⟨z, H', I', rz, q⟩
/-- x in o, x not in o -/
def rInO (neg : Bool) (C : Addr) (sp : Sp) (E : XK) : R2 := fun x y H Q => ∃ (b dy : Addr) (gs : List (Str × V)), y = .ref b ∧ H b = some (.ins C dy gs) ∧ sp [y, x] H (fun z H' => ∃ r : Bool, z = .bl r ∧ Q (.bl (if neg = true then !r else r)) H') E
theorem op_inO (m : Spm X.K C "__contains__" f) (F : FnOk X.prog X.w X.K X.mg X.base CX n f fd ps sp) (hb : Binds X.K fd ps []) (hr : Room n X.A) (hx : Passes CX X E) : OpR X (compareOp .In) (rInO false C sp E) := by
  intro pins s σ H x y v u Q I rx ry h
  obtain ⟨b, dy, gs, rfl, hb', q⟩ := h
  cases (show u = Value.ref b from ry)
  obtain ⟨oy, ody, J⟩ := inst_of I hb'
  obtain ⟨mm, hF⟩ := I.fr
  refine PySem.W.in_K hF I.ok.mod.kin J m.at_ m.fn (wpAny_mono (own_run (vs := [.ref b, x]) F hb hx ⟨hr, rfl⟩ I (.cons rfl (.cons rx .nil)) q) ?_ fun _ _ z => z)
  rintro v s' ⟨z, H', I', rz, r, rfl, q⟩
  cases (show v = Value.bool r from rz)
  exact wpAny_truthy_bool ⟨.bl r, H', I', rfl, q⟩
theorem op_notInO (m : Spm X.K C "__contains__" f) (F : FnOk X.prog X.w X.K X.mg X.base CX n f fd ps sp) (hb : Binds X.K fd ps []) (hr : Room n X.A) (hx : Passes CX X E) : OpR X (compareOp .NotIn) (rInO true C sp E) := by
  intro pins s σ H x y v u Q I rx ry h
  obtain ⟨b, dy, gs, rfl, hb', q⟩ := h
  cases (show u = Value.ref b from ry)
  obtain ⟨oy, ody, J⟩ := inst_of I hb'
  obtain ⟨mm, hF⟩ := I.fr
  refine PySem.W.notIn_K hF I.ok.mod.kin J m.at_ m.fn (wpAny_mono (own_run (vs := [.ref b, x]) F hb hx ⟨hr, rfl⟩ I (.cons rfl (.cons rx .nil)) q) ?_ fun _ _ z => z)
  rintro v s' ⟨z, H', I', rz, r, rfl, q⟩
  cases (show v = Value.bool r from rz)
  exact wpAny_truthy_bool ⟨.bl (!r), H', I', rfl, q⟩
/-- x == y, both of the class -/
theorem op_eqO (m : Spm X.K C "__eq__" f) (F : FnOk X.prog X.w X.K X.mg X.base CX n f fd ps sp) (hb : Binds X.K fd ps []) (hr : Room n X.A) (hx : Passes CX X E) : OpR X (compareOp .Eq) (rBinO C sp E) := by
  intro pins s σ H x y v u Q I rx ry h
  obtain ⟨a, dx, fs, b, dy, gs, rfl, rfl, ha, hb', q⟩ := h
  cases (show v = Value.ref a from rx)
  cases (show u = Value.ref b from ry)
  obtain ⟨ox, od, J⟩ := inst_of I ha
  obtain ⟨oy, ody, J'⟩ := inst_of I hb'
  obtain ⟨mm, hF⟩ := I.fr
  show wpAny (model X.prog X.w) X.A (richCompare .Eq (.ref a) (.ref b)) (EP X pins σ Q) X.xe s
  refine PySem.W.cmp_K (op := .Eq) (tb := .ref C) hr.units0 hF I.ok.mod.kin J J'.type (by simp [PySem.W.notFirst]) m.at_ m.fn (wpAny_mono (own_run (vs := [.ref a, .ref b]) F hb hx ⟨hr, rfl⟩ I (.cons rfl (.cons rfl .nil)) q) ?_ fun _ _ z => z)
  rintro v s' ⟨z, H', I', rz, q⟩
  exact SlX.cmpback rz ⟨z, H', I', rz, q⟩
/-- x != y, both of the class, which has no __ne__ of its own -/
def rNeO (C : Addr) (sp : Sp) (E : XK) : R2 := fun x y H Q => ∃ (a dx : Addr) (fs : List (Str × V)) (b dy : Addr) (gs : List (Str × V)), x = .ref a ∧ y = .ref b ∧ H a = some (.ins C dx fs) ∧ H b = some (.ins C dy gs) ∧ sp [x, y] H (fun z H' => ∃ r : Bool, z = .bl r ∧ Q (.bl (!r)) H') E
theorem op_neO (m : Spm X.K C "__eq__" f) (an : PySem.W.findIn X.K (.ref C) "__ne__" = some (some (.builtin "object.__ne__"))) (mo : PySem.W.mroIn X.K C (.type "object") = some true) (F : FnOk X.prog X.w X.K X.mg X.base CX n f fd ps sp) (hb : Binds X.K fd ps []) (hr : Room (n + 1) X.A) (hx : Passes CX X E) : OpR X (compareOp .NotEq) (rNeO C sp E) := by
  intro pins s σ H x y v u Q I rx ry h
  obtain ⟨a, dx, fs, b, dy, gs, rfl, rfl, ha, hb', q⟩ := h
  cases (show v = Value.ref a from rx)
  cases (show u = Value.ref b from ry)
  obtain ⟨ox, od, J⟩ := inst_of I ha
  obtain ⟨oy, ody, J'⟩ := inst_of I hb'
  show wpAny (model X.prog X.w) X.A (richCompare .NotEq (.ref a) (.ref b)) (EP X pins σ Q) X.xe s
  refine own_ne (by have := hr.un; omega) I.kIn J J'.type (by simp [PySem.W.notFirst]) an mo m.at_ m.fn (wpAny_mono (own_run (vs := [.ref a, .ref b]) F hb hx ⟨hr.in1, rfl⟩ I (.cons rfl (.cons rfl .nil)) q) ?_ fun _ _ z => z)
  rintro v s' ⟨z, H', I', rz, r, rfl, q⟩
  cases (show v = Value.bool r from rz)
  exact ⟨r, rfl, .bl (!r), H', I', rfl, q⟩
end
end Sm

set_option Elab.async false
set_option linter.all false
set_option maxRecDepth 100000
set_option maxHeartbeats 4000000
namespace Sm
open PySem PySem.Spec PyProof.Rows L2
/-! ### an own exception class without fields: C(), isinstance of it -/
theorem pmk_own0 {X : Cx} {C : Addr} {bmB : List Value} {B newId initId : String} {x : Str} {p pos : Pos} (F : ExcBaseFacts B newId initId bmB) (q : PySem.W.excIn X.K C bmB newId = true) (gC : X.mg x = some (.ref C))
    (kC : PySem.W.keepIn X.K (.ref C) = true) (r : Raises X (.ref C)) (hg : Gl X x) (hdb : (x == ("__debug__" : Str)) = false := by decide) : PMk X (.Call (.Name x p) [] [] pos) (fun _ H Q => Q (.ref C) none H) := by
  intro pins s σ H Q I h
  refine wpAny_Call_Name_kw (ld_glob I hg gC ?_ hdb)
  refine PySem.W.callWith_K0 I.kIn kC ?_
  show wpAny _ _ (call (.ref C) []) _ _ _
  obtain ⟨bm, N, nm, qn, bs, hdct, sn, sub, ab, col, dd, k0, k1, k2, k3, k5, mN, hC, hN, hni, T⟩ := exc_obj I.kIn q
  refine wpAny_call_exc_subT F T hC hN hni (fun h' e hm => ?_) (by show 0 ≤ sizeLine; exact Nat.zero_le _)
  exact mk_of I hm r h (I.hok.gone hm.new)
/-- isinstance of the exception that the suite holds, which has no dict: one class -/
def rIsX0 (K : PySem.W.Frag) (cls : Value) (d : Option Addr) (a : Addr) : List V → Hp → VK → Prop := fun xs H Q => ∃ (D : Addr) (c : V) (cv : Value) (b : Bool), cls = .ref D ∧ d = none ∧ ExcC K D ∧ xs = [.ref a, c] ∧ ClsV c cv ∧ PySem.W.kitOne K (.ref D) cv = some b ∧ Q (.bl b) H
theorem call_isX0 {X : Cx} {a : Addr} {cls : Value} {d : Option Addr} {oe : Obj} {pn : List (Addr × Obj)} (hz : Zc cls d oe) (hf : ∃ vs, oe.data = .fields vs) : CallR (X.suite a ((a, oe) :: pn)) (.builtin "isinstance") (rIsX0 X.K cls d a) := by
  intro pins s σ H xs us Q I r h
  obtain ⟨D, c, cv, b, rfl, rfl, C, rfl, k, e, q⟩ := h
  obtain ⟨ha, _⟩ := I.pin (a, oe) (List.mem_append_left _ List.mem_cons_self)
  obtain ⟨vs, hd⟩ := hf
  have J : PySem.W.InstAt s.heap a oe D none := ⟨ha, hz.1, by unfold PySem.W.notCls; rw [hd] <;> rfl, by rw [hz.2]; trivial⟩
  obtain ⟨cd, hc, _⟩ := PySem.W.any_some C.hd
  have Z := PySem.W.kitx_exc (x := a) (ox := oe) (od := none) (by rw [hc]; rfl) C.hg C.hk C.hs C.ha C.hn C.ht C.hm
  obtain ⟨u1, u2, rfl, r1, r2⟩ := vals2 r
  cases (show u1 = Value.ref a from r1)
  cases k.eq r2
  exact PySem.W.kia_one Z I.kIn J e (fun z => nomatch z) fun tk => ⟨.bl b, H, I.kept (t' := tk) fun _ _ z => z, rfl, q⟩
end Sm
namespace PySem.W
open PySem PyProof.Rows
theorem own_binT {prog : Program} {w : World} {A : Around} {E : Value → Shared → Prop} {s : Shared} {K : Frag} {x C f : Addr} {ox : Obj} {od : Option Obj} {T : String} {op : Operator} {b : Value} {fo ro : Option Value} {Q : Value → Shared → Prop} (X : K.In s.heap) (I : InstAt s.heap x ox C od)
    (hb : Looks (model prog w) s.heap (typeOf b) (.type T)) (hc : selfFirst K C = true) (hs : findIn K (.ref C) (PySem.dunder op.info.2) = some (some (.ref f))) (hf : isFn K (.ref f) = true) (hr : findIn K (.ref C) (dunderR op.info.2) = some none)
    (h1 : findIn K (.type T) (PySem.dunder op.info.2) = some fo) (h2 : findIn K (.type T) (dunderR op.info.2) = some ro) (hsub : subIn K (.type T) (.ref C) = some false)
    (h : wpAny (model prog w) A (call (.ref f) [.ref x, b]) (CmpBack Q) E s) : wpAny (model prog w) A (binaryOp op (.ref x) b) Q E s := by
  obtain ⟨cd, rest, hcd, hm⟩ := ksp_first hc
  cases hi : op.info with
  | mk sym nm =>
    rw [hi] at hs hr h1 h2
    have one := ksp_try X I hs hf h
    have fin : ∀ s0 : Shared, wpAny (model prog w) A (tryMethod (.ref x) (PySem.dunder nm) b) (fun r s' => ∃ v, r = some v ∧ Q v s') E s0 → wpAny (model prog w) A (tryMethod (.ref x) (PySem.dunder nm) b) (fun r s' => ∃ v, r = some v ∧ Q v s') E s0 := fun _ z => z
    obtain ⟨hh, g, d, tt, os⟩ := s
    have t1 : Looks (model prog w) hh (typeOf (.ref x)) (.ref C) := I.type
    have t2 : Looks (model prog w) hh (typeOf b) (.type T) := hb
    have s1 : Looks (model prog w) hh (fillsNumberSlot (.ref C) nm) true := fills_K X hcd hm hs
    have s2 : Looks (model prog w) hh (fillsNumberSlot (.type T) nm) ((fo.isSome && !isSeqSlot fo) || (ro.isSome && !isSeqSlot ro)) := ksp_fillsT X h1 h2
    have u1 : Looks (model prog w) hh (isSubtype (.type T) (.ref C)) false := looks_subIn X hsub
    have p1 : Looks (model prog w) hh (numberSlotInPython (.ref C) nm) true := ksp_inPy X hs hr (.inl rfl)
    have p2 : Looks (model prog w) hh (numberSlotInPython (.type T) nm) false := Looks.of_pure rfl
    have v2 : Looks (model prog w) hh (typeLookup (.type T) (dunderR nm)) ro := looks_findIn X h2
    have ne : (Value.ref C == Value.type T) = false := beq_eq_false_iff_ne.mpr fun q => nomatch q
    simp only [binaryOp, hi]
    refine wpAny_holding (wpAny_bind ?_)
    unfold binaryOp1
    refine wpAny_bind (t1.at (wpAny_bind (t2.at (wpAny_bind (s1.at ?_)))))
    simp only [ne, Bool.false_eq_true, if_false]
    revert s2
    generalize ((fo.isSome && !isSeqSlot fo) || (ro.isSome && !isSeqSlot ro)) = right
    intro s2
    cases right <;>
    · ksp_lk
      refine wpAny_mono one (fun r s' got => ?_) fun _ _ e => e
      obtain ⟨v, rfl, q⟩ := got
      ksp_lk
      exact q
end PySem.W
namespace Sm
open PySem PySem.Spec PyProof.Rows L2
/-- what the written part says of built-in kinds at the right of an own op -/
def kindsOk (K : PySem.W.Frag) (C : Addr) (op : Operator) : Bool := ["NoneType", "bool", "int", "str", "list", "tuple", "dict"].all fun T => (PySem.W.findIn K (.type T) (PySem.dunder op.info.2)).isSome && (PySem.W.findIn K (.type T) (dunderR op.info.2)).isSome && (PySem.W.subIn K (.type T) (.ref C) == some false)
theorem kindsOk_at {K : PySem.W.Frag} {C : Addr} {op : Operator} (h : kindsOk K C op = true) (d : PyData) : ∃ fo ro, PySem.W.findIn K (.type (tyN d)) (PySem.dunder op.info.2) = some fo ∧ PySem.W.findIn K (.type (tyN d)) (dunderR op.info.2) = some ro ∧ PySem.W.subIn K (.type (tyN d)) (.ref C) = some false := by
  have m : tyN d ∈ ["NoneType", "bool", "int", "str", "list", "tuple", "dict"] := by cases d <;> simp [tyN]
  have q := List.all_eq_true.mp h _ m
  rw [Bool.and_eq_true, Bool.and_eq_true] at q
  obtain ⟨⟨a, b⟩, c⟩ := q
  obtain ⟨fo, ea⟩ := Option.isSome_iff_exists.mp a
  obtain ⟨ro, eb⟩ := Option.isSome_iff_exists.mp b
  exact ⟨fo, ro, ea, eb, eq_of_beq c⟩
section
variable {X : Cx} {CX : CXT} {n : Nat} {f C : Addr} {fd : FuncData} {ps : List Str} {sp : Sp} {E : XK}
/-- x op y, x of the class, y of any built-in kind -/
def rBinQ (K : PySem.W.Frag) (C : Addr) (sp : Sp) (E : XK) : R2 := fun x y H Q => ∃ (a dx : Addr) (fs : List (Str × V)) (d : PyData), x = .ref a ∧ H a = some (.ins C dx fs) ∧ Dq K H y d ∧ sp [x, y] H Q E
theorem op_binQ {op : Operator} (m : Spm X.K C (PySem.dunder op.info.2) f) (hc : PySem.W.selfFirst X.K C = true) (nr : PySem.W.findIn X.K (.ref C) (dunderR op.info.2) = some none) (kd : kindsOk X.K C op = true) (F : FnOk X.prog X.w X.K X.mg X.base CX n f fd ps sp) (hb : Binds X.K fd ps []) (hr : Room n X.A) (hx : Passes CX X E) : OpR X (binaryOp op) (rBinQ X.K C sp E) := by
  intro pins s σ H x y v u Q I rx ry h
  obtain ⟨a, dx, fs, d, rfl, ha, hy, q⟩ := h
  cases (show v = Value.ref a from rx)
  obtain ⟨ox, od, J⟩ := inst_of I ha
  obtain ⟨P, Z, p, _⟩ := kit_of I ry hy.ty
  obtain ⟨fo, ro, e1, e2, e3⟩ := kindsOk_at kd d
  refine PySem.W.own_binT I.kIn J (Z.ty _ _ I.kIn p) hc m.at_ m.fn nr e1 e2 e3 (wpAny_mono (own_run (vs := [.ref a, y]) F hb hx ⟨hr, rfl⟩ I (.cons rfl (.cons ry .nil)) q) ?_ fun _ _ z => z)
  rintro v s' ⟨z, H', I', rz, q⟩
  exact SlX.cmpback rz ⟨z, H', I', rz, q⟩
end
end Sm

set_option Elab.async false
set_option linter.all false
set_option maxRecDepth 100000
set_option maxHeartbeats 4000000
namespace Sm
open PySem PySem.Spec PyProof.Rows L2
/-! ### comprehensions whose items are told one by one, what stands stays -/
abbrev lcmQ (H : Hp) (D : Addr) (fv : Nat → V) (i : Nat) : VK := fun y H4 => ∃ acc, H4 D = some (.lst acc) ∧ acc.length < sizeLine ∧ Same H (upd H4 D (.lst (acc ++ [y]))) ∧ upd H4 D (.lst (acc ++ [y])) D = some (.lst ((List.range (i + 1)).map fv))
theorem lcm_step {H H' H4 : Hp} {D : Addr} {i n : Nat} {fv : Nat → V} (nD : H D = none) (s : Same H H') (hD : H' D = some (.lst ((List.range i).map fv))) (hi : i ≤ n) (ln : n ≤ 20000) (s4 : Same H' H4) :
    ∃ acc, H4 D = some (.lst acc) ∧ acc.length < sizeLine ∧ Same H (upd H4 D (.lst (acc ++ [fv i]))) ∧ upd H4 D (.lst (acc ++ [fv i])) D = some (.lst ((List.range (i + 1)).map fv)) := by
  refine ⟨_, s4 _ _ hD, ?_, fun b o e => ?_, ?_⟩
  · rw [List.length_map, List.length_range]
    exact Nat.lt_of_le_of_lt (show i ≤ 20000 by omega) (by decide)
  · rw [upd_ne (ne_of_none e nD)]
    exact s4 _ _ (s _ _ e)
  · rw [upd_same, List.range_succ, List.map_append]
    rfl
theorem lc_mT {K : PySem.W.Frag} {a : Addr} {xs : List V} {g : TG} {te : TE} {vs : List Nat} {σ : L2.St} {H : Hp} {D : Addr} {Qd : Hp → Prop} (fv : Nat → V) (ha : H a = some (.tup xs)) (nD : H D = none) (ln : xs.length ≤ 20000)
    (hs : ∀ i x H', xs[i]? = some x → Same H H' → ∀ R : VK, (∀ H4, Same H' H4 → R (fv i) H4) → g x (wipe σ vs) H' fun σ2 H2 => wipe σ2 vs = wipe σ vs ∧ te σ2 H2 R)
    (mono : ∀ x H' (A B : L2.St → Hp → Prop), (∀ σ2 H2, A σ2 H2 → B σ2 H2) → g x (wipe σ vs) H' A → g x (wipe σ vs) H' B)
    (hd : ∀ H', Same H H' → H' D = some (.lst ((List.range xs.length).map fv)) → Qd H') :
    ∃ W : Nat → Nat → Hp → Prop, (∃ m, W 0 m (upd H D (.lst []))) ∧ ∀ i m H, W i m H → ((Itt K a).stop i H ∧ Qd H) ∨ ((Itt K a).go i H ∧ ∃ Nx : Hp → Prop, (∀ H', Nx H' → ∃ m', m' < m ∧ W (i + 1) m' H') ∧ ∀ x H', (Itt K a).yld i H x H' → g x (wipe σ vs) H' fun σ2 H2 => wipe σ2 vs = wipe σ vs ∧ tYes σ2 H2 fun b H3 =>
        if b = true then te σ2 H3 fun y H4 => ∃ acc, H4 D = some (.lst acc) ∧ acc.length < sizeLine ∧ Nx (upd H4 D (.lst (acc ++ [y]))) else Nx H3) := by
  refine lc_tup (K := K) (a := a) (xs := xs) (fun i H' => Same H H' ∧ H' D = some (.lst ((List.range i).map fv))) ⟨same_upd nD, upd_same⟩ (fun i H' _ h => SqT.of (h.1 _ _ ha)) ?_ (fun H' h => hd H' h.1 h.2)
  rintro i x H' hx ⟨s, hD⟩
  have il : i < xs.length := (List.getElem?_eq_some_iff.mp hx).1
  refine mono x H' _ _ ?_ (hs i x H' hx s (lcmQ H D fv i) fun H4 s4 => lcm_step nD s hD (Nat.le_of_lt il) ln s4)
  rintro σ2 H2 ⟨e, h⟩
  refine ⟨e, ?_⟩
  unfold tYes
  exact iteT h
theorem lc_mL {K : PySem.W.Frag} {a : Addr} {xs : List V} {g : TG} {te : TE} {vs : List Nat} {σ : L2.St} {H : Hp} {D : Addr} {Qd : Hp → Prop} (fv : Nat → V) (ha : H a = some (.lst xs)) (nD : H D = none) (ln : xs.length ≤ 20000)
    (hs : ∀ i x H', xs[i]? = some x → Same H H' → ∀ R : VK, (∀ H4, Same H' H4 → R (fv i) H4) → g x (wipe σ vs) H' fun σ2 H2 => wipe σ2 vs = wipe σ vs ∧ te σ2 H2 R)
    (mono : ∀ x H' (A B : L2.St → Hp → Prop), (∀ σ2 H2, A σ2 H2 → B σ2 H2) → g x (wipe σ vs) H' A → g x (wipe σ vs) H' B)
    (hd : ∀ H', Same H H' → H' D = some (.lst ((List.range xs.length).map fv)) → Qd H') :
    ∃ W : Nat → Nat → Hp → Prop, (∃ m, W 0 m (upd H D (.lst []))) ∧ ∀ i m H, W i m H → ((Itl K a).stop i H ∧ Qd H) ∨ ((Itl K a).go i H ∧ ∃ Nx : Hp → Prop, (∀ H', Nx H' → ∃ m', m' < m ∧ W (i + 1) m' H') ∧ ∀ x H', (Itl K a).yld i H x H' → g x (wipe σ vs) H' fun σ2 H2 => wipe σ2 vs = wipe σ vs ∧ tYes σ2 H2 fun b H3 =>
        if b = true then te σ2 H3 fun y H4 => ∃ acc, H4 D = some (.lst acc) ∧ acc.length < sizeLine ∧ Nx (upd H4 D (.lst (acc ++ [y]))) else Nx H3) := by
  refine lc_list (K := K) (a := a) (xs := xs) (fun i H' => Same H H' ∧ H' D = some (.lst ((List.range i).map fv))) ⟨same_upd nD, upd_same⟩ (fun i H' _ h => SqL.of (h.1 _ _ ha)) ?_ (fun H' h => hd H' h.1 h.2)
  rintro i x H' hx ⟨s, hD⟩
  have il : i < xs.length := (List.getElem?_eq_some_iff.mp hx).1
  refine mono x H' _ _ ?_ (hs i x H' hx s (lcmQ H D fv i) fun H4 s4 => lcm_step nD s hD (Nat.le_of_lt il) ln s4)
  rintro σ2 H2 ⟨e, h⟩
  refine ⟨e, ?_⟩
  unfold tYes
  exact iteT h
theorem lc_mR {lo : Int} {n : Nat} {g : TG} {te : TE} {vs : List Nat} {σ : L2.St} {H : Hp} {D : Addr} {Qd : Hp → Prop} (fv : Nat → V) (nD : H D = none) (ln : n ≤ 20000)
    (hs : ∀ i H', i < n → Same H H' → ∀ R : VK, (∀ H4, Same H' H4 → R (fv i) H4) → g (.int (lo + i)) (wipe σ vs) H' fun σ2 H2 => wipe σ2 vs = wipe σ vs ∧ te σ2 H2 R)
    (mono : ∀ x H' (A B : L2.St → Hp → Prop), (∀ σ2 H2, A σ2 H2 → B σ2 H2) → g x (wipe σ vs) H' A → g x (wipe σ vs) H' B)
    (hd : ∀ H', Same H H' → H' D = some (.lst ((List.range n).map fv)) → Qd H') :
    ∃ W : Nat → Nat → Hp → Prop, (∃ m, W 0 m (upd H D (.lst []))) ∧ ∀ i m H, W i m H → ((Itr lo n).stop i H ∧ Qd H) ∨ ((Itr lo n).go i H ∧ ∃ Nx : Hp → Prop, (∀ H', Nx H' → ∃ m', m' < m ∧ W (i + 1) m' H') ∧ ∀ x H', (Itr lo n).yld i H x H' → g x (wipe σ vs) H' fun σ2 H2 => wipe σ2 vs = wipe σ vs ∧ tYes σ2 H2 fun b H3 =>
        if b = true then te σ2 H3 fun y H4 => ∃ acc, H4 D = some (.lst acc) ∧ acc.length < sizeLine ∧ Nx (upd H4 D (.lst (acc ++ [y]))) else Nx H3) := by
  refine lc_range (fun i H' => Same H H' ∧ H' D = some (.lst ((List.range i).map fv))) ⟨same_upd nD, upd_same⟩ ?_ (fun H' h => hd H' h.1 h.2)
  rintro i H' il ⟨s, hD⟩
  refine mono _ H' _ _ ?_ (hs i H' il s (lcmQ H D fv i) fun H4 s4 => lcm_step nD s hD (Nat.le_of_lt il) ln s4)
  rintro σ2 H2 ⟨e, h⟩
  refine ⟨e, ?_⟩
  unfold tYes
  exact iteT h
/-- one name -/
theorem gName_mono {j : Nat} {σ : L2.St} : ∀ (x : V) (H' : Hp) (A B : L2.St → Hp → Prop), (∀ σ2 H2, A σ2 H2 → B σ2 H2) → gName j x σ H' A → gName j x σ H' B := fun x H' A B h a => h _ _ a
end Sm

set_option Elab.async false
set_option linter.all false
set_option maxRecDepth 100000
set_option maxHeartbeats 4000000
namespace Sm
open PySem PySem.Spec PyProof.Rows L2
/-! ### max of a tuple of ints -/
section
variable {prog : Program} {w : World} {A : Around} {E : Value → Shared → Prop} {s : Shared} {l : Addr} {its : List Value} {ns : List Int} {Q : Value → Shared → Prop}
theorem iter_intTup {xs : Array (Int × Tok)} (hl : s.heap.IsTuple l (intItems xs))
    (h : ∀ s₂ : Shared, s₂ = { s with heap := s.heap.push { cls := .type "tuple_iterator", data := .fields #[.ref l, .int 0 0] } } →
      (s₂.heap.IsTupleIter s.heap.objs.size l 0 ∧ s₂.heap.IsTuple l (intItems xs)) → (∀ b ∈ [s.heap.objs.size, l], b < s₂.heap.objs.size) → l ≠ s.heap.objs.size → Q (.ref s.heap.objs.size) s₂) :
    wpAny (model prog w) A (pyIter (.ref l)) Q E s := by
  have hlt : l < s.heap.objs.size := by obtain ⟨_, e, _⟩ := hl; exact Heap.lt_size e
  refine wpAny_pyIter_tuple hl (h _ rfl ⟨⟨_, Heap.get?_push_size _ rfl, rfl, rfl⟩, hl.push _⟩ (fun b hb => ?_) (Nat.ne_of_lt hlt))
  show b < (s.heap.push _).objs.size
  rw [Heap.size_push]
  rcases List.mem_cons.mp hb with rfl | hb
  · exact Nat.lt_succ_self _
  · rcases List.mem_cons.mp hb with rfl | hb
    · exact Nat.lt_succ_of_lt hlt
    · cases hb
theorem old_keptT {h' : Heap} (hk : ∀ b o, b ∉ [s.heap.objs.size] → (s.heap.push { cls := .type "tuple_iterator", data := .fields #[.ref l, .int 0 0] }).get? b = some o → h'.get? b = some o) :
    ∀ b o, s.heap.get? b = some o → h'.get? b = some o := fun b o e => by
  refine hk b o (fun hm => ?_) (Heap.get?_push_of_some _ e)
  rcases List.mem_cons.mp hm with e1 | hm
  · exact absurd (e1 ▸ Heap.lt_size e) (Nat.lt_irrefl _)
  · cases hm
theorem max_intTup {xs : Array (Int × Tok)} (hh : A.handled = none) (hl : s.heap.IsTuple l (intItems xs)) (hne : 0 < xs.size)
    (h : ∀ v h' tk, (intItems xs)[argBest (fun i j => decide (numAt xs i > numAt xs j)) (xs.size - 1)]? = some v → (∀ b o, s.heap.get? b = some o → h'.get? b = some o) → Q v { s with heap := h', toks := tk }) :
    wpAny (model prog w) A (call (.builtin "max") [.ref l]) Q E s := by
  have hlt : l < s.heap.objs.size := by obtain ⟨_, e, _⟩ := hl; exact Heap.lt_size e
  refine call_max_walk (iter_intTup hl fun s₂ e st hfp hlI => ?_)
  subst e
  refine ⟨_, _, _, _, _, _, _, rfl, Walks.tuple (A := A.in1) hh _ l hlI (intItems xs), st, hfp, by simpa [intItems] using hne, CmpOf.ints_gt (numAt xs) (fun _ _ => intItems_at), fun v h' tk hP hk => ?_⟩
  exact h v h' tk (by simpa [intItems] using hP) (old_keptT hk)
theorem max_rawT (hh : A.handled = none) (hl : s.heap.IsTuple l its.toArray) (hi : IntsAre its ns) (hne : 0 < ns.length)
    (h : ∀ h' tk M t', (∀ b o, s.heap.get? b = some o → h'.get? b = some o) → M ∈ ns → (∀ a, a ∈ ns → a ≤ M) → Q (.int M t') { s with heap := h', toks := tk }) : wpAny (model prog w) A (call (.builtin "max") [.ref l]) Q E s := by
  obtain ⟨xs, e⟩ := hi.allInts.items
  have hn : numsOf (intItems xs).toList = ns := by rw [← e]; exact hi.numsOf
  rw [nums_intItems] at hn
  subst hn
  rw [e] at hl
  have hsz : 0 < xs.size := by simpa using hne
  refine max_intTup hh hl hsz fun v h' tk hv hk => ?_
  obtain ⟨t, rfl⟩ := intItems_at hv
  obtain ⟨h1, h2⟩ := argBest_gt (numAt xs) (xs.size - 1)
  refine h h' tk _ t hk ?_ fun a ha => ?_
  · rw [numAt_eq]; exact PySem.getD_mem (by rw [List.length_map, Array.length_toList]; omega)
  · obtain ⟨j, hj, rfl⟩ := mem_getD ha
    rw [List.length_map, Array.length_toList] at hj
    rw [← numAt_eq]; exact h2 j (by omega)
end
section
variable {X : Cx}
def rMaxT (K : PySem.W.Frag) : List V → Hp → VK → Prop := fun vs H Q => ∃ (a : Addr) (ns : List Int), vs = [V.ref a] ∧ SqT K H a (ns.map V.int) ∧ 0 < ns.length ∧ ∀ m, m ∈ ns → (∀ y, y ∈ ns → y ≤ m) → Q (.int m) H
theorem cr_maxT (hc : X.calm = true) : CallR X (.builtin "max") (rMaxT X.K) := by
  intro pins s σ H vs us Q I r h
  obtain ⟨a, ns, rfl, hs, hne, q⟩ := h
  obtain ⟨its, rv, hl, _⟩ := I.tuple hs
  rw [Vals.ref1 r]
  exact max_rawT (I.ok.hd hc) hl (rv.ints) hne fun h' tk m t' hk h1 h2 => ⟨.int _, H, I.kept hk, ⟨_, rfl⟩, q m h1 h2⟩
end
theorem walk_zipT {K : PySem.W.Frag} {a b : Addr} {xs ys : List V} {n : Nat} (h1 : xs.length = n) (h2 : ys.length = n) : Walk (RZ.ItzT K a b) n (fun H => SqT K H a xs ∧ SqT K H b ys) (YPair (fun i => xs[i]?) (fun i => ys[i]?)) := by
  refine ⟨fun i _ hi q => ?_, fun _ q => ⟨xs, ys, q.1, q.2, by omega⟩, fun i H v H' _ q y => ?_⟩
  · have h1 : i < xs.length := by omega
    have h2 : i < ys.length := by omega
    exact ⟨xs, ys, xs[i], ys[i], q.1, q.2, by simp [h1], by simp [h2]⟩
  · obtain ⟨T, x, z, h1, h2, h3, h4, h5⟩ := y
    exact ⟨T, x, z, h1, h2, h3, h4 xs q.1, h5 ys q.2⟩
end Sm

set_option Elab.async false
set_option linter.all false
set_option maxRecDepth 100000
set_option maxHeartbeats 4000000
namespace Sm
open PySem PySem.Spec PyProof.Rows L2
/-! ### comprehensions over zip of two tuples, over an enumerate, told item by item -/
theorem gTup2_mono {K : PySem.W.Frag} {p q : Nat} {σ : L2.St} : ∀ (x : V) (H' : Hp) (A B : L2.St → Hp → Prop), (∀ σ2 H2, A σ2 H2 → B σ2 H2) → gTup K 2 (gCons (gName p) (gCons (gName q) gNil)) x σ H' A → gTup K 2 (gCons (gName p) (gCons (gName q) gNil)) x σ H' B := by
  rintro x H' A B h ⟨a, xs, e, hq, hl, v, r, e2, v2, r2, e3, e4, z⟩
  exact ⟨a, xs, e, hq, hl, v, r, e2, v2, r2, e3, e4, h _ _ z⟩
theorem lc_mZ {K : PySem.W.Frag} {a b : Addr} {xs ys : List V} {n : Nat} {g : TG} {te : TE} {vs : List Nat} {σ : L2.St} {H : Hp} {D : Addr} {Qd : Hp → Prop} (fv : Nat → V) (ha : H a = some (.tup xs)) (hb : H b = some (.tup ys)) (l1 : xs.length = n) (l2 : ys.length = n) (nD : H D = none) (ln : n ≤ 20000)
    (hs : ∀ i x y T H', xs[i]? = some x → ys[i]? = some y → Same H H' → H' T = some (.tup [x, y]) → ∀ R : VK, (∀ H4, Same H' H4 → R (fv i) H4) → g (.ref T) (wipe σ vs) H' fun σ2 H2 => wipe σ2 vs = wipe σ vs ∧ te σ2 H2 R)
    (mono : ∀ x H' (A B : L2.St → Hp → Prop), (∀ σ2 H2, A σ2 H2 → B σ2 H2) → g x (wipe σ vs) H' A → g x (wipe σ vs) H' B)
    (hd : ∀ H', Same H H' → H' D = some (.lst ((List.range n).map fv)) → Qd H') :
    ∃ W : Nat → Nat → Hp → Prop, (∃ m, W 0 m (upd H D (.lst []))) ∧ ∀ i m H, W i m H → ((RZ.ItzT K a b).stop i H ∧ Qd H) ∨ ((RZ.ItzT K a b).go i H ∧ ∃ Nx : Hp → Prop, (∀ H', Nx H' → ∃ m', m' < m ∧ W (i + 1) m' H') ∧ ∀ x H', (RZ.ItzT K a b).yld i H x H' → g x (wipe σ vs) H' fun σ2 H2 => wipe σ2 vs = wipe σ vs ∧ tYes σ2 H2 fun b H3 =>
        if b = true then te σ2 H3 fun y H4 => ∃ acc, H4 D = some (.lst acc) ∧ acc.length < sizeLine ∧ Nx (upd H4 D (.lst (acc ++ [y]))) else Nx H3) := by
  refine lc_it (walk_zipT (K := K) (a := a) (b := b) l1 l2) (fun i H' => Same H H' ∧ H' D = some (.lst ((List.range i).map fv))) ⟨same_upd nD, upd_same⟩ (fun i H' _ h => ⟨SqT.of (h.1 _ _ ha), SqT.of (h.1 _ _ hb)⟩) ?_ (fun H' h => hd H' h.1 h.2)
  rintro i x H1 H1' il ⟨s, hD⟩ ⟨T, x1, y1, rfl, hT, rfl, hx, hy⟩
  have sT := same_upd (o := .tup [x1, y1]) hT
  refine mono _ _ _ _ ?_ (hs i x1 y1 T _ hx hy (s.trans sT) upd_same (lcmQ H D fv i) fun H4 s4 => lcm_step nD (s.trans sT) (sT _ _ hD) (Nat.le_of_lt il) ln s4)
  rintro σ2 H2 ⟨e, h⟩
  refine ⟨e, ?_⟩
  unfold tYes
  exact iteT h
end Sm

set_option maxHeartbeats 4000000
namespace Sm
/-! offers, boards, and what leads where -/
structure Of where
  a : Nat
  x : Int
  b : Nat
  y : Int
def Of.ns (o : Of) : List Int := [(o.a : Int), o.x, (o.b : Int), o.y]
structure OfOk (k : Nat) (o : Of) : Prop where
  a : o.a < k
  b : o.b < k
  ne : o.a ≠ o.b
  x0 : 1 ≤ o.x
  x1 : o.x ≤ 30
  y0 : 0 ≤ o.y
  y1 : o.y ≤ 30
def Edge (L : List Of) (a b : Nat) : Prop := ∃ o ∈ L, o.a = a ∧ o.b = b ∧ 0 < o.y
def Rn (L : List Of) (s : Nat) : Nat → Nat → Prop
  | 0, c => c = s
  | n + 1, c => Rn L s n c ∨ ∃ b, Rn L s n b ∧ Edge L b c
def Lead (L : List Of) (s c : Nat) : Prop := ∃ n, Rn L s n c
section
variable {L : List Of} {s c d k : Nat}
theorem Rn.up {n m : Nat} (h : n ≤ m) (r : Rn L s n c) : Rn L s m c := by
  induction m with
  | zero => rw [show n = 0 by omega] at r; exact r
  | succ m ih =>
    by_cases q : n = m + 1
    · rw [← q]; exact r
    · exact .inl (ih (by omega))
theorem Lead.self : Lead L s s := ⟨0, rfl⟩
theorem Lead.step (h : Lead L s c) (e : Edge L c d) : Lead L s d := by
  obtain ⟨n, r⟩ := h
  exact ⟨n + 1, .inr ⟨c, r, e⟩⟩
theorem Lead.closed {S : Nat → Prop} (h0 : S s) (hs : ∀ a b, S a → Edge L a b → S b) (h : Lead L s c) : S c := by
  obtain ⟨n, r⟩ := h
  induction n generalizing c with
  | zero => rw [show c = s from r]; exact h0
  | succ n ih =>
    rcases r with r | ⟨b, r, e⟩
    · exact ih r
    · exact hs _ _ (ih r) e
theorem Lead.trans (h1 : Lead L s c) (h2 : Lead L c d) : Lead L s d := h2.closed (S := fun x => Lead L s x) h1 fun _ _ h e => h.step e
theorem filter_less {α : Type} {p q : α → Bool} : ∀ {l : List α}, (∀ x ∈ l, p x = true → q x = true) → (∃ x ∈ l, q x = true ∧ p x = false) → (l.filter p).length + 1 ≤ (l.filter q).length
  | [], _, h => by obtain ⟨_, h, _⟩ := h; cases h
  | a :: l, h, ⟨x, hx, h1, h2⟩ => by
    have le : (l.filter p).length ≤ (l.filter q).length := by
      clear hx h1 h2
      induction l with
      | nil => exact Nat.le_refl _
      | cons b l ih =>
        have i := ih fun x hx => by
          rcases List.mem_cons.mp hx with e | e
          · exact h x (by rw [e]; exact List.mem_cons_self)
          · exact h x (List.mem_cons_of_mem _ (List.mem_cons_of_mem _ e))
        have hb := h b (List.mem_cons_of_mem _ List.mem_cons_self)
        rw [List.filter_cons, List.filter_cons]
        cases e : p b with
        | true => rw [if_pos rfl, if_pos (hb e)]; simp; exact i
        | false =>
          rw [if_neg Bool.false_ne_true]
          split
          · simp; omega
          · exact i
    rw [List.filter_cons, List.filter_cons]
    rcases List.mem_cons.mp hx with e | e
    · subst e
      rw [h1, h2, if_neg Bool.false_ne_true, if_pos rfl]
      simp
      exact le
    · have i := filter_less (fun x hx => h x (List.mem_cons_of_mem _ hx)) ⟨x, e, h1, h2⟩
      have ha := h a List.mem_cons_self
      cases e : p a with
      | true => rw [if_pos rfl, if_pos (ha e)]; simp; omega
      | false =>
        rw [if_neg Bool.false_ne_true]
        split
        · simp; omega
        · exact i
noncomputable def cnt (L : List Of) (s k n : Nat) : Nat := ((List.range k).filter fun c => @decide (Rn L s n c) (Classical.propDecidable _)).length
theorem cdec {p : Prop} : (@decide p (Classical.propDecidable _)) = true ↔ p := @decide_eq_true_iff p (Classical.propDecidable _)
theorem cdecf {p : Prop} : (@decide p (Classical.propDecidable _)) = false ↔ ¬ p := @decide_eq_false_iff_not p (Classical.propDecidable _)
theorem Rn.lt {n : Nat} (hL : ∀ o ∈ L, OfOk k o) (hs : s < k) (r : Rn L s n c) : c < k := by
  induction n generalizing c with
  | zero => rw [show c = s from r]; exact hs
  | succ n ih =>
    rcases r with r | ⟨b, r, o, ho, _, e, _⟩
    · exact ih r
    · rw [← e]; exact (hL o ho).b
theorem Lead.lt (hL : ∀ o ∈ L, OfOk k o) (hs : s < k) (h : Lead L s c) : c < k := by
  obtain ⟨n, r⟩ := h
  exact r.lt hL hs
theorem Lead.to (hL : ∀ o ∈ L, OfOk k o) (hs : s < k) (h : Lead L s c) : Rn L s k c := by
  have key : ∀ n, (∃ m, m ≤ n ∧ ∀ c, Rn L s (m + 1) c → Rn L s m c) ∨ n + 1 ≤ cnt L s k n := by
    intro n
    induction n with
    | zero =>
      right
      have : 0 < cnt L s k 0 := List.length_pos_of_mem (a := s) (List.mem_filter.mpr ⟨List.mem_range.mpr hs, cdec.mpr rfl⟩)
      omega
    | succ n ih =>
      rcases ih with ⟨m, h1, h2⟩ | ih
      · exact .inl ⟨m, by omega, h2⟩
      · rcases Classical.em (∀ c, Rn L s (n + 1) c → Rn L s n c) with q | q
        · exact .inl ⟨n, by omega, q⟩
        · right
          obtain ⟨c, hc⟩ := Classical.not_forall.mp q
          obtain ⟨h1, h2⟩ := Classical.not_imp.mp hc
          have := filter_less (l := List.range k) (p := fun c => @decide (Rn L s n c) (Classical.propDecidable _)) (q := fun c => @decide (Rn L s (n + 1) c) (Classical.propDecidable _))
            (fun x _ hx => cdec.mpr (.inl (cdec.mp hx))) ⟨c, List.mem_range.mpr (h1.lt hL hs), cdec.mpr h1, cdecf.mpr h2⟩
          unfold cnt at ih ⊢
          omega
  rcases key k with ⟨m, h1, h2⟩ | q
  · refine Rn.up h1 ?_
    exact h.closed (S := fun x => Rn L s m x) (Rn.up (Nat.zero_le _) rfl) fun a b ha e => h2 b (.inr ⟨a, ha, e⟩)
  · have : cnt L s k k ≤ k := by
      unfold cnt
      exact Nat.le_trans (List.length_filter_le ..) (by rw [List.length_range]; exact Nat.le_refl _)
    omega
end
/-! sorted lists -/
theorem srt_eq {α : Type} {lt : α → α → Prop} (irr : ∀ x, ¬ lt x x) (tr : ∀ x y z, lt x y → lt y z → lt x z) : ∀ {l m : List α}, l.Pairwise lt → m.Pairwise lt → (∀ x, x ∈ l ↔ x ∈ m) → l = m
  | [], [], _, _, _ => rfl
  | [], b :: m, _, _, h => by have := (h b).mpr List.mem_cons_self; cases this
  | a :: l, [], _, _, h => by have := (h a).mp List.mem_cons_self; cases this
  | a :: l, b :: m, h1, h2, h => by
    obtain ⟨p1, q1⟩ := List.pairwise_cons.mp h1
    obtain ⟨p2, q2⟩ := List.pairwise_cons.mp h2
    have e : a = b := by
      rcases List.mem_cons.mp ((h a).mp List.mem_cons_self) with e | e
      · exact e
      · rcases List.mem_cons.mp ((h b).mpr List.mem_cons_self) with f | f
        · exact f.symm
        · exact (irr a (tr _ _ _ (p1 b f) (p2 a e))).elim
    subst e
    rw [srt_eq irr tr q1 q2 fun x => ⟨fun hx => ?_, fun hx => ?_⟩]
    · rcases List.mem_cons.mp ((h x).mp (List.mem_cons_of_mem _ hx)) with e | e
      · subst e; exact (irr _ (p1 _ hx)).elim
      · exact e
    · rcases List.mem_cons.mp ((h x).mpr (List.mem_cons_of_mem _ hx)) with e | e
      · subst e; exact (irr _ (p2 _ hx)).elim
      · exact e
theorem range_lt (k : Nat) : (List.range k).Pairwise (· < ·) := List.pairwise_lt_range
noncomputable def leadsL (L : List Of) (k s : Nat) : List Nat := (List.range k).filter fun c => @decide (Lead L s c) (Classical.propDecidable _)
noncomputable def backs (L : List Of) (k s : Nat) : List Nat := (List.range k).filter fun c => @decide (Lead L s c ∧ Lead L c s) (Classical.propDecidable _)
theorem mem_leads {L : List Of} {k s c : Nat} : c ∈ leadsL L k s ↔ c < k ∧ Lead L s c := by
  unfold leadsL
  rw [List.mem_filter, List.mem_range, cdec]
theorem mem_backs {L : List Of} {k s c : Nat} : c ∈ backs L k s ↔ c < k ∧ Lead L s c ∧ Lead L c s := by
  unfold backs
  rw [List.mem_filter, List.mem_range, cdec]
theorem backs_same {L : List Of} {k s c : Nat} (h : c ∈ backs L k s) : backs L k c = backs L k s := by
  obtain ⟨h0, h1, h2⟩ := mem_backs.mp h
  unfold backs
  refine List.filter_congr fun x _ => ?_
  have : (Lead L c x ∧ Lead L x c) ↔ (Lead L s x ∧ Lead L x s) := ⟨fun ⟨a, b⟩ => ⟨h1.trans a, b.trans h2⟩, fun ⟨a, b⟩ => ⟨h2.trans a, b.trans h1⟩⟩
  rw [Bool.eq_iff_iff, cdec, cdec]
  exact this
theorem backs_self {L : List Of} {k s : Nat} (h : s < k) : s ∈ backs L k s := mem_backs.mpr ⟨h, .self, .self⟩
theorem leads_lt (L : List Of) (k s : Nat) : (leadsL L k s).Pairwise (· < ·) := (range_lt k).filter _
theorem backs_lt (L : List Of) (k s : Nat) : (backs L k s).Pairwise (· < ·) := (range_lt k).filter _
theorem backs_len (L : List Of) (k s : Nat) : (backs L k s).length ≤ k := Nat.le_trans (List.length_filter_le ..) (by rw [List.length_range]; exact Nat.le_refl _)
theorem leads_len (L : List Of) (k s : Nat) : (leadsL L k s).length ≤ k := Nat.le_trans (List.length_filter_le ..) (by rw [List.length_range]; exact Nat.le_refl _)
theorem backs_filter (L : List Of) (k s : Nat) : (leadsL L k s).filter (fun c => @decide (Lead L c s) (Classical.propDecidable _)) = backs L k s := by
  unfold leadsL backs
  rw [List.filter_filter]
  refine List.filter_congr fun x _ => ?_
  rw [Bool.eq_iff_iff, Bool.and_eq_true, cdec, cdec, cdec]
  exact ⟨fun ⟨a, b⟩ => ⟨b, a⟩, fun ⟨a, b⟩ => ⟨b, a⟩⟩
theorem nd_len {α : Type} [DecidableEq α] : ∀ {l m : List α}, l.Nodup → (∀ x, x ∈ l → x ∈ m) → l.length ≤ m.length
  | [], _, _, _ => Nat.zero_le _
  | a :: l, m, hn, hs => by
    have hm : a ∈ m := hs a List.mem_cons_self
    obtain ⟨n1, n2⟩ := List.nodup_cons.mp hn
    have ih := nd_len (m := m.erase a) n2 fun x hx => (List.mem_erase_of_ne (by rintro rfl; exact n1 hx)).mpr (hs x (List.mem_cons_of_mem _ hx))
    rw [List.length_erase_of_mem hm] at ih
    have := List.length_pos_of_mem hm
    simp only [List.length_cons]
    omega
/-- numbers as integers -/
abbrev ni (l : List Nat) : List Int := l.map fun (c : Nat) => (c : Int)
theorem mem_ni {l : List Nat} {c : Nat} : (c : Int) ∈ ni l ↔ c ∈ l := by
  constructor
  · intro h
    obtain ⟨d, hd, e⟩ := List.mem_map.mp h
    rw [← Int.ofNat.inj e]
    exact hd
  · intro h
    exact List.mem_map.mpr ⟨c, h, rfl⟩
theorem ni_sorted {l : List Nat} (h : l.Pairwise (· < ·)) : (ni l).Pairwise (· < ·) := by
  rw [List.pairwise_map]
  exact h.imp fun q => Int.ofNat_lt.mpr q
theorem ni_nodup {l : List Nat} (h : l.Nodup) : (ni l).Nodup := by
  unfold List.Nodup at h ⊢
  rw [List.pairwise_map]
  exact h.imp fun q e => q (Int.ofNat.inj e)
/-- a sorted arrangement of given numbers -/
theorem ni_sort {F l : List Nat} {ys : List Int} (pm : ys.Perm (ni F)) (le : ys.Pairwise (· ≤ ·)) (nd : F.Nodup) (up : l.Pairwise (· < ·)) (h : ∀ c, c ∈ F ↔ c ∈ l) : ys = ni l := by
  have ny : ys.Nodup := (pm.nodup_iff).mpr (ni_nodup nd)
  have lt : ys.Pairwise (· < ·) := by
    have both := List.Pairwise.and le ny
    exact both.imp fun ⟨a, b⟩ => by omega
  refine srt_eq (lt := fun a b : Int => a < b) (fun x => Int.lt_irrefl x) (fun x y z => Int.lt_trans) lt (ni_sorted up) fun x => ?_
  rw [pm.mem_iff]
  constructor
  · intro hx
    obtain ⟨c, hc, rfl⟩ := List.mem_map.mp hx
    exact mem_ni.mpr ((h c).mp hc)
  · intro hx
    obtain ⟨c, hc, rfl⟩ := List.mem_map.mp hx
    exact mem_ni.mpr ((h c).mpr hc)
end Sm

set_option maxHeartbeats 4000000
namespace Sm
/-! ways: what they need and change -/
structure Tl where
  n : Nat → Int
  c : Nat → Int
def Tl.zero : Tl := ⟨fun _ => 0, fun _ => 0⟩
def Tl.seq (t u : Tl) : Tl := ⟨fun k => max (t.n k) (u.n k - t.c k), fun k => t.c k + u.c k⟩
def Tl.rnd (t : Tl) (m : Int) : Tl := ⟨fun k => max (t.n k) (t.n k - (m - 1) * t.c k), fun k => m * t.c k⟩
def n1 (o : Of) (k : Nat) : Int := if k = o.a then o.x else 0
def c1 (o : Of) (k : Nat) : Int := if k = o.b then o.y else if k = o.a then -o.x else 0
def runT (o : Of) (m : Int) : Tl := ⟨fun k => if k = o.a then m * o.x else 0, fun k => if k = o.b then m * o.y else if k = o.a then -m * o.x else 0⟩
def ofI (L : List Of) (i : Nat) : Of := L.getD i ⟨0, 0, 0, 0⟩
theorem ofI_at {L : List Of} {i : Nat} {o : Of} (h : L[i]? = some o) : ofI L i = o := by
  unfold ofI
  rw [List.getD_eq_getElem?_getD, h]
  rfl
theorem ofI_mem {L : List Of} {i : Nat} (h : i < L.length) : ofI L i ∈ L := by
  unfold ofI
  rw [List.getD_eq_getElem?_getD, List.getElem?_eq_getElem h]
  exact List.getElem_mem h
inductive St where
  | run (i : Nat) (m : Int)
  | rnd (rs : List (Nat × Int)) (m : Int)
def runsT (L : List Of) (rs : List (Nat × Int)) : Tl := rs.foldl (fun t r => t.seq (runT (ofI L r.1) r.2)) Tl.zero
def stT (L : List Of) : St → Tl
  | .run i m => runT (ofI L i) m
  | .rnd rs m => (runsT L rs).rnd m
def wayT (L : List Of) (ss : List St) : Tl := ss.foldl (fun t s => t.seq (stT L s)) Tl.zero
/-- a list of runs as a way -/
def asWay (rs : List (Nat × Int)) : List St := rs.map fun r => .run r.1 r.2
theorem asWay_T (L : List Of) (rs : List (Nat × Int)) : wayT L (asWay rs) = runsT L rs := by
  unfold wayT asWay runsT
  rw [List.foldl_map]
  rfl
theorem wayT_take {L : List Of} {ss : List St} {j : Nat} {s : St} (h : ss[j]? = some s) : wayT L (ss.take (j + 1)) = (wayT L (ss.take j)).seq (stT L s) := by
  unfold wayT
  rw [List.take_add_one, h, List.foldl_append]
  rfl
/-! uses, one after another -/
def bn : List Of → Nat → Int
  | [], _ => 0
  | o :: U, k => max (n1 o k) (bn U k - c1 o k)
def bc : List Of → Nat → Int
  | [], _ => 0
  | o :: U, k => c1 o k + bc U k
theorem bn_pos (U : List Of) (h : ∀ o ∈ U, 0 ≤ o.x) (k : Nat) : 0 ≤ bn U k := by
  cases U with
  | nil => exact Int.le_refl _
  | cons o U =>
    have := h o List.mem_cons_self
    unfold bn n1
    split <;> omega
theorem bc_app (U W : List Of) (k : Nat) : bc (U ++ W) k = bc U k + bc W k := by
  induction U with
  | nil => show bc W k = 0 + bc W k; omega
  | cons o U ih =>
    show c1 o k + bc (U ++ W) k = c1 o k + bc U k + bc W k
    omega
theorem bn_app {U W : List Of} (hW : ∀ o ∈ W, 0 ≤ o.x) (k : Nat) : bn (U ++ W) k = max (bn U k) (bn W k - bc U k) := by
  induction U with
  | nil =>
    have := bn_pos W hW k
    show bn W k = max 0 (bn W k - 0)
    omega
  | cons o U ih =>
    show max (n1 o k) (bn (U ++ W) k - c1 o k) = max (max (n1 o k) (bn U k - c1 o k)) (bn W k - (c1 o k + bc U k))
    rw [ih]
    omega
def reps (m : Nat) (U : List Of) : List Of := (List.replicate m U).flatten
theorem reps_x {m : Nat} {U : List Of} (h : ∀ o ∈ U, 0 ≤ o.x) : ∀ o ∈ reps m U, 0 ≤ o.x := fun o ho => by
  obtain ⟨l, hl, hl2⟩ := List.mem_flatten.mp ho
  rw [List.eq_of_mem_replicate hl] at hl2
  exact h o hl2
theorem reps_succ (m : Nat) (U : List Of) : reps (m + 1) U = U ++ reps m U := by
  unfold reps
  rw [List.replicate_succ, List.flatten_cons]
theorem bc_reps (m : Nat) (U : List Of) (k : Nat) : bc (reps m U) k = (m : Int) * bc U k := by
  induction m with
  | zero => simp [reps, bc]
  | succ m ih =>
    rw [reps_succ, bc_app, ih, Int.natCast_add, Int.add_mul]
    simp
    omega
theorem bn_reps {U : List Of} (h : ∀ o ∈ U, 0 ≤ o.x) (m : Nat) (k : Nat) : bn (reps (m + 1) U) k = max (bn U k) (bn U k - (m : Int) * bc U k) := by
  induction m with
  | zero =>
    rw [reps_succ]
    show bn (U ++ reps 0 U) k = _
    rw [show reps 0 U = [] from rfl, List.append_nil]
    simp
  | succ m ih =>
    rw [reps_succ, bn_app (reps_x h), ih]
    have p := bn_pos U h k
    have e : ((m + 1 : Nat) : Int) * bc U k = (m : Int) * bc U k + bc U k := by
      rw [Int.natCast_add, Int.add_mul]
      simp
    rw [e]
    rcases Int.le_total 0 (bc U k) with q | q
    · have : 0 ≤ (m : Int) * bc U k := Int.mul_nonneg (by omega) q
      omega
    · have : (m : Int) * bc U k ≤ 0 := Int.mul_nonpos_of_nonneg_of_nonpos (by omega) q
      omega
/-- what a list of uses needs and changes -/
def useT (U : List Of) : Tl := ⟨bn U, bc U⟩
theorem useT_app {U W : List Of} (hW : ∀ o ∈ W, 0 ≤ o.x) : useT (U ++ W) = (useT U).seq (useT W) := by
  unfold useT Tl.seq
  congr 1
  · exact funext fun k => bn_app hW k
  · exact funext fun k => bc_app U W k
theorem useT_reps {U : List Of} (h : ∀ o ∈ U, 0 ≤ o.x) {m : Nat} (m1 : 1 ≤ m) : useT (reps m U) = (useT U).rnd (m : Int) := by
  obtain ⟨j, rfl⟩ : ∃ j, m = j + 1 := ⟨m - 1, by omega⟩
  unfold useT Tl.rnd
  congr 1
  · refine funext fun k => ?_
    rw [bn_reps h, show ((j + 1 : Nat) : Int) - 1 = (j : Int) by omega]
  · exact funext fun k => bc_reps (j + 1) U k
theorem useT_run {o : Of} (x0 : 0 ≤ o.x) (y0 : 0 ≤ o.y) (ne : o.a ≠ o.b) {m : Nat} (m1 : 1 ≤ m) : useT (reps m [o]) = runT o (m : Int) := by
  rw [useT_reps (fun o' h => by rw [List.mem_singleton.mp h]; exact x0) m1]
  unfold useT Tl.rnd runT
  congr 1
  · refine funext fun k => ?_
    show max (max (n1 o k) (0 - c1 o k)) (max (n1 o k) (0 - c1 o k) - ((m : Int) - 1) * (c1 o k + 0)) = if k = o.a then (m : Int) * o.x else 0
    unfold n1 c1
    by_cases ha : k = o.a
    · have hb : k ≠ o.b := by rw [ha]; exact ne
      rw [if_pos ha, if_neg hb, if_pos ha, if_pos ha, Int.add_zero, Int.mul_neg, Int.sub_mul, Int.one_mul]
      have : o.x ≤ (m : Int) * o.x := by
        have := Int.mul_le_mul_of_nonneg_right (show (1 : Int) ≤ (m : Int) by omega) x0
        omega
      omega
    · by_cases hb : k = o.b
      · rw [if_neg ha, if_pos hb, if_neg ha, Int.add_zero]
        have : 0 ≤ ((m : Int) - 1) * o.y := Int.mul_nonneg (by omega) y0
        omega
      · rw [if_neg ha, if_neg hb, if_neg ha, if_neg ha]
        simp
  · refine funext fun k => ?_
    show (m : Int) * (c1 o k + 0) = if k = o.b then (m : Int) * o.y else if k = o.a then -(m : Int) * o.x else 0
    unfold c1
    rw [Int.add_zero]
    by_cases hb : k = o.b
    · rw [if_pos hb, if_pos hb]
    · rw [if_neg hb, if_neg hb]
      by_cases ha : k = o.a
      · rw [if_pos ha, if_pos ha, Int.mul_neg, Int.neg_mul]
      · rw [if_neg ha, if_neg ha, Int.mul_zero]
/-! the uses of a way -/
def runI (r : Nat × Int) : List Nat := List.replicate r.2.toNat r.1
def runsI (rs : List (Nat × Int)) : List Nat := rs.flatMap runI
def stI : St → List Nat
  | .run i m => runI (i, m)
  | .rnd rs m => (List.replicate m.toNat (runsI rs)).flatten
def wayI (ss : List St) : List Nat := ss.flatMap stI
def us (L : List Of) (I : List Nat) : List Of := I.map (ofI L)
/-- a run, a step, within the board -/
def RunOk (L : List Of) (r : Nat × Int) : Prop := r.1 < L.length ∧ 1 ≤ r.2
def StOk (L : List Of) : St → Prop
  | .run i m => RunOk L (i, m)
  | .rnd rs m => (∀ r ∈ rs, RunOk L r) ∧ 1 ≤ m
section
variable {k : Nat} {L : List Of} (ok : ∀ o ∈ L, OfOk k o)
include ok
theorem us_x {I : List Nat} (h : ∀ i ∈ I, i < L.length) : ∀ o ∈ us L I, 0 ≤ o.x := fun o ho => by
  obtain ⟨i, hi, rfl⟩ := List.mem_map.mp ho
  have := (ok _ (ofI_mem (h i hi))).x0
  omega
theorem us_run {r : Nat × Int} (h : RunOk L r) : useT (us L (runI r)) = runT (ofI L r.1) r.2 ∧ ∀ i ∈ runI r, i < L.length := by
  have o := ok _ (ofI_mem h.1)
  have x0 := o.x0
  have m1 := h.2
  refine ⟨?_, fun i hi => by rw [List.eq_of_mem_replicate hi]; exact h.1⟩
  have e : us L (runI r) = reps r.2.toNat [ofI L r.1] := by
    unfold us runI reps
    rw [List.map_replicate, List.flatten_replicate_singleton]
  rw [e, useT_run (by omega) o.y0 o.ne (show 1 ≤ r.2.toNat by omega), Int.toNat_of_nonneg (by omega)]
theorem us_runs : ∀ {rs : List (Nat × Int)}, (∀ r ∈ rs, RunOk L r) → useT (us L (runsI rs)) = runsT L rs ∧ ∀ i ∈ runsI rs, i < L.length := by
  suffices h : ∀ (rs : List (Nat × Int)) (I : List Nat) (t : Tl), (∀ r ∈ rs, RunOk L r) → useT (us L I) = t → (∀ i ∈ I, i < L.length) → useT (us L (I ++ runsI rs)) = rs.foldl (fun t r => t.seq (runT (ofI L r.1) r.2)) t ∧ ∀ i ∈ I ++ runsI rs, i < L.length by
    intro rs hr
    exact h rs [] Tl.zero hr rfl fun i hi => nomatch hi
  intro rs
  induction rs with
  | nil =>
    intro I t _ e hI
    refine ⟨?_, fun i hi => ?_⟩
    · show useT (us L (I ++ [])) = t
      rw [List.append_nil]
      exact e
    · rw [show runsI [] = [] from rfl, List.append_nil] at hi
      exact hI i hi
  | cons r rs ih =>
    intro I t hr e hI
    obtain ⟨e1, h1⟩ := us_run ok (hr r List.mem_cons_self)
    have step := ih (I ++ runI r) (t.seq (runT (ofI L r.1) r.2)) (fun r' h => hr r' (List.mem_cons_of_mem _ h)) (by
      rw [show us L (I ++ runI r) = us L I ++ us L (runI r) from List.map_append, useT_app (us_x ok h1), e, e1]) (fun i hi => by
      rcases List.mem_append.mp hi with hi | hi
      · exact hI i hi
      · exact h1 i hi)
    rw [List.append_assoc] at step
    exact step
theorem us_st {s : St} (h : StOk L s) : useT (us L (stI s)) = stT L s ∧ ∀ i ∈ stI s, i < L.length := by
  match s, h with
  | .run i m, h => exact us_run ok h
  | .rnd rs m, ⟨h, m1⟩ =>
    obtain ⟨e, hi⟩ := us_runs ok h
    refine ⟨?_, fun i hi' => ?_⟩
    · have e2 : us L (stI (.rnd rs m)) = reps m.toNat (us L (runsI rs)) := by
        show ((List.replicate m.toNat (runsI rs)).flatten).map (ofI L) = _
        rw [List.map_flatten, List.map_replicate]
        rfl
      rw [e2, useT_reps (us_x ok hi) (show 1 ≤ m.toNat by omega), e, Int.toNat_of_nonneg (by omega)]
      rfl
    · obtain ⟨l, hl, hl2⟩ := List.mem_flatten.mp hi'
      rw [List.eq_of_mem_replicate hl] at hl2
      exact hi i hl2
theorem us_way : ∀ {ss : List St}, (∀ s ∈ ss, StOk L s) → useT (us L (wayI ss)) = wayT L ss ∧ ∀ i ∈ wayI ss, i < L.length := by
  suffices h : ∀ (ss : List St) (I : List Nat) (t : Tl), (∀ s ∈ ss, StOk L s) → useT (us L I) = t → (∀ i ∈ I, i < L.length) → useT (us L (I ++ wayI ss)) = ss.foldl (fun t s => t.seq (stT L s)) t ∧ ∀ i ∈ I ++ wayI ss, i < L.length by
    intro ss hr
    exact h ss [] Tl.zero hr rfl fun i hi => nomatch hi
  intro ss
  induction ss with
  | nil =>
    intro I t _ e hI
    refine ⟨?_, fun i hi => ?_⟩
    · show useT (us L (I ++ [])) = t
      rw [List.append_nil]
      exact e
    · rw [show wayI [] = [] from rfl, List.append_nil] at hi
      exact hI i hi
  | cons s ss ih =>
    intro I t hr e hI
    obtain ⟨e1, h1⟩ := us_st ok (hr s List.mem_cons_self)
    have step := ih (I ++ stI s) (t.seq (stT L s)) (fun r' h => hr r' (List.mem_cons_of_mem _ h)) (by
      rw [show us L (I ++ stI s) = us L I ++ us L (stI s) from List.map_append, useT_app (us_x ok h1), e, e1]) (fun i hi => by
      rcases List.mem_append.mp hi with hi | hi
      · exact hI i hi
      · exact h1 i hi)
    rw [List.append_assoc] at step
    exact step
end
/-- amounts of the kinds as a list -/
def vec (k : Nat) (f : Nat → Int) : List Int := (List.range k).map f
theorem vec_len (k : Nat) (f : Nat → Int) : (vec k f).length = k := by
  unfold vec
  rw [List.length_map, List.length_range]
theorem vec_get {k i : Nat} {f : Nat → Int} (h : i < k) : (vec k f)[i]? = some (f i) := by
  unfold vec
  rw [List.getElem?_map, List.getElem?_range h]
  rfl
theorem vec_set {k i : Nat} {f g : Nat → Int} {v : Int} (h : g i = v) (hg : ∀ j, j ≠ i → g j = f j) : (vec k f).set i v = vec k g := by
  refine List.ext_getElem? fun j => ?_
  rw [List.getElem?_set]
  by_cases e : i = j
  · subst e
    rw [if_pos rfl]
    by_cases l : i < k
    · rw [vec_len, if_pos l, vec_get l, h]
    · rw [vec_len, if_neg l, List.getElem?_eq_none (by rw [vec_len]; omega)]
  · rw [if_neg e]
    by_cases l : j < k
    · rw [vec_get l, vec_get l, hg j (Ne.symm e)]
    · rw [List.getElem?_eq_none (by rw [vec_len]; omega), List.getElem?_eq_none (by rw [vec_len]; omega)]
theorem vec_rep (k : Nat) : List.replicate k (0 : Int) = vec k fun _ => 0 := by
  refine List.ext_getElem? fun j => ?_
  by_cases l : j < k
  · rw [vec_get l, List.getElem?_replicate, if_pos l]
  · rw [List.getElem?_eq_none (by rw [List.length_replicate]; omega), List.getElem?_eq_none (by rw [vec_len]; omega)]
theorem vec_succ (k : Nat) (f : Nat → Int) : vec (k + 1) f = vec k f ++ [f k] := by
  unfold vec
  rw [List.range_succ, List.map_append]
  rfl
end Sm

set_option Elab.async false
set_option linter.all false
set_option maxRecDepth 100000
set_option maxHeartbeats 4000000
namespace Sm
open PySem PySem.Spec PyProof.Rows L2
theorem ints_lay : ∀ t : List Int, PyData.canLayAll0 (t.map PyData.int) = true
  | [] => rfl
  | i :: t => by simp [PyData.canLayAll0, PyData.canLay0, ints_lay t]
theorem depth_int : ∀ t : List Int, PyData.depthAll (t.map PyData.int) ≤ 1
  | [] => by simp [PyData.depthAll]
  | i :: t => by
    have := depth_int t
    simp only [List.map_cons, PyData.depthAll, PyData.depth]
    omega
theorem lst_shaped (t : List Int) : SeqAt.shaped (.list (t.map PyData.int)) = true := by
  have d := depth_int t
  have d2 : PyData.depth (.list (t.map PyData.int)) ≤ 64 := by
    simp only [PyData.depth]
    omega
  unfold SeqAt.shaped
  rw [show PyData.canLay0 (.list (t.map PyData.int)) = true by simp only [PyData.canLay0, ints_lay], decide_eq_true d2]
  rfl
theorem tup_shaped (t : List Int) : SeqAt.shaped (.tuple (t.map PyData.int)) = true := by
  have d := depth_int t
  have d2 : PyData.depth (.tuple (t.map PyData.int)) ≤ 64 := by
    simp only [PyData.depth]
    omega
  unfold SeqAt.shaped
  rw [show PyData.canLay0 (.tuple (t.map PyData.int)) = true by simp only [PyData.canLay0, ints_lay], decide_eq_true d2]
  rfl
theorem eqv_nil (l : List Int) : PyData.eqv (.list (l.map PyData.int)) (.list []) = decide (l = []) := by
  cases l with
  | nil => rfl
  | cons a l => simp [PyData.eqv, PyData.eqvAll]
theorem no_part {σ : L2.St} {H : Hp} {Q : Option Int → Hp → Prop} (h : Q none H) : tNoPart σ H Q := h
theorem pickI (L : List Int) {r : Int} (h0 : 0 ≤ r) (h1 : r < (L.length : Int)) : ∃ z ∈ L, (L.map V.int)[r.toNat]? = some (.int z) := by
  have q : r.toNat < L.length := by omega
  refine ⟨L[r.toNat], List.getElem_mem q, ?_⟩
  rw [List.getElem?_map, List.getElem?_eq_getElem q]
  rfl
theorem cut_from {xs : List V} {n : Nat} : cutV xs (some (n : Int)) none = xs.drop n := by
  unfold cutV
  rw [HT.sIx_none, HT.sIx_nat]
  rcases Nat.le_total n xs.length with h | h
  · rw [Nat.min_eq_left h]
    exact List.take_of_length_le (by rw [List.length_drop]; omega)
  · rw [Nat.min_eq_right h, List.drop_length, List.drop_eq_nil_of_le h, List.take_nil]
theorem eqv_selfT (t : List Int) : PyData.eqv (.tuple (t.map PyData.int)) (.tuple (t.map PyData.int)) = true := SeqAt.eqv_refl _ (SeqAt.canLay_of_shaped (tup_shaped t))
theorem dp_tup {K : PySem.W.Frag} {H : Hp} {q : Addr} {t : List Int} (h : H q = some (.tup (t.map V.int))) : Dp K H (.ref q) (.tuple (t.map PyData.int)) := .tup (SqT.of h) (dp_ints t)
theorem vec_congr {k : Nat} {f g : Nat → Int} (h : ∀ i, i < k → f i = g i) : vec k f = vec k g := List.map_congr_left fun i hi => h i (List.mem_range.mp hi)
section
variable {K : PySem.W.Frag} {H : Hp} {Q : VK}
theorem sl_uni {a : Addr} {xs : List V} {lo hi : Option Int} (h : H a = some (.tup xs)) (q : ∀ u H', Same H H' → H' u = some (.tup (cutV xs lo hi)) → Q (.ref u) H') : rSlA K (.ref a) lo hi H Q := by
  refine ⟨a, xs, rfl, SqT.of h, fun w => q a H (Same.refl H) ?_, fun _ u nu => q u _ (same_upd nu) upd_same⟩
  rw [h]
  unfold cutV
  rw [w.1, w.2, List.drop_zero, Nat.sub_zero, List.take_length]
theorem cat_uni {a b : Addr} {xs ys : List V} (ha : H a = some (.tup xs)) (hb : H b = some (.tup ys)) (l : xs.length + ys.length ≤ sizeLine) (q : ∀ u H', Same H H' → H' u = some (.tup (xs ++ ys)) → Q (.ref u) H') : rCatA K (.ref a) (.ref b) H Q := by
  refine ⟨a, b, xs, ys, rfl, rfl, SqT.of ha, SqT.of hb, l, fun e => q b H (Same.refl H) ?_, fun _ e => q a H (Same.refl H) ?_, fun _ _ u nu => q u _ (same_upd nu) upd_same⟩
  · rw [hb, e, List.nil_append]
  · rw [ha, e, List.append_nil]
end
theorem eqv_selfL (t : List Int) : PyData.eqv (.list (t.map PyData.int)) (.list (t.map PyData.int)) = true := SeqAt.eqv_refl _ (SeqAt.canLay_of_shaped (lst_shaped t))
end Sm

set_option Elab.async false
set_option linter.all false
set_option maxRecDepth 100000
set_option maxHeartbeats 4000000
namespace Sm
open PySem PySem.Spec PyProof.Rows L2
/-! ### comprehensions of draws over a range: each item is told by something that outlives all but its own tuples -/
def KeepT (H H' : Hp) : Prop := ∀ b xs, H b = some (.tup xs) → H' b = some (.tup xs)
/-- a row of values and what they are -/
def RowOf {α : Type} (rel : Hp → V → α → Prop) (H : Hp) (vs : List V) (as : List α) : Prop := vs.length = as.length ∧ ∀ (i : Nat) (v : V), vs[i]? = some v → ∃ a, as[i]? = some a ∧ rel H v a
theorem RowOf.keep {α : Type} {rel : Hp → V → α → Prop} (st : ∀ H H' v a, KeepT H H' → rel H v a → rel H' v a) {H H' : Hp} {vs : List V} {as : List α} (r : RowOf rel H vs as) (k : KeepT H H') : RowOf rel H' vs as :=
  ⟨r.1, fun i v e => by obtain ⟨a, h1, h2⟩ := r.2 i v e; exact ⟨a, h1, st _ _ _ _ k h2⟩⟩
theorem RowOf.snoc {α : Type} {rel : Hp → V → α → Prop} {H : Hp} {vs : List V} {as : List α} {v : V} {a : α} (r : RowOf rel H vs as) (h : rel H v a) : RowOf rel H (vs ++ [v]) (as ++ [a]) := by
  refine ⟨by rw [List.length_append, List.length_append, r.1]; rfl, fun i z e => ?_⟩
  rcases Nat.lt_or_ge i vs.length with c | c
  · rw [List.getElem?_append_left c] at e
    obtain ⟨b, h1, h2⟩ := r.2 i z e
    exact ⟨b, by rw [List.getElem?_append_left (by rw [← r.1]; exact c)]; exact h1, h2⟩
  · rw [List.getElem?_append_right c] at e
    have hi : i - vs.length = 0 := by
      rcases Nat.eq_zero_or_pos (i - vs.length) with q | q
      · exact q
      · rw [List.getElem?_eq_none (by show [v].length ≤ _; exact q)] at e
        cases e
    rw [hi] at e
    have e : z = v := (Option.some.inj e).symm
    subst e
    refine ⟨a, ?_, h⟩
    rw [List.getElem?_append_right (by rw [← r.1]; exact c), ← r.1, hi]
    rfl
theorem lc_rdA {α : Type} (rel : Hp → V → α → Prop) (st : ∀ H H' v a, KeepT H H' → rel H v a → rel H' v a) {lo : Int} {n : Nat} {g : TG} {te : TE} {vs : List Nat} {σ : L2.St} {H : Hp} {D p l : Addr} {n0 c : Int} {Qd : Hp → Prop} (G : α → Prop) (D0 : Deck H p l n0) (nD : H D = none) (ln : n ≤ 20000) (c0 : 0 ≤ c)
    (hs : ∀ i H' n', i < n → Fr p l H H' → Deck H' p l n' → n0 ≤ n' → n' ≤ n0 + c * (i : Int) → ∀ R : VK, (∀ H4 v a n4, Fr p l H' H4 → Deck H4 p l n4 → n' ≤ n4 → n4 ≤ n' + c → G a → rel H4 v a → R v H4) → g (.int (lo + i)) (wipe σ vs) H' fun σ2 H2 => wipe σ2 vs = wipe σ vs ∧ te σ2 H2 R)
    (mono : ∀ x H' (A B : L2.St → Hp → Prop), (∀ σ2 H2, A σ2 H2 → B σ2 H2) → g x (wipe σ vs) H' A → g x (wipe σ vs) H' B)
    (hd : ∀ H' (n' : Int) (us : List V) (as : List α), Fr p l H H' → Deck H' p l n' → n0 ≤ n' → n' ≤ n0 + c * (n : Int) → as.length = n → (∀ a ∈ as, G a) → RowOf rel H' us as → H' D = some (.lst us) → Qd H') :
    ∃ W : Nat → Nat → Hp → Prop, (∃ m, W 0 m (upd H D (.lst []))) ∧ ∀ i m H, W i m H → ((Itr lo n).stop i H ∧ Qd H) ∨ ((Itr lo n).go i H ∧ ∃ Nx : Hp → Prop, (∀ H', Nx H' → ∃ m', m' < m ∧ W (i + 1) m' H') ∧ ∀ x H', (Itr lo n).yld i H x H' → g x (wipe σ vs) H' fun σ2 H2 => wipe σ2 vs = wipe σ vs ∧ tYes σ2 H2 fun b H3 =>
        if b = true then te σ2 H3 fun y H4 => ∃ acc, H4 D = some (.lst acc) ∧ acc.length < sizeLine ∧ Nx (upd H4 D (.lst (acc ++ [y]))) else Nx H3) := by
  obtain ⟨Dp, Dl⟩ := D0.lne nD
  refine lc_range (fun i H' => ∃ (n' : Int) (us : List V) (as : List α), Fr p l H H' ∧ Deck H' p l n' ∧ n0 ≤ n' ∧ n' ≤ n0 + c * (i : Int) ∧ as.length = i ∧ (∀ a ∈ as, G a) ∧ RowOf rel H' us as ∧ H' D = some (.lst us)) ?_ ?_ ?_
  · exact ⟨n0, [], [], Same.fr (same_upd nD), D0.same (same_upd nD), by omega, by simp, rfl, fun x hx => (nomatch hx), ⟨rfl, fun i v e => by simp at e⟩, upd_same⟩
  · rintro i H' il ⟨n', us, as, f, D1, a0, a1, xl, xg, row, hD⟩
    refine mono _ H' _ _ ?_ (hs i H' n' il f D1 a0 a1 (fun y H4 => ∃ acc, H4 D = some (.lst acc) ∧ acc.length < sizeLine ∧ ∃ (n' : Int) (us : List V) (as : List α), Fr p l H (upd H4 D (.lst (acc ++ [y]))) ∧ Deck (upd H4 D (.lst (acc ++ [y]))) p l n' ∧ n0 ≤ n' ∧ n' ≤ n0 + c * ((i + 1 : Nat) : Int) ∧ as.length = i + 1 ∧ (∀ a ∈ as, G a) ∧ RowOf rel (upd H4 D (.lst (acc ++ [y]))) us as ∧ upd H4 D (.lst (acc ++ [y])) D = some (.lst us)) fun H4 v a n4 f4 D4 b0 b1 ga ra => ?_)
    · rintro σ2 H2 ⟨e, h⟩
      refine ⟨e, ?_⟩
      unfold tYes
      exact iteT h
    · have hD4 := f4 _ _ Dp Dl hD
      have kt : KeepT H4 (upd H4 D (.lst (us ++ [v]))) := fun b xs e => by
        rw [upd_ne (ne_of e hD4 (by intro q; cases q))]
        exact e
      refine ⟨us, hD4, ?_, n4, us ++ [v], as ++ [a], ?_, ⟨by rw [upd_ne Dp.symm]; exact D4.hp, ?_⟩, by omega, ?_, ?_, ?_, ?_, upd_same⟩
      · rw [row.1, xl]
        exact Nat.lt_of_le_of_lt (show i ≤ 20000 by omega) (by decide)
      · intro b o h1 h2 hb
        rw [upd_ne (ne_of_none hb nD)]
        exact f4 b o h1 h2 (f b o h1 h2 hb)
      · obtain ⟨cells, q1, q2⟩ := D4.hl
        exact ⟨cells, by rw [upd_ne Dl.symm]; exact q1, q2⟩
      · have : c * ((i + 1 : Nat) : Int) = c * (i : Int) + c := by rw [Int.natCast_add, Int.mul_add, show ((1 : Nat) : Int) = 1 from rfl, Int.mul_one]
        omega
      · rw [List.length_append, List.length_singleton, xl]
      · intro z hz
        rcases List.mem_append.mp hz with hz | hz
        · exact xg z hz
        · rw [List.mem_singleton.mp hz]
          exact ga
      · exact (row.keep st (H' := upd H4 D (.lst (us ++ [v]))) fun b xs e => kt b xs (f4.tup D1 e)).snoc (st _ _ _ _ kt ra)
  · rintro H' ⟨n', us, as, f, D1, a0, a1, xl, xg, row, hD⟩
    exact hd H' n' us as f D1 a0 a1 xl xg row hD
/-- ints -/
def relI : Hp → V → Int → Prop := fun _ v a => v = .int a
theorem relI_keep : ∀ H H' v a, KeepT H H' → relI H v a → relI H' v a := fun _ _ _ _ _ h => h
theorem RowOf.ints {H : Hp} : ∀ {vs : List V} {as : List Int}, RowOf relI H vs as → vs = as.map V.int
  | [], [], _ => rfl
  | [], _ :: _, h => nomatch h.1
  | _ :: _, [], h => nomatch h.1
  | v :: vs, a :: as, h => by
    obtain ⟨b, h1, h2⟩ := h.2 0 v rfl
    have h1 : a = b := Option.some.inj h1
    have h2 : v = .int b := h2
    have r : RowOf relI H vs as := ⟨Nat.succ.inj h.1, fun i z e => h.2 (i + 1) z e⟩
    rw [h2, ← h1, r.ints]
    rfl
end Sm

set_option Elab.async false
set_option linter.all false
set_option maxRecDepth 100000
set_option maxHeartbeats 4000000
namespace Sm
open PySem PySem.Spec PyProof.Rows L2 LamX
/-- what is raised in a lambda's body goes to who called it -/
theorem passE {X : Cx} {E : XK} (tk : Takes X (fun cls d _ H => E cls d H)) : Passes (L2.CX X.prog X.w) X E := fun pins σ H s e s' I c => passAt tk σ pins H s e s' I c
section
variable {X : Cx} {CX : CXT} {k : Nat} {f C : Addr} {fd : FuncData} {ps : List Str} {sp : Sp} {E : XK} {fe e : Expr} {es : List Expr} {tf : TE} {t : TA} {pos : Pos}
/-- f(e, ..) where f gives an instance of a class with its own __call__ -/
theorem pe_ownCall (hf : PE X fe tf) (m : Spm X.K C "__call__" f) (fi : PySem.W.fnIn X.K f = true) (F : FnOk X.prog X.w X.K X.mg X.base CX k f fd ps sp) (hb : Binds X.K fd ps []) (hr : Room k X.A) (hx : Passes CX X E) (ha : PA X (e :: es) t)
    (ht : eval (.Call fe (e :: es) [] pos) X.env = (do callWith pos (← eval fe X.env) [] (backTo pos (starEach (e :: es) X.env)) (backToKw pos (keywordEach [] X.env))) := by rfl)
    (he : starEach (e :: es) X.env = (false, eval e X.env) :: starEach es X.env := by rfl) (hpl : (backTo pos (starEach es X.env)).any (·.1) = false := by rfl) : PE X (.Call fe (e :: es) [] pos) (StX.tCallO X C sp E tf t) :=
  StX.pe_callO hf ⟨m.at_, m.fn, fi⟩ ((F.raw hb .nil).imp fun vs H Q E h => by rw [List.append_nil]; exact h) hr hx ha ht he hpl
end
/-- told: try: a() / except e as n: a suite that is told by ts; behind it tr -/
def TAx (K : PySem.W.Frag) (CS : Addr) (Ng : List Str) (i : Nat) (ts : Addr → Value → Option Addr → TS) (tr : TS) : (XK → Hp → VK → Prop) → Hp → VK → Prop := fun tl H Q =>
  ∀ f : Addr, tl (fun cls d H' => ∃ b, PySem.W.exmOne K cls (.ref CS) = some b ∧ (b = true → ∀ (σ : L2.St) (c : Addr), σ.length = Ng.length → H' c = none → ts c cls d { nx := fun σ' H2 => tr { nx := fun _ H3 => Q .non H3, rt := Q } (σ'.set i none) H2, rt := Q } (σ.set i (some (.ref c))) H') ∧ (b = false → False)) H
    (fun _ H' => tr { nx := fun _ H2 => Q .non H2, rt := Q } (L2.start Ng [V.ref f]) H')
section
variable {X : Cx} {Ng : List Str} {x a e n q : Str} {sg : Scope} {g CS : Addr} {cdg : Value} {i : Nat} {b₀ r₀ : Stmt} {suite rest : List Stmt} {p1 p2 p3 p4 p5 p6 : Pos} {ts : Addr → Value → Option Addr → TS} {tr : TS}
/-- the def that calls what it got and drops the answer -/
theorem act_gives (hge : sg.names.lookup e = some .globalImplicit) (hme : X.mg e = some (.ref CS)) (hde : (e == ("__debug__" : Str)) = false) (h0 : ∀ f : Addr, (L2.start Ng [V.ref f])[0]? = some (some (V.ref f))) (nd : Ng.Nodup) (hi : Ng[i]? = some n)
    (hln : ∀ (s : Shared) (H : Hp), (cxOf C8.CX0 X.prog X.w X.K X.mg X.base Ng x sg g cdg X.A X.stack s H C8.E0).nox.env.kindOf n = some .local)
    (hsu : ∀ (s : Shared) (H : Hp) (c : Addr) (oe : Obj) (cls : Value) (d : Option Addr) (pn : List (Addr × Obj)), Zc cls d oe → (∃ vs, oe.data = .fields vs) → PSs ((cxOf C8.CX0 X.prog X.w X.K X.mg X.base Ng x sg g cdg X.A X.stack s H C8.E0).nox.suite c ((c, oe) :: pn)) (b₀ :: suite) (ts c cls d))
    (hrest : ∀ (s : Shared) (H : Hp), PSs (cxOf C8.CX0 X.prog X.w X.K X.mg X.base Ng x sg g cdg X.A X.stack s H C8.E0).nox (r₀ :: rest) tr) :
    GivesTo X Ng x sg g cdg (.Try [.Expr (.Call (.Name a p1) [] [] p2) p3] [.ExceptHandler (some (.Name e p4)) (some n) (b₀ :: suite) p5] [] [] p6 :: r₀ :: rest) a q (TAx X.K CS Ng i ts tr) := by
  intro f c' s H Q tl act known told
  let Z := (cxOf C8.CX0 X.prog X.w X.K X.mg X.base Ng x sg g cdg X.A X.stack s H C8.E0).nox
  have glob : Gl Z e := hge
  let body : WX → TS := fun W D σ H1 => ∃ out : XK, (∀ cls d (σ' : L2.St) H', out cls d H' → σ'.length = Ng.length → W cls d σ' H') ∧ σ[0]? = some (some (.ref f)) ∧ H1 c' = some (CodeO c' q) ∧ tl out H1 (fun _ H2 => D.nx σ H2)
  have inner : ∀ (W : WX) (pn : List (Addr × Obj)) (xe : Value → Shared → Prop), Takes (Z.tr pn xe) W → PassesOwn (model Z.prog Z.w) Z.A Z.env xe → PSs (Z.tr pn xe) [.Expr (.Call (.Name a p1) [] [] p2) p3] (body W) := by
    intro W pn xe tk _
    refine ⟨fun pins s' σ H' D I told' => ?_⟩
    obtain ⟨out, hW, h1, h2, h3⟩ := told'
    exact (pss_one (ps_expr (pos := p3) (act _ pn xe out p1 p2 (takes_len tk) hW))).run pins s' σ H' D I ⟨h1, h2, h3⟩
  refine ⟨_, pss_cons (ps_try_as (X := Z) (c := .ref CS) (i := i) (tb := body) (ts := ts) (Wout := fun _ _ _ _ => False) rfl rfl nd hi (hln s H) ⟨glob, hde, .inl hme⟩ L2.takes0 inner (fun c oe cls d pn hz hf => hsu s H c oe cls d pn hz hf)) (hrest s H), ?_⟩
  exact ⟨_, fun cls d σ' H' w len => by
    obtain ⟨b, e1, e2, e3⟩ := w
    exact ⟨b, e1, fun hb c nc => e2 hb σ' c len nc, fun hb => e3 hb⟩, h0 f, known, told f⟩
end
end Sm

set_option Elab.async false
set_option linter.all false
set_option maxRecDepth 100000
set_option maxHeartbeats 4000000
namespace Sm
open PySem PySem.Spec PyProof.Rows L2 LamX
/-! ### the law's own call where the law makes lambdas: its table of code objects is tracked too -/
theorem law_atT {P : Program} {w : World} {K : PySem.W.Frag} {mg mb : Str → Option Value} {k : Nat} {fa a c Pt : Addr} {fd : FuncData} {x : Str} {sp : Sp} {s₁ : Shared} {vs : List Value} {ns : List Int}
    (inK : K.In s₁.heap) (names : s₁.heap.Ns mainGlobals mg) (bnames : s₁.heap.Ns builtinsNs mb) (boots : ∀ x : Str, x ≠ "__name__" → mb x = bootBuiltins x) (unlim : s₁.heap.NoLimit) (nogen : s₁.gens = #[])
    (empty : s₁.heap.get? Pt = some (PySem.W.tabObj #[])) (loose : K.lookup Pt = none) (head : PySem.W.codeHdIn K c Pt = true)
    (mods : ∃ (bm : Addr) (ob : Obj), mg "__builtins__" = some (.ref bm) ∧ bm ≠ builtinsNs ∧ s₁.heap.get? bm = some ob ∧ ob.cls = .type "module" ∧ ob.dict = some builtinsNs ∧ ob.data = .plain)
    (script : s₁.heap.get? a = some { cls := .type "list", data := .seq vs.toArray }) (whole : IntsAre vs ns) (few : ns.length ≤ sizeLine) (room : Room k callerA)
    (each : ∀ base : Heap, K.In base → base.Ns mainGlobals mg → TabB base mg c Pt → FnG P w K mg base k fa fd [x] sp) (binds : ∀ (s : Shared) (u : Value), BindsTo s fd ⟨[u], []⟩ [(x, u)])
    (asked : ∀ H : Hp, H Pt = some (.tbl #[]) → SqL K H a (ns.map V.int) → sp [.ref a] H (fun v _ => v = .bl true) E0) :
    codeAny (model P w) callerA (.call (.ref fa) ⟨[.ref a], []⟩) (fun r s' => r = .ok (.ret (.bool true)) ∧ OldK s₁.heap s'.heap ∧ s'.os = s₁.os ∧ AllBare s'.gens) s₁ := by
  have ivs := vals_ints whole
  have apart : a ≠ Pt := fun e => by
    rw [e, empty] at script
    have z : Data.fields #[] = Data.seq vs.toArray _ := congrArg Obj.data (Option.some.inj script)
    cases z
  -- what is tracked: the table, and the script if the module does not hold it itself
  obtain ⟨H, table, seq, ok, only, free⟩ : ∃ H : Hp, H Pt = some (.tbl #[]) ∧ SqL K H a (ns.map V.int) ∧ HOk P w H s₁.heap ∧ (∀ b u, H b = some u → (b = a ∧ u = .frz { cls := .type "list", data := .seq vs.toArray } (.lst (ns.map V.int))) ∨ (b = Pt ∧ u = .tbl #[])) ∧ ∀ b u, H b = some u → K.lookup b = none := by
    cases look : K.lookup a with
    | some o =>
      have same := inK a o look
      rw [script] at same
      injection same with same
      subst same
      have one : ∀ b u, (fun b => if b = Pt then some (HO.tbl #[]) else none : Hp) b = some u → b = Pt ∧ u = .tbl #[] := by
        intro b u z
        by_cases e : b = Pt
        · exact ⟨e, (Option.some.inj ((if_pos e).symm.trans z)).symm⟩
        · exact nomatch (if_neg e).symm.trans z
      refine ⟨fun b => if b = Pt then some (.tbl #[]) else none, if_pos rfl, .inr ⟨_, vs.toArray, _, look, rfl, rfl, rfl, ?_, ?_⟩, fun b u z => ?_, fun b u z => .inr (one b u z), fun b u z => ?_⟩
      · rw [List.size_toArray, whole.length]
        exact few
      · simpa using ivs
      · obtain ⟨rfl, rfl⟩ := one b u z
        exact empty
      · rw [(one b u z).1]
        exact loose
    | none =>
      have two : ∀ b u, (fun b => if b = a then some (HO.frz { cls := .type "list", data := .seq vs.toArray } (.lst (ns.map V.int))) else if b = Pt then some (HO.tbl #[]) else none : Hp) b = some u → (b = a ∧ u = .frz { cls := .type "list", data := .seq vs.toArray } (.lst (ns.map V.int))) ∨ (b = Pt ∧ u = .tbl #[]) := by
        intro b u z
        by_cases e : b = a
        · exact .inl ⟨e, (Option.some.inj ((if_pos e).symm.trans z)).symm⟩
        · have z := (if_neg e).symm.trans z
          by_cases e2 : b = Pt
          · exact .inr ⟨e2, (Option.some.inj ((if_pos e2).symm.trans z)).symm⟩
          · exact nomatch (if_neg e2).symm.trans z
      refine ⟨_, (if_neg apart.symm).trans (if_pos rfl), .inl (.inr ⟨_, if_pos rfl⟩), fun b u z => ?_, two, fun b u z => ?_⟩
      · rcases two b u z with ⟨rfl, rfl⟩ | ⟨rfl, rfl⟩
        · exact ⟨script, by rw [List.length_map]; exact few, vs, _, ivs, script⟩
        · exact empty
      · rcases two b u z with ⟨rfl, _⟩ | ⟨rfl, _⟩
        · exact look
        · exact loose
  have stays : ∀ {b : Addr} {o : Obj}, s₁.heap.get? b = some o → (∀ u, H b ≠ some u) → (hidT s₁.heap H).get? b = some o := fun {b o} e no => hidT_get e (by
    cases z : H b with
    | none => rfl
    | some u => exact (no u z).elim)
  have plainly : ∀ {b : Addr} {o : Obj}, s₁.heap.get? b = some o → (∀ v n, o.data ≠ .seq v n) → (∀ v, o.data ≠ .fields v) → (hidT s₁.heap H).get? b = some o := fun {b o} e n1 n2 => stays e fun u z => by
    rcases only b u z with ⟨rfl, _⟩ | ⟨rfl, _⟩
    · rw [script] at e
      injection e with e
      subst e
      exact n1 _ _ rfl
    · rw [empty] at e
      injection e with e
      subst e
      exact n2 _ rfl
  have spaces : ∀ {b : Addr} {m : Str → Option Value}, s₁.heap.Ns b m → (hidT s₁.heap H).Ns b m := by
    rintro b m ⟨o, es, ep, there, data, rest⟩
    refine ⟨o, es, ep, plainly there (fun v n z => ?_) (fun v z => ?_), data, rest⟩
    · rw [data] at z
      exact nomatch z
    · rw [data] at z
      exact nomatch z
  have inn : K.In (hidT s₁.heap H) := fun b o e => stays (inK b o e) fun u z => by
    rw [free b u z] at e
    exact nomatch e
  have mod : Mod K mg (hidT s₁.heap H) := by
    obtain ⟨mc, c1, c2⟩ := unlim
    exact ⟨inn, spaces names, ⟨mb, spaces bnames, boots⟩, mc, spaces c1, c2⟩
  have tb : TabB (hidT s₁.heap H) mg c Pt := by
    refine ⟨PySem.W.codeHd_of_K inn head, ?_, fun z => ?_⟩
    · obtain ⟨bm, ob, m1, m2, m3, m4, m5, m6⟩ := mods
      refine ⟨bm, ob, m1, m2, fun z => ?_, fun z => ?_, plainly m3 (fun v n z => ?_) (fun v z => ?_), m4, m5, m6⟩
      · obtain ⟨o, es, ep, there, data, _⟩ := names
        rw [z, there] at m3
        injection m3 with m3
        subst m3
        rw [data] at m6
        exact nomatch m6
      · rw [z, empty] at m3
        injection m3 with m3
        subst m3
        exact nomatch m6
      · rw [m6] at z
        exact nomatch z
      · rw [m6] at z
        exact nomatch z
    · obtain ⟨o, es, ep, there, data, _⟩ := names
      rw [z, empty] at there
      injection there with there
      subst there
      exact nomatch data
  have e0 : Env0 P w K mg (hidT s₁.heap H) callerA [] s₁ H := by
    refine ⟨rfl, mod, fun b o e => of_hidT e, Nat.le_of_eq (hidT_size _ _), trivial, ?_, ok, .of_eq nogen⟩
    intro b q
    exact absurd q (List.not_mem_nil (a := b))
  refine codeAny_mono ((each _ inn (spaces names) tb).run callerA [] s₁ H ⟨[.ref a], []⟩ [.ref a] [.ref a] _ _ rfl room e0 (binds s₁ (.ref a)) (.cons rfl .nil) (asked H table seq)) ?_
  rintro (e | out) s' got
  · exact got.elim
  · match out, got with
    | .next, got => exact got.elim
    | .brk, got => exact got.elim
    | .cont, got => exact got.elim
    | .ret u, ⟨v, H', os, bare, un, ok', rel, q⟩ =>
      have q : v = V.bl true := q
      subst q
      have rel : u = Value.bool true := rel
      subst rel
      have kept : ∀ b o, b ≠ Pt → s₁.heap.get? b = some o → s'.heap.get? b = some o := fun b o other e => by
        cases z : H b with
        | none => exact un.keep b o e z (List.not_mem_nil (a := b)) (List.not_mem_nil (a := b))
        | some u =>
          rcases only b u z with ⟨rfl, rfl⟩ | ⟨rfl, rfl⟩
          · have now := (ok' _ _ (un.frzs _ _ _ z)).1
            rw [script] at e
            injection e with e
            rw [← e]
            exact now
          · exact (other rfl).elim
      obtain ⟨more, grown⟩ := un.tbls Pt #[] table
      have grown := ok' Pt _ grown
      refine ⟨rfl, ⟨fun b o e => ?_, fun b o e => ?_⟩, os, bare⟩
      · by_cases eb : b = Pt
        · subst eb
          rw [empty] at e
          injection e with e
          subst e
          exact .inr (.inl ⟨((PySem.W.codeHd_of_K inK head).tab empty).isCodeTable, rfl, #[], _, rfl, by rw [Array.empty_append]; exact grown⟩)
        · exact .inl (kept b o eb e)
      · by_cases eb : b = Pt
        · subst eb
          exact ⟨_, grown⟩
        · exact ⟨o, kept b o eb e⟩
/-- at the end of a law that makes lambdas of its own -/
theorem walk_at_lawT {l : PySem.W.OpenLaw} {k : Nat} {q : Program} {loose : List Str} {XP : (Str → Option Value) → Heap → Prop} {YP : World → Heap → Prop} {d : DefRec} {K : Params → PySem.W.Frag} {sp : PySem.W.Frag → Addr → Sp} {x : Str}
    (hn : l.most = some 63) (hdf : d.params.defaults = []) (listed : ((recsOf q).any fun e => e.name == d.name) = true) (hr : Room k callerA) (hY : ∀ (w : World) (h : Heap), YP w h → (K w.params).In h)
    (F : ∀ (w : World) (mg : Str → Option Value) (fa : Addr) (h : Heap), (K w.params).In h → h.Ns mainGlobals mg → mg d.name = some (.ref fa) → OwnTab (K w.params) fa h →
      ∃ (fd : FuncData) (c Pt : Addr), h.get? Pt = some (PySem.W.tabObj #[]) ∧ (K w.params).lookup Pt = none ∧ PySem.W.codeHdIn (K w.params) c Pt = true ∧ (∀ (s : Shared) (u : Value), BindsTo s fd ⟨[u], []⟩ [(x, u)]) ∧
        ∀ base : Heap, (K w.params).In base → base.Ns mainGlobals mg → TabB base mg c Pt → FnG l.prog w (K w.params) mg base k fa fd [x] (sp (K w.params) Pt))
    (asked : ∀ (K : PySem.W.Frag) (Pt : Addr) (H : Hp) (a : Addr) (ns : List Int), ns.length ≤ 63 → H Pt = some (.tbl #[]) → SqL K H a (ns.map V.int) → sp K Pt [.ref a] H (fun v _ => v = .bl true) E0) :
    PySem.W.WalkO q loose XP YP l.row.toRowW d [] (fun f vs => PySem.call f vs) := by
  refine Att.attach_call hn hdf ?_
  intro w s₀ s₁ mg mb fa o pm cd doc a vs ns G Y ho hd hcd hmg hobj hints hlen hg
  have inn := hY w _ Y
  have mine : OwnTab (K w.params) fa s₁.heap := by
    intro c Pt o1 fd1 e dd vs1 sl z1 z2 z3 z4 z5
    obtain ⟨r, mem, same⟩ := List.any_eq_true.mp listed
    obtain ⟨a2, o2, fd2, c2, P2, y1, y2, y3, y4, _, ⟨oc, vc, x1, _, x3, x4⟩, there⟩ := G.T.tab r mem
    rw [beq_iff_eq.mp same, hmg] at y1
    obtain rfl : fa = a2 := by
      injection y1 with y1
      injection y1
    have f1 := inn _ _ z1
    rw [y2] at f1
    injection f1 with f1
    subst f1
    rw [z2] at y3
    injection y3 with y3
    subst y3
    rw [z3] at y4
    injection y4 with y4
    subst y4
    have f2 := inn _ _ z4
    rw [x1] at f2
    injection f2 with f2
    subst f2
    injection x3 with x3
    subst x3
    rw [z5] at x4
    injection x4 with x4
    injection x4 with x4
    subst x4
    exact there
  obtain ⟨fd, c, Pt, t1, t2, t3, bind, each⟩ := F w mg fa _ inn G.T.g hmg mine
  exact law_atT inn G.T.g G.T.b G.T.builtins G.T.nolimit hg t1 t2 t3 G.T.bmain hobj hints (Nat.le_trans hlen (by decide)) hr each bind fun H tb sq => asked (K w.params) Pt H a ns hlen tb sq
/-- the law's own def, its code object known -/
theorem FnG.bodyC {P : Program} {w : World} {K : PySem.W.Frag} {mg : Str → Option Value} {base : Heap} {k : Nat} {f c : Addr} {fd : FuncData} {ps : List Str} {sp : Sp} {x : Str} {st : Stmt} {N : List Str} (F : Fun K x x st f fd) (code : fd.code = .ref c) (S : FnScope N ps (defScope st)) (len : ∀ vs H Q E, sp vs H Q E → vs.length = ps.length)
    (hb : ∀ (A : Around) (outer : List Env) (s : Shared) (H : Hp) (vs : List V) (Q : VK) (E : XK), A.guards = some [] → Room k (A.deeper (envOfC x (defScope st) s.heap.objs.size f (.ref c))) → sp vs H Q E →
      ∃ t, PSs (cxOf CX0 P w K mg base N x (defScope st) f (.ref c) A outer s H E).nox (defBody st) t ∧ t { nx := fun _ H' => Q .non H', rt := Q } (L2.start N vs) H) : FnG P w K mg base (k + 1) f fd ps sp := by
  obtain ⟨oc, od, kV, doc, pm, an, cdv, ct, osl, efd, look, coded⟩ := F.ex
  subst efd
  have known : cdv = .ref c := code
  subst known
  constructor
  · exact len
  intro A outer s H args us vs Q E guard room e0 bind rel want
  have inn : K.In s.heap := e0.mod.kin.keeps fun b o e => (e0.bs b o e).1
  have nolim : s.heap.NoLimit := e0.mod.nolimit.keeps fun b o e => (e0.bs b o e).1
  refine codeAny_call_function room.depth (inn _ _ look) rfl S.co S.gen rfl (PySem.W.codeRec_of inn coded) (bind _ _ _ _ ?_)
  refine wpAny_newFunctionEnv_cells S.kind ?_ ?_
  · rintro ⟨n, v⟩ there
    have := S.par n (List.of_mem_zip there).1
    cases this with
    | inl q => exact .inl q
    | inr q => exact .inr ⟨q, PySem.W.cellsFrom_some _ _ _ (.inl q)⟩
  · intro env eenv s1 laid
    subst eenv
    refine ⟨nolim.keeps laid.toInCall.keep, codeAny_func ?_⟩
    obtain ⟨t, der, goal⟩ := hb A outer s H vs Q E guard (room.deeper _) want
    have I := inv_start (CX := CX0) (E := E) S room.hd e0 (len _ _ _ _ want) rel laid
    refine wpAny_mono (der.nox.run [] s1 (L2.start N vs) H _ I goal) (fun out s' got => ?_) fun e s' got => got
    match out, got with
    | .ret u, ⟨v, σ', H', J, rv, q⟩ => exact ⟨v, H', J.os, J.bare, J.base, J.hok, rv, q⟩
    | .next, ⟨σ', H', J, q⟩ => exact ⟨V.non, H', J.os, J.bare, J.base, J.hok, rfl, q⟩
    | .brk, ⟨_, _, _, q⟩ => exact q.elim
    | .cont, ⟨_, _, _, q⟩ => exact q.elim
end Sm

set_option Elab.async false
set_option linter.all false
set_option maxRecDepth 100000
set_option maxHeartbeats 4000000
namespace Sm
open PySem PySem.Spec PyProof.Rows L2 LamX
/-! ### the law's own call where the law makes lambdas: its table of code objects is tracked too -/
theorem law_atTs {P : Program} {w : World} {K : PySem.W.Frag} {mg mb : Str → Option Value} {k : Nat} {fa a : Addr} {ct : List (Addr × Addr)} {TT : List (Addr × Str)} {fd : FuncData} {x : Str} {sp : Sp} {s₁ : Shared} {vs : List Value} {ns : List Int}
    (inK : K.In s₁.heap) (names : s₁.heap.Ns mainGlobals mg) (bnames : s₁.heap.Ns builtinsNs mb) (boots : ∀ x : Str, x ≠ "__name__" → mb x = bootBuiltins x) (unlim : s₁.heap.NoLimit) (nogen : s₁.gens = #[])
    (empty : ∀ t ∈ ct, s₁.heap.get? t.2 = some (PySem.W.tabObj #[])) (loose : ∀ t ∈ ct, K.lookup t.2 = none) (head : ∀ t ∈ ct, PySem.W.codeHdIn K t.1 t.2 = true) (names2 : TT.map (·.1) = ct.map (·.2))
    (mods : ∃ (bm : Addr) (ob : Obj), mg "__builtins__" = some (.ref bm) ∧ bm ≠ builtinsNs ∧ s₁.heap.get? bm = some ob ∧ ob.cls = .type "module" ∧ ob.dict = some builtinsNs ∧ ob.data = .plain)
    (script : s₁.heap.get? a = some { cls := .type "list", data := .seq vs.toArray }) (whole : IntsAre vs ns) (few : ns.length ≤ sizeLine) (room : Room k callerA)
    (each : ∀ base : Heap, K.In base → base.Ns mainGlobals mg → (∀ t ∈ ct, TabB base mg t.1 t.2) → FnG P w K mg base k fa fd [x] sp) (binds : ∀ (s : Shared) (u : Value), BindsTo s fd ⟨[u], []⟩ [(x, u)])
    (asked : ∀ H : Hp, Tabs TT H → SqL K H a (ns.map V.int) → sp [.ref a] H (fun v _ => v = .bl true) E0) :
    codeAny (model P w) callerA (.call (.ref fa) ⟨[.ref a], []⟩) (fun r s' => r = .ok (.ret (.bool true)) ∧ OldK s₁.heap s'.heap ∧ s'.os = s₁.os ∧ AllBare s'.gens) s₁ := by
  have ivs := vals_ints whole
  obtain ⟨Ps, hPs⟩ : ∃ Ps, Ps = ct.map (·.2) := ⟨_, rfl⟩
  have emptyP : ∀ b ∈ Ps, s₁.heap.get? b = some (PySem.W.tabObj #[]) := fun b hb => by
    rw [hPs] at hb
    obtain ⟨t, ht, rfl⟩ := List.mem_map.mp hb
    exact empty t ht
  have looseP : ∀ b ∈ Ps, K.lookup b = none := fun b hb => by
    rw [hPs] at hb
    obtain ⟨t, ht, rfl⟩ := List.mem_map.mp hb
    exact loose t ht
  have headP : ∀ b ∈ Ps, ∃ c, PySem.W.codeHdIn K c b = true := fun b hb => by
    rw [hPs] at hb
    obtain ⟨t, ht, rfl⟩ := List.mem_map.mp hb
    exact ⟨t.1, head t ht⟩
  have apart : a ∉ Ps := fun e => by
    rw [emptyP a e] at script
    have z : Data.fields #[] = Data.seq vs.toArray _ := congrArg Obj.data (Option.some.inj script)
    cases z
  -- what is tracked: the table, and the script if the module does not hold it itself
  obtain ⟨H, table, seq, ok, only, free⟩ : ∃ H : Hp, (∀ b ∈ Ps, H b = some (.tbl #[])) ∧ SqL K H a (ns.map V.int) ∧ HOk P w H s₁.heap ∧ (∀ b u, H b = some u → (b = a ∧ u = .frz { cls := .type "list", data := .seq vs.toArray } (.lst (ns.map V.int))) ∨ (b ∈ Ps ∧ u = .tbl #[])) ∧ ∀ b u, H b = some u → K.lookup b = none := by
    cases look : K.lookup a with
    | some o =>
      have same := inK a o look
      rw [script] at same
      injection same with same
      subst same
      have one : ∀ b u, (fun b => if b ∈ Ps then some (HO.tbl #[]) else none : Hp) b = some u → b ∈ Ps ∧ u = .tbl #[] := by
        intro b u z
        by_cases e : b ∈ Ps
        · exact ⟨e, (Option.some.inj ((if_pos e).symm.trans z)).symm⟩
        · exact nomatch (if_neg e).symm.trans z
      refine ⟨fun b => if b ∈ Ps then some (.tbl #[]) else none, fun b hb => if_pos hb, .inr ⟨_, vs.toArray, _, look, rfl, rfl, rfl, ?_, ?_⟩, fun b u z => ?_, fun b u z => .inr (one b u z), fun b u z => ?_⟩
      · rw [List.size_toArray, whole.length]
        exact few
      · simpa using ivs
      · obtain ⟨mem, rfl⟩ := one b u z
        exact emptyP b mem
      · exact looseP b (one b u z).1
    | none =>
      have two : ∀ b u, (fun b => if b = a then some (HO.frz { cls := .type "list", data := .seq vs.toArray } (.lst (ns.map V.int))) else if b ∈ Ps then some (HO.tbl #[]) else none : Hp) b = some u → (b = a ∧ u = .frz { cls := .type "list", data := .seq vs.toArray } (.lst (ns.map V.int))) ∨ (b ∈ Ps ∧ u = .tbl #[]) := by
        intro b u z
        by_cases e : b = a
        · exact .inl ⟨e, (Option.some.inj ((if_pos e).symm.trans z)).symm⟩
        · have z := (if_neg e).symm.trans z
          by_cases e2 : b ∈ Ps
          · exact .inr ⟨e2, (Option.some.inj ((if_pos e2).symm.trans z)).symm⟩
          · exact nomatch (if_neg e2).symm.trans z
      refine ⟨fun b => if b = a then some (HO.frz { cls := .type "list", data := .seq vs.toArray } (.lst (ns.map V.int))) else if b ∈ Ps then some (HO.tbl #[]) else none, fun b hb => (if_neg (show ¬ b = a from fun e => apart (e ▸ hb))).trans (if_pos hb), .inl (.inr ⟨_, if_pos rfl⟩), fun b u z => ?_, two, fun b u z => ?_⟩
      · rcases two b u z with ⟨rfl, rfl⟩ | ⟨mem, rfl⟩
        · exact ⟨script, by rw [List.length_map]; exact few, vs, _, ivs, script⟩
        · exact emptyP b mem
      · rcases two b u z with ⟨rfl, _⟩ | ⟨mem, _⟩
        · exact look
        · exact looseP b mem
  have stays : ∀ {b : Addr} {o : Obj}, s₁.heap.get? b = some o → (∀ u, H b ≠ some u) → (hidT s₁.heap H).get? b = some o := fun {b o} e no => hidT_get e (by
    cases z : H b with
    | none => rfl
    | some u => exact (no u z).elim)
  have plainly : ∀ {b : Addr} {o : Obj}, s₁.heap.get? b = some o → (∀ v n, o.data ≠ .seq v n) → (∀ v, o.data ≠ .fields v) → (hidT s₁.heap H).get? b = some o := fun {b o} e n1 n2 => stays e fun u z => by
    rcases only b u z with ⟨rfl, _⟩ | ⟨mem, _⟩
    · rw [script] at e
      injection e with e
      subst e
      exact n1 _ _ rfl
    · rw [emptyP b mem] at e
      injection e with e
      subst e
      exact n2 _ rfl
  have spaces : ∀ {b : Addr} {m : Str → Option Value}, s₁.heap.Ns b m → (hidT s₁.heap H).Ns b m := by
    rintro b m ⟨o, es, ep, there, data, rest⟩
    refine ⟨o, es, ep, plainly there (fun v n z => ?_) (fun v z => ?_), data, rest⟩
    · rw [data] at z
      exact nomatch z
    · rw [data] at z
      exact nomatch z
  have inn : K.In (hidT s₁.heap H) := fun b o e => stays (inK b o e) fun u z => by
    rw [free b u z] at e
    exact nomatch e
  have mod : Mod K mg (hidT s₁.heap H) := by
    obtain ⟨mc, c1, c2⟩ := unlim
    exact ⟨inn, spaces names, ⟨mb, spaces bnames, boots⟩, mc, spaces c1, c2⟩
  have tb : ∀ t ∈ ct, TabB (hidT s₁.heap H) mg t.1 t.2 := fun t ht => by
    have empty := empty t ht
    refine ⟨PySem.W.codeHd_of_K inn (head t ht), ?_, fun z => ?_⟩
    · obtain ⟨bm, ob, m1, m2, m3, m4, m5, m6⟩ := mods
      refine ⟨bm, ob, m1, m2, fun z => ?_, fun z => ?_, plainly m3 (fun v n z => ?_) (fun v z => ?_), m4, m5, m6⟩
      · obtain ⟨o, es, ep, there, data, _⟩ := names
        rw [z, there] at m3
        injection m3 with m3
        subst m3
        rw [data] at m6
        exact nomatch m6
      · rw [z, empty] at m3
        injection m3 with m3
        subst m3
        exact nomatch m6
      · rw [m6] at z
        exact nomatch z
      · rw [m6] at z
        exact nomatch z
    · obtain ⟨o, es, ep, there, data, _⟩ := names
      rw [z, empty] at there
      injection there with there
      subst there
      exact nomatch data
  have e0 : Env0 P w K mg (hidT s₁.heap H) callerA [] s₁ H := by
    refine ⟨rfl, mod, fun b o e => of_hidT e, Nat.le_of_eq (hidT_size _ _), trivial, ?_, ok, .of_eq nogen⟩
    intro b q
    exact absurd q (List.not_mem_nil (a := b))
  refine codeAny_mono ((each _ inn (spaces names) tb).run callerA [] s₁ H ⟨[.ref a], []⟩ [.ref a] [.ref a] _ _ rfl room e0 (binds s₁ (.ref a)) (.cons rfl .nil) (asked H (fun y hy => by
    have m : y.1 ∈ Ps := by
      rw [hPs, ← names2]
      exact List.mem_map.mpr ⟨y, hy, rfl⟩
    exact TabS.nil (table _ m)) seq)) ?_
  rintro (e | out) s' got
  · exact got.elim
  · match out, got with
    | .next, got => exact got.elim
    | .brk, got => exact got.elim
    | .cont, got => exact got.elim
    | .ret u, ⟨v, H', os, bare, un, ok', rel, q⟩ =>
      have q : v = V.bl true := q
      subst q
      have rel : u = Value.bool true := rel
      subst rel
      have kept : ∀ b o, b ∉ Ps → s₁.heap.get? b = some o → s'.heap.get? b = some o := fun b o other e => by
        cases z : H b with
        | none => exact un.keep b o e z (List.not_mem_nil (a := b)) (List.not_mem_nil (a := b))
        | some u =>
          rcases only b u z with ⟨rfl, rfl⟩ | ⟨mem, rfl⟩
          · have now := (ok' _ _ (un.frzs _ _ _ z)).1
            rw [script] at e
            injection e with e
            rw [← e]
            exact now
          · exact (other mem).elim
      have grow : ∀ b ∈ Ps, ∃ more : Array Value, s'.heap.get? b = some (PySem.W.tabObj (#[] ++ more)) := fun b hb => by
        obtain ⟨more, grown⟩ := un.tbls b #[] (table b hb)
        exact ⟨more, ok' b _ grown⟩
      refine ⟨rfl, ⟨fun b o e => ?_, fun b o e => ?_⟩, os, bare⟩
      · by_cases eb : b ∈ Ps
        · obtain ⟨more, grown⟩ := grow b eb
          obtain ⟨c, hc⟩ := headP b eb
          have e0 := emptyP b eb
          rw [e0] at e
          injection e with e
          subst e
          exact .inr (.inl ⟨((PySem.W.codeHd_of_K inK hc).tab e0).isCodeTable, rfl, #[], _, rfl, by rw [Array.empty_append]; rw [Array.empty_append] at grown; exact grown⟩)
        · exact .inl (kept b o eb e)
      · by_cases eb : b ∈ Ps
        · obtain ⟨more, grown⟩ := grow b eb
          exact ⟨_, grown⟩
        · exact ⟨o, kept b o eb e⟩
/-- at the end of a law that makes lambdas of its own -/
theorem walk_at_lawTs {l : PySem.W.OpenLaw} {k : Nat} {q : Program} {loose : List Str} {XP : (Str → Option Value) → Heap → Prop} {YP : World → Heap → Prop} {d : DefRec} {K : Params → PySem.W.Frag} {sp : PySem.W.Frag → List (Addr × Str) → Sp} {x : Str}
    (hn : l.most = some 63) (hdf : d.params.defaults = []) (hr : Room k callerA) (hY : ∀ (w : World) (h : Heap), YP w h → (K w.params).In h)
    (F : ∀ (w : World) (mg : Str → Option Value) (fa : Addr) (h : Heap), (K w.params).In h → h.Ns mainGlobals mg → mg d.name = some (.ref fa) → (∀ (nm : Str) (f : Addr), ((recsOf q).any fun e => e.name == nm) = true → mg nm = some (.ref f) → OwnTab (K w.params) f h) →
      ∃ (fd : FuncData) (ct : List (Addr × Addr)) (TT : List (Addr × Str)), (∀ t ∈ ct, h.get? t.2 = some (PySem.W.tabObj #[])) ∧ (∀ t ∈ ct, (K w.params).lookup t.2 = none) ∧ (∀ t ∈ ct, PySem.W.codeHdIn (K w.params) t.1 t.2 = true) ∧ TT.map (·.1) = ct.map (·.2) ∧ (∀ (s : Shared) (u : Value), BindsTo s fd ⟨[u], []⟩ [(x, u)]) ∧
        ∀ base : Heap, (K w.params).In base → base.Ns mainGlobals mg → (∀ t ∈ ct, TabB base mg t.1 t.2) → FnG l.prog w (K w.params) mg base k fa fd [x] (sp (K w.params) TT))
    (asked : ∀ (K : PySem.W.Frag) (TT : List (Addr × Str)) (H : Hp) (a : Addr) (ns : List Int), ns.length ≤ 63 → Tabs TT H → SqL K H a (ns.map V.int) → sp K TT [.ref a] H (fun v _ => v = .bl true) E0) :
    PySem.W.WalkO q loose XP YP l.row.toRowW d [] (fun f vs => PySem.call f vs) := by
  refine Att.attach_call hn hdf ?_
  intro w s₀ s₁ mg mb fa o pm cd doc a vs ns G Y ho hd hcd hmg hobj hints hlen hg
  have inn := hY w _ Y
  have mine : ∀ (nm : Str) (f : Addr), ((recsOf q).any fun e => e.name == nm) = true → mg nm = some (.ref f) → OwnTab (K w.params) f s₁.heap := by
    intro nm fa listed hmg c Pt o1 fd1 e dd vs1 sl z1 z2 z3 z4 z5
    obtain ⟨r, mem, same⟩ := List.any_eq_true.mp listed
    obtain ⟨a2, o2, fd2, c2, P2, y1, y2, y3, y4, _, ⟨oc, vc, x1, _, x3, x4⟩, there⟩ := G.T.tab r mem
    rw [beq_iff_eq.mp same, hmg] at y1
    obtain rfl : fa = a2 := by
      injection y1 with y1
      injection y1
    have f1 := inn _ _ z1
    rw [y2] at f1
    injection f1 with f1
    subst f1
    rw [z2] at y3
    injection y3 with y3
    subst y3
    rw [z3] at y4
    injection y4 with y4
    subst y4
    have f2 := inn _ _ z4
    rw [x1] at f2
    injection f2 with f2
    subst f2
    injection x3 with x3
    subst x3
    rw [z5] at x4
    injection x4 with x4
    injection x4 with x4
    subst x4
    exact there
  obtain ⟨fd, ct, TT, t1, t2, t3, t4, bind, each⟩ := F w mg fa _ inn G.T.g hmg mine
  exact law_atTs inn G.T.g G.T.b G.T.builtins G.T.nolimit hg t1 t2 t3 t4 G.T.bmain hobj hints (Nat.le_trans hlen (by decide)) hr each bind fun H tb sq => asked (K w.params) TT H a ns hlen tb sq
end Sm

set_option Elab.async false
set_option linter.all false
namespace L2
open PySem PySem.Spec PyProof.Rows
/-! == and != of data without dicts, whatever the signs of its texts -/
def rEqP (K : PySem.W.Frag) : R2 := fun x y H Q => ∃ d e, Dp K H x d ∧ Dp K H y e ∧ d.plain = true ∧ e.plain = true ∧ d.depth ≤ 60 ∧ Q (.bl (PyData.eqv d e)) H
def rNeP (K : PySem.W.Frag) : R2 := fun x y H Q => ∃ d e, Dp K H x d ∧ Dp K H y e ∧ d.plain = true ∧ e.plain = true ∧ d.depth ≤ 60 ∧ Q (.bl (!PyData.eqv d e)) H
section
variable {X : Cx}
theorem op_eqP (hu : X.A.units + 64 < cLine) : OpR X (compareOp .Eq) (rEqP X.K) := by
  intro pins s σ H x y v u Q I rx ry h
  obtain ⟨d, e, hd, he, sd, se, dd, q⟩ := h
  obtain ⟨as, r1⟩ := Dp.reads I d x v hd rx
  obtain ⟨bs, r2⟩ := Dp.reads I e y u he ry
  exact SeqAt.eq_plain r1 r2 sd se (by omega) ⟨.bl _, H, I, rfl, q⟩
theorem op_neP (hu : X.A.units + 64 < cLine) : OpR X (compareOp .NotEq) (rNeP X.K) := by
  intro pins s σ H x y v u Q I rx ry h
  obtain ⟨d, e, hd, he, sd, se, dd, q⟩ := h
  obtain ⟨as, r1⟩ := Dp.reads I d x v hd rx
  obtain ⟨bs, r2⟩ := Dp.reads I e y u he ry
  exact SeqAt.ne_plain r1 r2 sd se (by omega) ⟨.bl _, H, I, rfl, q⟩
end
end L2

set_option Elab.async false
set_option linter.all false
set_option maxRecDepth 100000
set_option maxHeartbeats 4000000
namespace PySem.SeqAt
open AutoSeq1 (wpAny_loadPart')
open MeetsSeq
theorem dict_no_str (l : Addr) (es : Array DictEntry) (n : Nat) (dd : Option Addr) (sl : Array (Option Value)) (b : Str) (u : Tok) :
    Meets (Builtin.«dict.__eq__» ⟨[.ref l, .str b u], []⟩) (fun _ R s => s.heap.get? l = some { cls := .type "dict", dict := dd, data := .dict es n, slots := sl } ∧ R (.ok (.ret .notImplemented)) s) :=
  .of_wp fun prog w A R s h => by
    obtain ⟨hp, g, d, tk, os⟩ := s
    obtain ⟨hl, h⟩ := h
    have f1 := F.sub_str_dict
    wp_walk using wpAny_loadPart' hl
    exact ⟨_, rfl, h⟩
theorem str_no_dict (b : Str) (u : Tok) (l : Addr) (es : Array DictEntry) (n : Nat) (dd : Option Addr) (sl : Array (Option Value)) :
    Meets (Builtin.«str.__eq__» ⟨[.str b u, .ref l], []⟩) (fun _ R s => s.heap.get? l = some { cls := .type "dict", dict := dd, data := .dict es n, slots := sl } ∧ R (.ok (.ret .notImplemented)) s) :=
  .of_wp fun prog w A R s h => by
    obtain ⟨hp, g, d, tk, os⟩ := s
    obtain ⟨hl, h⟩ := h
    wp_walk using wpAny_loadPart' hl, wpAny_load hl
    exact ⟨_, rfl, h⟩
/-- a dict is no text -/
theorem rc_dict_str {A : Around} {s : Shared} {l : Addr} {o : Obj} {es : Array DictEntry} {n : Nat} (b : Str) (u : Tok) (ho : s.heap.get? l = some o) (hc : o.cls = .type "dict") (hd : o.data = .dict es n) (hu : A.units < cLine) : RcAt A s (.ref l) (.str b u) false := fun prog w E Q h => by
  obtain ⟨cls, dd, data, sl⟩ := o
  simp only at hc hd
  subst hc hd
  exact rc_eq_decline_or (k := false) ⟨_, ho, rfl⟩ (typeIs_str s b u) (by decide) F.sub_str_dict F.slot_dict_eq F.slot_str_eq_refl
    (fun _ hq => call_meets F.slot_dict_eq ⟨_, ho, rfl⟩ F.entry_dict_eq (F.args_dict_eq_2 _ _) (dict_no_str l es n dd sl b u) ⟨ho, hq⟩)
    (fun _ hq => call_meets F.slot_str_eq_refl (typeIs_str s b u) F.entry_str_eq (F.args_str_eq_2 _ _) (str_no_dict b u l es n dd sl) ⟨ho, hq⟩)
    (fun _ hq => wpAny_of_eq (rfl : isSame (.ref l) (.str b u) = pure false) hq) (.inr hu) h
end PySem.SeqAt
namespace Sm
open PySem PySem.Spec PyProof.Rows L2
def strD (d : PyData) (x : Str) : Bool := match d with | .str y => decide (V.str y = V.str x) | _ => false
/-- a value of any kind == a text -/
def rEqQ (K : PySem.W.Frag) : R2 := fun x y H Q => ∃ (d : PyData) (t : Str), Dq K H x d ∧ y = .str t ∧ Q (.bl (strD d t)) H
theorem op_eqQ {X : Cx} (hu : X.A.units + 64 < cLine) : OpR X (compareOp .Eq) (rEqQ X.K) := by
  intro pins s σ H x y v u Q I rx ry h
  obtain ⟨d, t, hd, rfl, q⟩ := h
  cases hd with
  | non => exact op_eq pins s σ H _ _ v u Q I rx ry ⟨rfl, q⟩
  | bl b => exact op_eq pins s σ H _ _ v u Q I rx ry ⟨rfl, q⟩
  | int i => exact op_eq pins s σ H _ _ v u Q I rx ry ⟨rfl, q⟩
  | str z => exact op_eq pins s σ H _ _ v u Q I rx ry ⟨rfl, q⟩
  | lst e1 e2 e3 =>
    cases rx
    obtain ⟨k, rfl⟩ := ry
    obtain ⟨its, rv, hl, _⟩ := I.list (SqL.of e1)
    exact SeqAt.RcAt.list_str t k hl.isList (by omega) _ _ _ _ ⟨.bl _, H, I, rfl, q⟩
  | tup e1 e2 =>
    cases rx
    obtain ⟨k, rfl⟩ := ry
    obtain ⟨its, rv, hl, _⟩ := I.tuple (SqT.of e1)
    exact SeqAt.RcAt.tuple_str t k hl (by omega) _ _ _ _ ⟨.bl _, H, I, rfl, q⟩
  | dic kvs e1 =>
    cases rx
    obtain ⟨k, rfl⟩ := ry
    obtain ⟨_, hd, vs, kv, o, es, ep, h1, h2, h3, _⟩ := dk_of I.hok e1
    exact SeqAt.rc_dict_str t k h1 h2.1 h3 (by omega) _ _ _ _ ⟨.bl _, H, I, rfl, q⟩
end Sm

set_option Elab.async false
set_option linter.all false
set_option maxRecDepth 100000
set_option maxHeartbeats 4000000
namespace Sm
open PySem PySem.Spec PyProof.Rows L2
/-! ### a tuple taken once, or no times -/
theorem tuple_once (l : Addr) (items : Array Value) (n : Nat) (dd : Option Addr) (sl : Array (Option Value)) (u : Tok) :
    Meets (Builtin.«tuple.__mul__» ⟨[.ref l, .int 1 u], []⟩) (fun _ R s => s.heap.get? l = some { cls := .type "tuple", dict := dd, data := .seq items n, slots := sl } ∧ R (.ok (.ret (Value.ref l))) s) :=
  .of_wp fun prog w A R s h => by
    obtain ⟨hp, g, d, tk, os⟩ := s
    obtain ⟨hl, h⟩ := h
    have f1 := AutoSeq1.idx_int
    have c0 : (decide ((1 : Int) < -(2 ^ 63)) || decide ((1 : Int) ≥ 2 ^ 63)) = false := by decide
    wp_walk using wpAny_loadPart' hl
    exact ⟨_, rfl, h⟩
theorem tuple_zero (l : Addr) (items : Array Value) (n : Nat) (dd : Option Addr) (sl : Array (Option Value)) (u : Tok) (hi : items.isEmpty = false) :
    Meets (Builtin.«tuple.__mul__» ⟨[.ref l, .int 0 u], []⟩) (fun _ R s => s.heap.get? l = some { cls := .type "tuple", dict := dd, data := .seq items n, slots := sl } ∧ R (.ok (.ret (Value.ref s.heap.objs.size))) { s with heap := s.heap.push { cls := Value.type "tuple", data := Data.seq #[] } }) :=
  .of_wp fun prog w A R s h => by
    obtain ⟨hp, g, d, tk, os⟩ := s
    obtain ⟨hl, h⟩ := h
    have f1 := AutoSeq1.idx_int
    wp_walk using wpAny_loadPart' hl
    exact ⟨_, rfl, h⟩
section
variable {X : Cx}
/-- tuple * int, the int from 0 on -/
theorem op_rep0 : OpR X (binaryOp .Mult) (fun x y H Q => ∃ (l : Addr) (k : Int) (xs : List V), x = .ref l ∧ y = .int k ∧ H l = some (.tup xs) ∧ xs ≠ [] ∧ 0 ≤ k ∧ k ≤ 1000 ∧ xs.length ≤ 1000 ∧
    ∀ H' q, Same H H' → H' q = some (.tup (List.replicate k.toNat xs).flatten) → Q (.ref q) H') := by
  intro pins s σ H x y v u Q I rx ry want
  obtain ⟨l, k, xs, rfl, rfl, hT, hne, h0, h1, hz, q⟩ := want
  by_cases big : 2 ≤ k
  · exact op_repT pins s σ H _ _ v u Q I rx ry ⟨l, k, xs, rfl, rfl, SqT.of hT, hne, big, h1, hz, fun p np => q _ p (fun b o e => by rw [upd_ne (ne_of_none e np)]; exact e) upd_same⟩
  cases rx
  obtain ⟨t, rfl⟩ := ry
  obtain ⟨its, r, ⟨⟨cls, dd, data, sl⟩, ho, hc, n, hd⟩, hs⟩ := I.tuple (SqT.of hT)
  simp only at hc hd
  subst hc hd
  have hi : its.toArray.isEmpty = false := by
    cases its with
    | nil =>
      have := r.length
      exact absurd (List.eq_nil_of_length_eq_zero this) hne
    | cons a b => rfl
  by_cases one : k = 1
  · subst one
    refine wpAny_binaryOp_repeat_ref (T := "tuple") (U := "int") (by decide) ⟨_, ho, rfl⟩ (fun s' => typeIs_int s' 1 t) noFill_tuple_mul F.fills_int_mul F.slot_int_rmul repeat_tuple F.slot_int_index.lookup
      (call_meets F.slot_int_rmul (typeIs_int s 1 t) F.entry_int_rmul (F.args_int_rmul_2 _ _) (int_rmul_tuple 1 t l its.toArray n dd sl) ⟨ho, rfl, ⟨_, ho, rfl⟩, ?_⟩)
    refine call_meets F.slot_tuple_mul ⟨_, ho, rfl⟩ F.entry_tuple_mul (F.args_tuple_mul_2 _ _) (tuple_once l its.toArray n dd sl t) ⟨ho, ?_⟩
    refine ⟨.ref l, H, I, rfl, q H l (Same.refl H) ?_⟩
    rw [hT]
    simp
  · have zero : k = 0 := by omega
    subst zero
    refine wpAny_binaryOp_repeat_ref (T := "tuple") (U := "int") (by decide) ⟨_, ho, rfl⟩ (fun s' => typeIs_int s' 0 t) noFill_tuple_mul F.fills_int_mul F.slot_int_rmul repeat_tuple F.slot_int_index.lookup
      (call_meets F.slot_int_rmul (typeIs_int s 0 t) F.entry_int_rmul (F.args_int_rmul_2 _ _) (int_rmul_tuple 0 t l its.toArray n dd sl) ⟨ho, rfl, ⟨_, ho, rfl⟩, ?_⟩)
    refine call_meets F.slot_tuple_mul ⟨_, ho, rfl⟩ F.entry_tuple_mul (F.args_tuple_mul_2 _ _) (tuple_zero l its.toArray n dd sl t hi) ⟨ho, ?_⟩
    have fresh := I.hok.fresh (Nat.le_refl s.heap.objs.size)
    refine ⟨.ref s.heap.objs.size, upd H s.heap.objs.size (.tup []), I.laid (t' := s.toks) (fun b ob e => Heap.get?_push_of_some _ e) (Nat.le_refl _) ?_, rfl, q _ _ (fun b o e => by rw [upd_ne (ne_of_none e fresh)]; exact e) upd_same⟩
    exact ⟨Nat.zero_le _, [], .nil, IsTup.new _ _⟩
end
end Sm

set_option Elab.async false
set_option linter.all false
set_option maxRecDepth 100000
set_option maxHeartbeats 8000000
namespace Sm
open PySem PySem.Spec PyProof.Rows L2
open C8 (pss_cut)
def topS (i : Nat) : Stmt := PySem.Challenge.pw_smallchange_k70_purses_added_and_compare.main.body.getD i (.Pass ⟨0, 0, 0, 0⟩)
structure Txt (mg : Str → Option Value) : Prop where
  n__law_call : mg "_law_call" = none
  n_abs : mg "abs" = none
  n_all : mg "all" = none
  n_bool : mg "bool" = none
  n_enumerate : mg "enumerate" = none
  n_int : mg "int" = none
  n_isinstance : mg "isinstance" = none
  n_iter : mg "iter" = none
  n_len : mg "len" = none
  n_list : mg "list" = none
  n_max : mg "max" = none
  n_range : mg "range" = none
  n_repr : mg "repr" = none
  n_tuple : mg "tuple" = none
  n_zip : mg "zip" = none
  c_MAX_KINDS : ∃ t, mg "MAX_KINDS" = some (.int 4 t)
  c_MAX_AMOUNT : ∃ t, mg "MAX_AMOUNT" = some (.int 30 t)
theorem get_int {T : List Int} {i : Nat} (h : i < T.length) : (T.map V.int)[i]? = some (.int (T.getD i 0)) := by
  rw [List.getElem?_map, List.getElem?_eq_getElem h, List.getD_eq_getElem?_getD, List.getElem?_eq_getElem h]
  rfl
/-! ### boards in the heap -/
def OffAt (H : Hp) (q : Addr) (o : Of) : Prop := H q = some (.tup (o.ns.map V.int))
/-- the offers of a list, one after another -/
def OffsAt (H : Hp) (qs : List Addr) (L : List Of) : Prop := qs.length = L.length ∧ ∀ (i : Nat) (q : Addr), qs[i]? = some q → ∃ o, L[i]? = some o ∧ OffAt H q o
def BoardAt (H : Hp) (d : Addr) (k : Nat) (L : List Of) : Prop := ∃ (t : Addr) (qs : List Addr), H d = some (.tup [.int (k : Int), .ref t]) ∧ H t = some (.tup (qs.map V.ref)) ∧ OffsAt H qs L
theorem OffsAt.same {H H' : Hp} {qs : List Addr} {L : List Of} (h : OffsAt H qs L) (s : Same H H') : OffsAt H' qs L :=
  ⟨h.1, fun i q e => by obtain ⟨o, h1, h2⟩ := h.2 i q e; exact ⟨o, h1, s _ _ h2⟩⟩
theorem BoardAt.same {H H' : Hp} {d : Addr} {k : Nat} {L : List Of} (h : BoardAt H d k L) (s : Same H H') : BoardAt H' d k L := by
  obtain ⟨t, qs, h1, h2, h3⟩ := h
  exact ⟨t, qs, s _ _ h1, s _ _ h2, h3.same s⟩
theorem OffsAt.fr {H H' : Hp} {a l : Addr} {n : Int} {qs : List Addr} {L : List Of} (h : OffsAt H qs L) (f : Fr a l H H') (D : Deck H a l n) : OffsAt H' qs L :=
  ⟨h.1, fun i q e => by obtain ⟨o, h1, h2⟩ := h.2 i q e; exact ⟨o, h1, f.tup D h2⟩⟩
theorem BoardAt.fr {H H' : Hp} {d a l : Addr} {n : Int} {k : Nat} {L : List Of} (h : BoardAt H d k L) (f : Fr a l H H') (D : Deck H a l n) : BoardAt H' d k L := by
  obtain ⟨t, qs, h1, h2, h3⟩ := h
  exact ⟨t, qs, f.tup D h1, f.tup D h2, h3.fr f D⟩
/-- a list's place rewritten: tuples stay -/
theorem OffsAt.updL {H : Hp} {U : Addr} {xs ys : List V} {qs : List Addr} {L : List Of} (h : OffsAt H qs L) (hU : H U = some (.lst xs)) : OffsAt (upd H U (.lst ys)) qs L :=
  ⟨h.1, fun i q e => by
    obtain ⟨o, h1, h2⟩ := h.2 i q e
    refine ⟨o, h1, ?_⟩
    unfold OffAt
    rw [upd_ne (ne_of h2 hU (by intro q; cases q))]
    exact h2⟩
def sp_l_board (_ : PySem.W.Frag) : Sp := fun vs H Q _ => ∃ (p l : Addr) (n : Int) (k : Nat) (many upto : Int), vs = [.ref p, .int (k : Int), .int many, .int upto] ∧ Deck H p l n ∧ 0 ≤ n ∧ n ≤ 900000 ∧ 2 ≤ k ∧ k ≤ 4 ∧ 0 ≤ many ∧ many ≤ 40 ∧ 1 ≤ upto ∧ upto ≤ 30 ∧
  ∀ H' d L n', Fr p l H H' → Deck H' p l n' → n ≤ n' → n' ≤ n + 200 → BoardAt H' d k L → (∀ o ∈ L, OfOk k o) → (L.length : Int) ≤ many → Q (.ref d) H'
section
variable {P : Program} {w : World} {K : PySem.W.Frag} {mg : Str → Option Value} {base : Heap}
abbrev s_l_deck : Stmt := topS 19
abbrev N_l_deck : List Str := ["_law_script", "_law_cell"]
theorem sc_l_deck : FnScope N_l_deck ["_law_script"] (defScope s_l_deck) := ⟨rfl, rfl, rfl, by decide +kernel, rfl, by decide +kernel, by decide +kernel⟩
theorem ok_l_deck (T : Txt mg) (D : Df K mg "_law_deck" s_l_deck ["_law_script"]) : Cal P w K mg base "_law_deck" ["_law_script"] 1 (sp_l_deck K) := by
  refine D.cal sc_l_deck (fun vs H Q E h => ?_) (fun f cdv A outer s H vs Q E hr h => ?_)
  · obtain ⟨a, ns, rfl, _⟩ := h
    rfl
  obtain ⟨a, ns, rfl, hS, hlen, k⟩ := h
  refine ⟨_, (pss_one (ps_ret (pe_lst (pa_cons (pe_lc (own := [("_law_cell", 1)]) (g := gName 1) (tt := tYes) rfl sc_l_deck.nd (pi_list (pe_slice sl_list (pv 0) po_none (po_some pe_int))) (blkOk_by (own := [("_law_cell", 1)]) (N := N_l_deck) (sc := defScope s_l_deck) (by decide +kernel)) (fun _ _ _ _ _ => pg_name (i := 1) sc_l_deck.nd rfl (Or.inl rfl)) (fun _ _ _ _ _ => pts_nil) (fun _ _ _ _ _ => (pe_callB call_abs (by rfl) T.n_abs (by decide +kernel) (pa_cons (pv 1) pa_nil)))) (pa_cons pe_int pa_nil))))), ?_⟩
  refine ⟨_, rfl, _, rfl, a, _, rfl, hS, fun c nc => ?_⟩
  rw [cut63 hlen]
  have s1 := same_upd (o := .lst (ns.map V.int)) nc
  refine ⟨c, rfl, ⟨_, SqL.of upd_same⟩, fun D nD => ?_⟩
  have s2 := s1.trans (same_upd (o := .lst []) nD)
  have hc2 : upd (upd H c (.lst (ns.map V.int))) D (.lst []) c = some (.lst (ns.map V.int)) := same_upd nD _ _ upd_same
  refine lc_list (K := K) (a := c) (xs := ns.map V.int) (fun i H' => Same H H' ∧ H' c = some (.lst (ns.map V.int)) ∧ c ≠ D ∧ H D = none ∧ H' D = some (.lst (((ns.take i).map absI).map V.int)))
    ⟨s2, hc2, ne_of_none upd_same nD, s1.free nD, upd_same⟩ (fun i H' _ h => SqL.of h.2.1) ?_ ?_
  · rintro i x H' hx ⟨sm, hc, ncD, nD0, hD⟩
    rw [List.getElem?_map] at hx
    cases e : ns[i]? with
    | none => rw [e] at hx; cases hx
    | some y =>
      rw [e] at hx
      have ex : x = .int y := (Option.some.inj hx).symm
      subst ex
      refine ⟨rfl, ?_⟩
      unfold tYes
      refine iteT ?_
      refine ⟨_, rfl, _, rfl, _, hD, ?_, ?_⟩
      · rw [List.length_map, List.length_map, List.length_take]
        exact Nat.lt_of_le_of_lt (Nat.min_le_right _ _) (small1000 (by omega))
      · refine ⟨fun b o e => ?_, ?_, ncD, nD0, ?_⟩
        · rw [upd_ne (ne_of_none e nD0)]
          exact sm _ _ e
        · rw [upd_ne ncD]
          exact hc
        · rw [upd_same, List.take_add_one, e, List.map_append, List.map_append]
          rfl
  · rintro H' ⟨sm, hc, ncD, nD0, hD⟩
    refine ⟨(by show 2 ≤ sizeLine; decide), fun p np => ?_⟩
    have s3 := sm.trans (same_upd (o := .lst [.ref D, .int 0]) np)
    refine k _ p D s3 ⟨upd_same, _, (same_upd np) _ _ hD, fun c hc => ?_, ?_⟩
    · obtain ⟨y, _, rfl⟩ := List.mem_map.mp hc
      exact absI_pos y
    · rw [List.length_map, List.length_take]
      omega
abbrev s_l_draw : Stmt := topS 20
abbrev N_l_draw : List Str := ["_law_deck_here", "_law_many", "_law_place", "_law_cell", "_law_mixed"]
theorem sc_l_draw : FnScope N_l_draw ["_law_deck_here", "_law_many"] (defScope s_l_draw) := ⟨rfl, rfl, rfl, by decide +kernel, rfl, by decide +kernel, by decide +kernel⟩
theorem ok_l_draw (T : Txt mg) (D : Df K mg "_law_draw" s_l_draw ["_law_deck_here", "_law_many"]) : Cal P w K mg base "_law_draw" ["_law_deck_here", "_law_many"] 1 (sp_l_draw K) := by
  refine D.cal sc_l_draw (fun vs H Q E h => ?_) (fun f cdv A outer s H vs Q E hr h => ?_)
  · obtain ⟨p, l, n, m, rfl, _⟩ := h
    rfl
  obtain ⟨p, l, n, m, rfl, D, n0, n1, m0, m1, k⟩ := h
  obtain ⟨cells, hl, hc⟩ := D.hl
  have npl : p ≠ l := ne_of D.hp hl deck_ne
  refine ⟨_, (pss_cons (ps_asg (pe_op op_add (pe_ix ix_list (pv 0) pe_int (fun _ _ => rfl)) pe_int) (pg_sub (pv 0) pe_int set_list))
    (pss_cons (ps_set (i := 2) sc_l_draw.nd rfl (Or.inl rfl) (pe_op op_modN (pe_callTy call_int1 (by rfl) T.n_int (by decide +kernel) (pa_cons (pe_ix ix_list (pv 0) pe_int (fun _ _ => rfl)) pa_nil)) (pe_callB (call_max2 rfl) (by rfl) T.n_max (by decide +kernel) (pa_cons pe_int (pa_cons (pe_callB call_len_seq (by rfl) T.n_len (by decide +kernel) (pa_cons (pe_ix ix_list (pv 0) pe_int (fun _ _ => rfl)) pa_nil)) pa_nil)))))
    (pss_cons (ps_set (i := 3) sc_l_draw.nd rfl (Or.inl rfl) (pe_ix ix_list (pe_op op_cat (pe_ix ix_list (pv 0) pe_int (fun _ _ => rfl)) (pe_lst (pa_cons pe_int pa_nil))) (pv 2) (fun _ _ => rfl)))
    (pss_cons (ps_if (pt_cmpR op_ge (pv 3) (pe_op op_pow pe_int pe_int) (nomark _)) (pss_cons (ps_asg (pe_op op_fdivW (pv 3) (pv 1)) (pg_sub (pe_ix ix_list (pv 0) pe_int (fun _ _ => rfl)) (pv 2) set_list))
    (pss_one (ps_ret (pe_op op_modN (pe_callTy call_int1 (by rfl) T.n_int (by decide +kernel) (pa_cons (pv 3) pa_nil)) (pv 1))))) pss_nil)
    (pss_cons (ps_set (i := 4) sc_l_draw.nd rfl (Or.inl rfl) (pe_op op_pow (pe_op op_add (pe_op op_add (pe_op op_modN (pe_callTy call_int1 (by rfl) T.n_int (by decide +kernel) (pa_cons (pv 3) pa_nil)) pe_int) (pe_op op_mul pe_int (pe_ix ix_list (pv 0) pe_int (fun _ _ => rfl)))) pe_int) pe_int))
    (pss_one (ps_ret (pe_op op_modN (pe_callTy call_int1 (by rfl) T.n_int (by decide +kernel) (pa_cons (pe_op op_modN (pe_callTy call_int1 (by rfl) T.n_int (by decide +kernel) (pa_cons (pv 4) pa_nil)) pe_int) pa_nil)) (pv 1))))))))), ?_⟩
  refine ⟨_, rfl, _, _, _, _, rfl, rfl, SqL.of D.hp, atI_nat (j := 1) rfl, _, _, rfl, rfl, _, rfl, _, _, _, _, rfl, rfl, D.hp, rfl, ?_⟩
  generalize hH0 : upd H p (HO.lst (List.set [V.ref l, V.int n] (Int.toNat 1) ((fun i j => V.int (i + j)) n 1))) = H0
  have hH0 : upd H p (.lst [.ref l, .int (n + 1)]) = H0 := hH0
  have f0 : Fr p l H H0 := fun b o h1 _ h => by rw [← hH0, upd_ne h1]; exact h
  have hl0 : H0 l = some (.lst (cells.map V.int)) := by rw [← hH0, upd_ne npl.symm]; exact hl
  have hp0 : H0 p = some (.lst [.ref l, .int (n + 1)]) := by rw [← hH0, upd_same]
  -- place
  have big : (if ((cells.map V.int).length : Int) > 1 then ((cells.map V.int).length : Int) else 1) = max 1 (cells.length : Int) := by
    rw [List.length_map]
    split <;> omega
  have fm : (n + 1).fmod (max 1 (cells.length : Int)) = (n + 1) % (max 1 (cells.length : Int)) := fmod_pos (by omega)
  have q0 : 0 ≤ (n + 1).fmod (max 1 (cells.length : Int)) := by rw [fm]; exact Int.emod_nonneg _ (by omega)
  have q1 : (n + 1).fmod (max 1 (cells.length : Int)) < max 1 (cells.length : Int) := by rw [fm]; exact Int.emod_lt_of_pos _ (by omega)
  refine ⟨_, rfl, _, _, _, _, rfl, rfl, SqL.of hp0, atI_nat (j := 1) rfl, .inl ⟨_, rfl, _, rfl, _, _, _, _, rfl, rfl, SqL.of hp0, atI_nat (j := 0) rfl, _, _, rfl, .inl (SqL.of hl0), _, _, rfl, _, _, rfl, rfl, (by rw [big]; omega), ?_⟩⟩
  have z : ∀ B : Int → Prop, B ((n + 1).fmod (max 1 (cells.length : Int))) → B ((n + 1).fmod (if ((cells.map V.int).length : Int) > 1 then ((cells.map V.int).length : Int) else 1)) := fun B h => by rw [big]; exact h
  refine z (fun y => gName 2 (.int y) _ _ _) ?_
  clear z
  -- cell
  refine ⟨_, rfl, _, _, _, _, rfl, rfl, SqL.of hp0, atI_nat (j := 0) rfl, (by show 1 ≤ sizeLine; decide), fun t nt => ?_⟩
  have st := same_upd (o := .lst [.int 0]) nt
  have hp1 := st _ _ hp0
  have hl1 := st _ _ hl0
  have f1 := f0.trans (Same.fr (p := p) (l := l) st)
  obtain ⟨hc, h63⟩ := hc
  have ln : (cells.map V.int).length = cells.length := List.length_map ..
  refine ⟨_, _, _, _, rfl, rfl, hl1, upd_same, (by rw [ln]; exact Nat.le_trans (by omega : cells.length + 1 ≤ 64) (by decide)), fun t2 nt2 => ?_⟩
  have st2 := same_upd (o := .lst (cells.map V.int ++ [.int 0])) nt2
  have hp2 := st2 _ _ hp1
  have hl2 := st2 _ _ hl1
  have f2 := f1.trans (Same.fr (p := p) (l := l) st2)
  have ht2 : upd (upd H0 t (.lst [.int 0])) t2 (.lst (cells.map V.int ++ [.int 0])) t2 = some (.lst ((cells ++ [0]).map V.int)) := by rw [upd_same, List.map_append]; rfl
  generalize upd (upd H0 t (HO.lst [V.int 0])) t2 (HO.lst (cells.map V.int ++ [V.int 0])) = H2 at hp2 hl2 f2 ht2 ⊢
  have q2 : ((n + 1).fmod (max 1 (cells.length : Int))).toNat < (cells ++ [0]).length := by rw [List.length_append, List.length_singleton]; omega
  have q3 : (n + 1).fmod (max 1 (cells.length : Int)) = (((n + 1).fmod (max 1 (cells.length : Int))).toNat : Int) := by omega
  generalize (n + 1).fmod (max 1 (cells.length : Int)) = pl at q0 q1 q2 q3 ⊢
  have q4 : ((cells ++ [0]).map V.int)[pl.toNat]? = some (.int (cells ++ [0])[pl.toNat]) := by
    rw [List.getElem?_map, List.getElem?_eq_getElem q2]
    rfl
  have c0 : 0 ≤ (cells ++ [0])[pl.toNat] := by
    rcases List.mem_append.mp (List.getElem_mem q2) with q | q
    · exact hc _ q
    · rw [List.mem_singleton.mp q]
      decide
  have inside : 1000000000000000000 ≤ (cells ++ [0])[pl.toNat] → pl.toNat < cells.length := by
    intro q
    by_cases e : pl.toNat < cells.length
    · exact e
    · rw [List.getElem_append_right (by omega)] at q
      simp at q
  generalize (cells ++ [0])[pl.toNat] = c at q4 c0 inside ⊢
  refine ⟨_, rfl, _, _, _, _, rfl, rfl, SqL.of ht2, at_of q3 q4, ?_⟩
  refine ⟨_, rfl, _, _, rfl, rfl, ⟨by decide, by decide, by decide⟩, _, _, rfl, rfl, _, rfl, ite3 (fun e => ?_) (fun e => ?_)⟩
  · have e : 1000000000000000000 ≤ c := e
    have p1 := inside e
    have ix : ixN (cells.map V.int).length pl = some pl.toNat := by
      unfold ixN
      rw [if_pos q0, if_pos (by omega)]
    refine ⟨_, rfl, _, rfl, _, _, rfl, rfl, div_draw m0 m1, _, rfl, _, _, _, _, rfl, rfl, SqL.of hp2, atI_nat (j := 0) rfl, _, rfl, _, _, _, _, rfl, rfl, hl2, ix, ?_⟩
    refine ⟨_, rfl, .inl ⟨_, rfl, _, rfl, _, _, rfl, rfl, (by omega), ?_⟩⟩
    have fm : c.fmod m = c % m := fmod_pos m0
    refine k _ _ (by rw [fm]; exact Int.emod_nonneg _ (by omega)) (by rw [fm]; exact Int.emod_lt_of_pos _ m0) (f2.trans fun b o _ h2 h => by rw [upd_ne h2]; exact h) ⟨by rw [upd_ne npl]; exact hp2, cells.set pl.toNat (c / m), by rw [upd_same, List.map_set], fun y hy => ?_, by rw [List.length_set]; exact h63⟩
    rcases List.mem_or_eq_of_mem_set hy with q | q
    · exact hc y q
    · rw [q]; exact Int.ediv_nonneg c0 (by omega)
  · refine ⟨_, rfl, .inl ⟨_, rfl, _, _, rfl, rfl, (show (2147483587 : Int) ≠ 0 by decide), _, rfl, _, _, _, _, rfl, rfl, SqL.of hp2, atI_nat (j := 1) rfl, _, _, rfl, rfl, .inl ⟨by decide, by decide⟩, _, _, rfl, rfl, _, _, rfl, rfl, ?_⟩⟩
    have fm : c.fmod 2147483587 = c % 2147483587 := fmod_pos (by decide)
    have h0 := Int.emod_nonneg c (show (2147483587 : Int) ≠ 0 by decide)
    have h1 := Int.emod_lt_of_pos c (show (0 : Int) < 2147483587 by decide)
    refine ⟨_, _, rfl, rfl, ⟨by decide, by decide, by rw [fm]; omega⟩, ?_⟩
    refine ⟨_, rfl, .inl ⟨_, rfl, _, _, rfl, rfl, (show (2147483647 : Int) ≠ 0 by decide), .inl ⟨_, rfl, _, rfl, _, _, rfl, rfl, (by omega), ?_⟩⟩⟩
    refine k _ _ ?_ ?_ f2 ⟨hp2, cells, hl2, hc, h63⟩
    · rw [fmod_pos m0]; exact Int.emod_nonneg _ (by omega)
    · rw [fmod_pos m0]; exact Int.emod_lt_of_pos _ m0
abbrev s_l_one : Stmt := topS 21
abbrev N_l_one : List Str := ["_law_deck_here", "_law_items"]
theorem sc_l_one : FnScope N_l_one ["_law_deck_here", "_law_items"] (defScope s_l_one) := ⟨rfl, rfl, rfl, by decide +kernel, rfl, by decide +kernel, by decide +kernel⟩
theorem ok_l_one (T : Txt mg) (D : Df K mg "_law_one" s_l_one ["_law_deck_here", "_law_items"]) (C_l_draw : Cal P w K mg base "_law_draw" ["_law_deck_here", "_law_many"] 1 (sp_l_draw K)) : Cal P w K mg base "_law_one" ["_law_deck_here", "_law_items"] 2 (sp_l_one K) := by
  obtain ⟨f_l_draw, fd_l_draw, G_l_draw, m_l_draw, k_l_draw, b_l_draw⟩ := C_l_draw
  refine D.cal sc_l_one (fun vs H Q E h => ?_) (fun f cdv A outer s H vs Q E hr h => ?_)
  · obtain ⟨p, l, b, n, xs, rfl, _⟩ := h
    rfl
  obtain ⟨p, l, b, n, xs, rfl, D, n0, n1, hb, bp, bl, x0, x1, k⟩ := h
  refine ⟨_, (pss_one (ps_ret (pe_ix ix_list (pv 1) (pe_call G_l_draw (hr.mono (by decide)) (by rfl) m_l_draw k_l_draw b_l_draw .nil pass0 (pa_cons (pv 0) (pa_cons (pe_callB call_len_seq (by rfl) T.n_len (by decide +kernel) (pa_cons (pv 1) pa_nil)) pa_nil))) (fun _ _ => rfl)))), ?_⟩
  refine ⟨_, rfl, _, rfl, _, rfl, _, _, rfl, .inl (SqL.of hb), p, l, n, _, rfl, D, n0, n1, (by omega), (by omega), fun r H' r0 r1 f D' => ?_⟩
  have q : r.toNat < xs.length := by omega
  refine ⟨_, _, _, _, rfl, rfl, SqL.of (f b _ bp bl hb), at_of (j := r.toNat) (by omega) (List.getElem?_eq_getElem q), ?_⟩
  exact k _ H' (List.getElem_mem q) f D'
end
end Sm

set_option Elab.async false
set_option linter.all false
set_option maxRecDepth 100000
set_option maxHeartbeats 8000000
namespace Sm
open PySem PySem.Spec PyProof.Rows L2
open C8 (pss_cut tCut)
/-- an int within bounds -/
def inI : PyData → Int → Int → Bool
  | .int i, lo, hi => decide (lo ≤ i) && decide (i ≤ hi)
  | _, _, _ => false
def isW : PyData → Bool
  | .int _ => true
  | _ => false
theorem of_int (d : PyData) : isOf "int" d = (match d with | .int _ => true | .bool _ => true | _ => false) := by
  cases d <;> simp [isOf, isT, tyN]
theorem of_bool (d : PyData) : isOf "bool" d = (match d with | .bool _ => true | _ => false) := by
  cases d <;> simp [isOf, isT, tyN]
theorem chain_in {i lo hi : Int} {σ : L2.St} {H : Hp} {Q : VK} (h0 : σ[0]? = some (some (.int i))) (h1 : σ[1]? = some (some (.int lo))) (h2 : σ[2]? = some (some (.int hi))) (h : Q (.bl (decide (lo ≤ i) && decide (i ≤ hi))) H) :
    tChain (rI0 fun i j => V.bl (decide (i ≤ j))) (rI0 fun i j => V.bl (decide (i ≤ j))) (tVar 1) (tVar 0) (tVar 2) σ H Q := by
  refine ⟨_, h1, _, h0, _, _, rfl, rfl, _, rfl, ?_⟩
  by_cases c : lo ≤ i
  · rw [decide_eq_true c] at h ⊢
    exact iteT ⟨_, h2, _, _, rfl, rfl, h⟩
  · rw [decide_eq_false c] at h ⊢
    exact iteF h
def amB : PyData → Bool
  | .int i => decide (0 ≤ i)
  | _ => false
theorem of_tup (d : PyData) : isOf "tuple" d = (match d with | .tuple _ => true | _ => false) := by
  cases d <;> simp [isOf, isT, tyN]
def sp_is_amount (K : PySem.W.Frag) : Sp := fun vs H Q _ => ∃ (v : V) (d : PyData), vs = [v] ∧ Dq K H v d ∧ Q (.bl (amB d)) H
def sp_is_whole (K : PySem.W.Frag) : Sp := fun vs H Q _ => ∃ (v : V) (d : PyData), vs = [v] ∧ Dq K H v d ∧ Q (.bl (isW d)) H
def sp_is_within (K : PySem.W.Frag) : Sp := fun vs H Q _ => ∃ (v : V) (d : PyData) (lo hi : Int), vs = [v, .int lo, .int hi] ∧ Dq K H v d ∧ Q (.bl (inI d lo hi)) H
/-- data that is soon shown -/
structure Sml (k n : Nat) (d : PyData) : Prop where
  sh : PyData.showable d = true
  dep : d.depth ≤ k
  len : d.shown.length ≤ n
def t16 : PyData → Bool
  | .tuple ds => decide (ds.length ≤ 3)
  | _ => true
def w16 : PyData → Bool
  | .tuple [_, d] => t16 d
  | _ => true
/-- a value that stands on what is new since H -/
def DqN (K : PySem.W.Frag) (H H' : Hp) (x : V) (d : PyData) : Prop := ∀ H'' : Hp, (∀ b o, H b = none → H' b = some o → H'' b = some o) → Dq K H'' x d
theorem same_upd2 {H : Hp} {p : Addr} {o o' : HO} (h : H p = none) : Same H (upd (upd H p o) p o') := fun b x e => by
  rw [upd_ne (ne_of_none e h), upd_ne (ne_of_none e h)]
  exact e
def sp_l_odd (K : PySem.W.Frag) : Sp := fun vs H Q _ => ∃ (p l : Addr) (n : Int), vs = [.ref p] ∧ Deck H p l n ∧ 0 ≤ n ∧ n ≤ 900000 ∧
  ∀ H' x d, Fr p l H H' → Deck H' p l (n + 1) → DqN K H H' x d → Sml 3 300 d → t16 d = true → Q x H'
section
variable {P : Program} {w : World} {K : PySem.W.Frag} {mg : Str → Option Value} {base : Heap}
abbrev s_is_whole : Stmt := topS 3
abbrev N_is_whole : List Str := ["value"]
theorem sc_is_whole : FnScope N_is_whole ["value"] (defScope s_is_whole) := ⟨rfl, rfl, rfl, by decide +kernel, rfl, by decide +kernel, by decide +kernel⟩
theorem ok_is_whole (T : Txt mg) (D : Df K mg "is_whole" s_is_whole ["value"]) : Cal P w K mg base "is_whole" ["value"] 1 (sp_is_whole K) := by
  refine D.cal sc_is_whole (fun vs H Q E h => ?_) (fun f cdv A outer s H vs Q E hr h => ?_)
  · obtain ⟨v, d, rfl, _⟩ := h
    rfl
  obtain ⟨v, d, rfl, hd, k⟩ := h
  refine ⟨_, (pss_one (ps_ret (pe_and (pe_callB call_isQ (by rfl) T.n_isinstance (by decide +kernel) (pa_cons (pv 0) (pa_cons (pe_bltn (v := .ty "int") (by rfl) T.n_int (by decide +kernel) rfl) pa_nil))) (pe_one (pe_not (pe_callB call_isQ (by rfl) T.n_isinstance (by decide +kernel) (pa_cons (pv 0) (pa_cons (pe_bltn (v := .ty "bool") (by rfl) T.n_bool (by decide +kernel) rfl) pa_nil)))))))), ?_⟩
  refine ⟨_, rfl, v, d, "int", rfl, hd, .inl rfl, _, rfl, ?_⟩
  rw [of_int]
  cases hd with
  | non => exact iteF k
  | bl b => exact iteT ⟨_, rfl, _, .bool b, "bool", rfl, .bl b, .inr (.inl rfl), _, rfl, by rw [of_bool]; exact k⟩
  | int i => exact iteT ⟨_, rfl, _, .int i, "bool", rfl, .int i, .inr (.inl rfl), _, rfl, by rw [of_bool]; exact k⟩
  | str x => exact iteF k
  | lst e1 e2 e3 => exact iteF k
  | tup e1 e2 => exact iteF k
  | dic kvs e1 => exact iteF k
abbrev s_is_within : Stmt := topS 4
abbrev N_is_within : List Str := ["value", "low", "high"]
theorem sc_is_within : FnScope N_is_within ["value", "low", "high"] (defScope s_is_within) := ⟨rfl, rfl, rfl, by decide +kernel, rfl, by decide +kernel, by decide +kernel⟩
theorem ok_is_within (T : Txt mg) (D : Df K mg "is_within" s_is_within ["value", "low", "high"]) (C_is_whole : Cal P w K mg base "is_whole" ["value"] 1 (sp_is_whole K)) : Cal P w K mg base "is_within" ["value", "low", "high"] 2 (sp_is_within K) := by
  obtain ⟨f_is_whole, fd_is_whole, G_is_whole, m_is_whole, k_is_whole, b_is_whole⟩ := C_is_whole
  refine D.cal sc_is_within (fun vs H Q E h => ?_) (fun f cdv A outer s H vs Q E hr h => ?_)
  · obtain ⟨v, d, lo, hi, rfl, _⟩ := h
    rfl
  obtain ⟨v, d, lo, hi, rfl, hd, k⟩ := h
  refine ⟨_, (pss_one (ps_ret (pe_and (pe_call G_is_whole (hr.mono (by decide)) (by rfl) m_is_whole k_is_whole b_is_whole .nil pass0 (pa_cons (pv 0) pa_nil)) (pe_one (pe_chain op_le op_le (pv 1) (pv 0) (pv 2)))))), ?_⟩
  refine ⟨_, rfl, v, d, rfl, hd, _, rfl, ?_⟩
  cases hd with
  | int i => exact iteT (chain_in rfl rfl rfl k)
  | non => exact iteF k
  | bl b => exact iteF k
  | str x => exact iteF k
  | lst e1 e2 e3 => exact iteF k
  | tup e1 e2 => exact iteF k
  | dic kvs e1 => exact iteF k
abbrev s_is_amount : Stmt := topS 5
abbrev N_is_amount : List Str := ["value"]
theorem sc_is_amount : FnScope N_is_amount ["value"] (defScope s_is_amount) := ⟨rfl, rfl, rfl, by decide +kernel, rfl, by decide +kernel, by decide +kernel⟩
theorem ok_is_amount (T : Txt mg) (D : Df K mg "is_amount" s_is_amount ["value"]) (C_is_whole : Cal P w K mg base "is_whole" ["value"] 1 (sp_is_whole K)) : Cal P w K mg base "is_amount" ["value"] 2 (sp_is_amount K) := by
  obtain ⟨f_is_whole, fd_is_whole, G_is_whole, m_is_whole, k_is_whole, b_is_whole⟩ := C_is_whole
  refine D.cal sc_is_amount (fun vs H Q E h => ?_) (fun f cdv A outer s H vs Q E hr h => ?_)
  · obtain ⟨v, d, rfl, _⟩ := h
    rfl
  obtain ⟨v, d, rfl, hd, k⟩ := h
  refine ⟨_, (pss_one (ps_ret (pe_and (pe_call G_is_whole (hr.mono (by decide)) (by rfl) m_is_whole k_is_whole b_is_whole .nil pass0 (pa_cons (pv 0) pa_nil)) (pe_one (pe_cmpR op_ge (pv 0) pe_int (nomark _)))))), ?_⟩
  refine ⟨_, rfl, v, d, rfl, hd, _, rfl, ?_⟩
  cases hd with
  | int i => exact iteT ⟨_, rfl, _, _, rfl, rfl, k⟩
  | non => exact iteF k
  | bl b => exact iteF k
  | str x => exact iteF k
  | lst e1 e2 e3 => exact iteF k
  | tup e1 e2 => exact iteF k
  | dic kvs e1 => exact iteF k
abbrev s_l_odd : Stmt := topS 22
abbrev N_l_odd : List Str := ["_law_deck_here", "_law_some"]
theorem sc_l_odd : FnScope N_l_odd ["_law_deck_here"] (defScope s_l_odd) := ⟨rfl, rfl, rfl, by decide +kernel, rfl, by decide +kernel, by decide +kernel⟩
theorem ok_l_odd (T : Txt mg) (D : Df K mg "_law_odd" s_l_odd ["_law_deck_here"]) (C_l_one : Cal P w K mg base "_law_one" ["_law_deck_here", "_law_items"] 2 (sp_l_one K)) : Cal P w K mg base "_law_odd" ["_law_deck_here"] 3 (sp_l_odd K) := by
  obtain ⟨f_l_one, fd_l_one, G_l_one, m_l_one, k_l_one, b_l_one⟩ := C_l_one
  refine D.cal sc_l_odd (fun vs H Q E h => ?_) (fun f cdv A outer s H vs Q E hr h => ?_)
  · obtain ⟨p, l, n, rfl, _⟩ := h
    rfl
  obtain ⟨p, l, n, rfl, D, n0, n1, k⟩ := h
  refine ⟨_, (pss_cons (ps_set (i := 1) sc_l_odd.nd rfl (Or.inl rfl) (pe_lstN (pa_cons pe_non (pa_cons pe_bl (pa_cons pe_bl (pa_cons (pe_un un_neg pe_int) (pa_cons pe_int (pa_cons pe_str (pa_cons pe_str (pa_cons (pe_tup pa_nil) (pa_cons (pe_lstN pa_nil) (pa_cons (pe_tup (pa_cons pe_int pa_nil)) pa_nil))))))))))))
    (pss_one (ps_ret (pe_call G_l_one (hr.mono (by decide)) (by rfl) m_l_one k_l_one b_l_one .nil pass0 (pa_cons (pv 0) (pa_cons (pe_op op_cat (pv 1) (pe_lstN (pa_cons (pe_lstN (pa_cons pe_int (pa_cons pe_int pa_nil))) (pa_cons pe_dnewK (pa_cons (pe_tup (pa_cons pe_str pa_nil)) (pa_cons (pe_tup (pa_cons (pe_tup (pa_cons pe_int (pa_cons pe_int pa_nil))) pa_nil)) (pa_cons (pe_op op_pow pe_int pe_int) pa_nil))))))) pa_nil)))))), ?_⟩
  refine ⟨_, rfl, (by show 0 ≤ sizeLine; decide), fun o1 no1 => ⟨(by show 0 ≤ sizeLine; decide), fun o2 no2 eo2 => ⟨(by show 1 ≤ sizeLine; decide), fun o3 no3 => ⟨(by show 10 ≤ sizeLine; decide), fun L0 nL0 eL0 => ?_⟩⟩⟩⟩
  refine ⟨_, rfl, _, rfl, (by show 2 ≤ sizeLine; decide), fun o5 no5 eo5 => fun o6 no6 => ⟨(by show 1 ≤ sizeLine; decide), fun o7 no7 => ⟨(by show 2 ≤ sizeLine; decide), fun o8 no8 => ⟨(by show 1 ≤ sizeLine; decide), fun o9 no9 => ⟨_, _, rfl, rfl, ⟨by decide, by decide, by decide⟩, (by show 5 ≤ sizeLine; decide), fun L1 nL1 eL1 => ?_⟩⟩⟩⟩⟩
  have wo1 := same_upd (o := .tup []) no1
  have wo2 := same_upd (o := .lst []) no2
  have wo3 := same_upd (o := .tup [.int 0]) no3
  have wL0 := same_upd (o := .lst [.non, .bl true, .bl false, .int (-1), .int 60, .str "0", .str "loop", .ref o1, .ref o2, .ref o3]) nL0
  have wo5 := same_upd (o := .lst [.int 0, .int 1]) no5
  have wo6 := same_upd (o := .dK []) no6
  have wo7 := same_upd (o := .tup [.str "loop"]) no7
  have wo8 := same_upd (o := .tup [.int 0, .int 1]) no8
  have wo9 := same_upd (o := .tup [.ref o8]) no9
  have wL1 := same_upd (o := .lst [.ref o5, .ref o6, .ref o7, .ref o9, .int (10 ^ Int.toNat 40)]) nL1
  have y9 := wL1
  have y8 := wo9.trans y9
  have y7 := wo8.trans y8
  have y6 := wo7.trans y7
  have y5 := wo6.trans y6
  have y4 := wo5.trans y5
  have y3 := wL0.trans y4
  have y2 := wo3.trans y3
  have y1 := wo2.trans y2
  have y0 := wo1.trans y1
  refine ⟨L0, L1, _, _, rfl, rfl, y4 _ _ upd_same, upd_same, (by show 10 + 5 ≤ sizeLine; decide), fun C nC => ?_⟩
  have wC := same_upd (o := .lst ([.non, .bl true, .bl false, .int (-1), .int 60, .str "0", .str "loop", .ref o1, .ref o2, .ref o3] ++ [.ref o5, .ref o6, .ref o7, .ref o9, .int (10 ^ Int.toNat 40)])) nC
  have yy := y0.trans wC
  have lne := (D.same y0).lne nC
  have D1 := D.same yy
  refine ⟨p, l, C, n, _, rfl, D1, n0, by omega, upd_same, lne.1, lne.2, (by show 0 < 10 + 5; decide), (by show 10 + 5 ≤ 1000; decide), fun x H' hx f D' => ?_⟩
  have co1 := (y1.trans wC) o1 (.tup []) upd_same
  have mo1 : H o1 = none := no1
  have do1 := f _ _ (D.lne mo1).1 (D.lne mo1).2 co1
  have co2 := (y2.trans wC) o2 (.lst []) upd_same
  have mo2 : H o2 = none := Same.free wo1 no2
  have do2 := f _ _ (D.lne mo2).1 (D.lne mo2).2 co2
  have co3 := (y3.trans wC) o3 (.tup [.int 0]) upd_same
  have mo3 : H o3 = none := Same.free (wo1.trans wo2) no3
  have do3 := f _ _ (D.lne mo3).1 (D.lne mo3).2 co3
  have co5 := (y5.trans wC) o5 (.lst [.int 0, .int 1]) upd_same
  have mo5 : H o5 = none := Same.free (wo1.trans (wo2.trans (wo3.trans wL0))) no5
  have do5 := f _ _ (D.lne mo5).1 (D.lne mo5).2 co5
  have co6 := (y6.trans wC) o6 (.dK []) upd_same
  have mo6 : H o6 = none := Same.free (wo1.trans (wo2.trans (wo3.trans (wL0.trans wo5)))) no6
  have do6 := f _ _ (D.lne mo6).1 (D.lne mo6).2 co6
  have co7 := (y7.trans wC) o7 (.tup [.str "loop"]) upd_same
  have mo7 : H o7 = none := Same.free (wo1.trans (wo2.trans (wo3.trans (wL0.trans (wo5.trans wo6))))) no7
  have do7 := f _ _ (D.lne mo7).1 (D.lne mo7).2 co7
  have co8 := (y8.trans wC) o8 (.tup [.int 0, .int 1]) upd_same
  have mo8 : H o8 = none := Same.free (wo1.trans (wo2.trans (wo3.trans (wL0.trans (wo5.trans (wo6.trans wo7)))))) no8
  have do8 := f _ _ (D.lne mo8).1 (D.lne mo8).2 co8
  have co9 := (y9.trans wC) o9 (.tup [.ref o8]) upd_same
  have mo9 : H o9 = none := Same.free (wo1.trans (wo2.trans (wo3.trans (wL0.trans (wo5.trans (wo6.trans (wo7.trans wo8))))))) no9
  have do9 := f _ _ (D.lne mo9).1 (D.lne mo9).2 co9
  have k := fun x d => k H' x d ((Same.fr (p := p) (l := l) yy).trans f) D'
  clear co1 co2 co3 co5 co6 co7 co8 co9 y0 y1 y2 y3 y4 y5 y6 y7 y8 y9 yy wo1 wo2 wo3 wL0 wo5 wo6 wo7 wo8 wo9 wL1 wC f D' D1
  simp only [List.mem_append, List.mem_cons, List.not_mem_nil, or_false] at hx
  rcases hx with (rfl | rfl | rfl | rfl | rfl | rfl | rfl | rfl | rfl | rfl) | (rfl | rfl | rfl | rfl | rfl)
  · exact k _ _ (fun _ _ => .non) ⟨by decide +kernel, by decide +kernel, by decide +kernel⟩ rfl
  · exact k _ _ (fun _ _ => .bl _) ⟨by decide +kernel, by decide +kernel, by decide +kernel⟩ rfl
  · exact k _ _ (fun _ _ => .bl _) ⟨by decide +kernel, by decide +kernel, by decide +kernel⟩ rfl
  · exact k _ _ (fun _ _ => .int _) ⟨by decide +kernel, by decide +kernel, by decide +kernel⟩ rfl
  · exact k _ _ (fun _ _ => .int _) ⟨by decide +kernel, by decide +kernel, by decide +kernel⟩ rfl
  · exact k _ _ (fun _ _ => .str _) ⟨by decide +kernel, by decide +kernel, by decide +kernel⟩ rfl
  · exact k _ _ (fun _ _ => .str _) ⟨by decide +kernel, by decide +kernel, by decide +kernel⟩ rfl
  · exact k _ _ (fun H2 h => .tup (h _ _ mo1 do1) .nil) ⟨by decide +kernel, by decide +kernel, by decide +kernel⟩ rfl
  · exact k _ _ (fun H2 h => .lst (h _ _ mo2 do2) eo2 .nil) ⟨by decide +kernel, by decide +kernel, by decide +kernel⟩ rfl
  · exact k _ _ (fun H2 h => .tup (h _ _ mo3 do3) (.cons (.int _) .nil)) ⟨by decide +kernel, by decide +kernel, by decide +kernel⟩ rfl
  · exact k _ _ (fun H2 h => .lst (h _ _ mo5 do5) eo5 (.cons (.int _) (.cons (.int _) .nil))) ⟨by decide +kernel, by decide +kernel, by decide +kernel⟩ rfl
  · exact k _ _ (fun H2 h => .dic [] (h _ _ mo6 do6)) ⟨by decide +kernel, by decide +kernel, by decide +kernel⟩ rfl
  · exact k _ _ (fun H2 h => .tup (h _ _ mo7 do7) (.cons (.str _) .nil)) ⟨by decide +kernel, by decide +kernel, by decide +kernel⟩ rfl
  · exact k _ _ (fun H2 h => .tup (h _ _ mo9 do9) (.cons (.tup (h _ _ mo8 do8) (.cons (.int _) (.cons (.int _) .nil))) .nil)) ⟨by decide +kernel, by decide +kernel, by decide +kernel⟩ rfl
  · exact k _ _ (fun _ _ => .int _) ⟨by decide +kernel, by decide +kernel, by decide +kernel⟩ rfl
end
end Sm

set_option Elab.async false
set_option linter.all false
set_option maxRecDepth 100000
set_option maxHeartbeats 8000000
namespace Sm
open PySem PySem.Spec PyProof.Rows L2
open C8 (pss_cut tCut)
theorem inI_int {d : PyData} {lo hi : Int} (h : inI d lo hi = true) : ∃ i, d = .int i ∧ lo ≤ i ∧ i ≤ hi := by
  cases d with
  | int i =>
    have h : (decide (lo ≤ i) && decide (i ≤ hi)) = true := h
    rw [Bool.and_eq_true, decide_eq_true_iff, decide_eq_true_iff] at h
    exact ⟨i, rfl, h⟩
  | _ => cases h
def neI : PyData → PyData → Bool
  | .int i, .int j => !decide (V.int i = V.int j)
  | _, _ => false
/-- an offer for so many kinds, of whatever is asked for -/
def offB (k : Nat) : PyData → Bool
  | .tuple [a, x, b, y] => inI a 0 ((k : Int) - 1) && (inI b 0 ((k : Int) - 1) && (neI a b && (inI x 1 30 && inI y 0 30)))
  | _ => false
theorem offB_len {k : Nat} {ds : List PyData} (h : ds.length ≠ 4) : offB k (.tuple ds) = false := by
  match ds, h with
  | [], _ => rfl
  | [_], _ => rfl
  | [_, _], _ => rfl
  | [_, _, _], _ => rfl
  | _ :: _ :: _ :: _ :: _ :: _, _ => rfl
theorem dqa_len {K : PySem.W.Frag} {H : Hp} : ∀ {xs : List V} {ds : List PyData}, DqAll K H xs ds → xs.length = ds.length
  | _, _, .nil => rfl
  | _, _, .cons _ t => by rw [List.length_cons, List.length_cons, dqa_len t]
def sp_is_offer (K : PySem.W.Frag) : Sp := fun vs H Q _ => ∃ (v : V) (d : PyData) (k : Nat), vs = [.int (k : Int), v] ∧ Dq K H v d ∧ Q (.bl (offB k d)) H
section
variable {P : Program} {w : World} {K : PySem.W.Frag} {mg : Str → Option Value} {base : Heap}
abbrev s_is_offer : Stmt := topS 7
abbrev N_is_offer : List Str := ["kinds", "value", "taken", "least", "given", "worth"]
theorem sc_is_offer : FnScope N_is_offer ["kinds", "value"] (defScope s_is_offer) := ⟨rfl, rfl, rfl, by decide +kernel, rfl, by decide +kernel, by decide +kernel⟩
theorem ok_is_offer (T : Txt mg) (D : Df K mg "is_offer" s_is_offer ["kinds", "value"]) (C_is_within : Cal P w K mg base "is_within" ["value", "low", "high"] 2 (sp_is_within K)) : Cal P w K mg base "is_offer" ["kinds", "value"] 3 (sp_is_offer K) := by
  obtain ⟨f_is_within, fd_is_within, G_is_within, m_is_within, k_is_within, b_is_within⟩ := C_is_within
  refine D.cal sc_is_offer (fun vs H Q E h => ?_) (fun f cdv A outer s H vs Q E hr h => ?_)
  · obtain ⟨v, d, k, rfl, _⟩ := h
    rfl
  obtain ⟨v, d, k, rfl, hD, kk⟩ := h
  obtain ⟨_, hMAX_AMOUNT⟩ := T.c_MAX_AMOUNT
  refine ⟨_, (pss_cons (ps_if (PW.pt (pw_or (pt_not (pt_val (pe_callB call_isQ (by rfl) T.n_isinstance (by decide +kernel) (pa_cons (pv 1) (pa_cons (pe_bltn (v := .ty "tuple") (by rfl) T.n_tuple (by decide +kernel) rfl) pa_nil))))) (pw_or1 (pt_cmpR op_ne (pe_callB call_len_seq (by rfl) T.n_len (by decide +kernel) (pa_cons (pv 1) pa_nil)) pe_int (nomark _))))) (pss_one (ps_ret pe_bl)) pss_nil)
    (pss_cons (ps_asg (pv 1) (pg_tup (by rfl) (pgs_cons (pg_name (i := 2) sc_is_offer.nd rfl (Or.inl rfl)) (pgs_cons (pg_name (i := 3) sc_is_offer.nd rfl (Or.inl rfl)) (pgs_cons (pg_name (i := 4) sc_is_offer.nd rfl (Or.inl rfl)) (pgs_cons (pg_name (i := 5) sc_is_offer.nd rfl (Or.inl rfl)) pgs_nil))))))
    (pss_cons (ps_if (PW.pt (pw_or (pt_not (pt_val (pe_call G_is_within (hr.mono (by decide)) (by rfl) m_is_within k_is_within b_is_within .nil pass0 (pa_cons (pv 2) (pa_cons pe_int (pa_cons (pe_op op_sub (pv 0) pe_int) pa_nil)))))) (pw_or1 (pt_not (pt_val (pe_call G_is_within (hr.mono (by decide)) (by rfl) m_is_within k_is_within b_is_within .nil pass0 (pa_cons (pv 4) (pa_cons pe_int (pa_cons (pe_op op_sub (pv 0) pe_int) pa_nil))))))))) (pss_one (ps_ret pe_bl)) pss_nil)
    (pss_one (ps_ret (pe_and (pe_cmpR op_ne (pv 2) (pv 4) (nomark _)) (pe_and (pe_call G_is_within (hr.mono (by decide)) (by rfl) m_is_within k_is_within b_is_within .nil pass0 (pa_cons (pv 3) (pa_cons pe_int (pa_cons (pe_glob (v := .int 30) rfl hMAX_AMOUNT ⟨_, rfl⟩) pa_nil)))) (pe_one (pe_call G_is_within (hr.mono (by decide)) (by rfl) m_is_within k_is_within b_is_within .nil pass0 (pa_cons (pv 5) (pa_cons pe_int (pa_cons (pe_glob (v := .int 30) rfl hMAX_AMOUNT ⟨_, rfl⟩) pa_nil)))))))))))), ?_⟩
  refine ⟨_, rfl, v, d, "tuple", rfl, hD, .inr (.inr (.inr (.inl rfl))), ?_⟩
  rw [of_tup]
  cases hD with
  | non => exact ⟨_, rfl, iteT kk⟩
  | bl b => exact ⟨_, rfl, iteT kk⟩
  | int i => exact ⟨_, rfl, iteT kk⟩
  | str x => exact ⟨_, rfl, iteT kk⟩
  | lst e1 e2 e3 => exact ⟨_, rfl, iteT kk⟩
  | dic kvs e1 => exact ⟨_, rfl, iteT kk⟩
  | @tup q xs ds e1 e2 =>
    have ln := dqa_len e2
    refine ⟨_, rfl, iteF ⟨_, rfl, q, _, rfl, .inr (SqT.of e1), rfl, _, rfl, ?_⟩⟩
    by_cases l4 : ds.length = 4
    · obtain ⟨a, x, b, y, rfl⟩ : ∃ a x b y, ds = [a, x, b, y] := by
        match ds, l4 with
        | [a, x, b, y], _ => exact ⟨a, x, b, y, rfl⟩
      cases e2 with
      | @cons va _ _ _ ha e2 =>
        cases e2 with
        | @cons vx _ _ _ hx e2 =>
          cases e2 with
          | @cons vb _ _ _ hb e2 =>
            cases e2 with
            | @cons vy _ _ _ hy e2 =>
              cases e2
              refine iteNP (by rfl) ?_
              refine ⟨_, rfl, q, _, rfl, SqT.of e1, rfl, _, _, rfl, _, _, rfl, _, _, rfl, _, _, rfl, rfl, ?_⟩
              refine ⟨_, rfl, _, rfl, _, _, rfl, rfl, va, a, 0, (k : Int) - 1, rfl, ha, ?_⟩
              have kk : Q (.bl (inI a 0 ((k : Int) - 1) && (inI b 0 ((k : Int) - 1) && (neI a b && (inI x 1 30 && inI y 0 30))))) H := kk
              cases wa : inI a 0 ((k : Int) - 1) with
              | false =>
                rw [wa] at kk
                exact ⟨_, rfl, iteT kk⟩
              | true =>
                rw [wa] at kk
                refine ⟨_, rfl, iteF ⟨_, rfl, _, rfl, _, _, rfl, rfl, vb, b, 0, (k : Int) - 1, rfl, hb, ?_⟩⟩
                cases wb : inI b 0 ((k : Int) - 1) with
                | false =>
                  rw [wb] at kk
                  exact ⟨_, rfl, iteT kk⟩
                | true =>
                  rw [wb] at kk
                  refine ⟨_, rfl, iteF ?_⟩
                  obtain ⟨ia, rfl, _⟩ := inI_int wa
                  obtain ⟨ib, rfl, _⟩ := inI_int wb
                  cases ha
                  cases hb
                  have kk : Q (.bl ((!decide (V.int ia = V.int ib)) && (inI x 1 30 && inI y 0 30))) H := kk
                  refine ⟨_, rfl, _, rfl, rfl, _, rfl, ?_⟩
                  by_cases e : V.int ia = V.int ib
                  · rw [decide_eq_true e] at kk
                    exact iteNP e kk
                  · rw [decide_eq_false e] at kk
                    refine iteNN e ?_
                    refine ⟨_, rfl, vx, x, 1, 30, rfl, hx, _, rfl, ?_⟩
                    cases wx : inI x 1 30 with
                    | false =>
                      rw [wx] at kk
                      exact iteF kk
                    | true =>
                      rw [wx] at kk
                      exact iteT ⟨_, rfl, vy, y, 0, 30, rfl, hy, kk⟩
    · rw [offB_len l4] at kk
      exact iteNN (fun e => l4 (by injection e with e; omega)) kk
end
end Sm

set_option Elab.async false
set_option linter.all false
set_option maxRecDepth 100000
set_option maxHeartbeats 8000000
namespace Sm
open PySem PySem.Spec PyProof.Rows L2
open C8 (pss_cut tCut)
/-! ### purses as objects -/
def PurseAt (cPurse : Addr) (H : Hp) (p : Addr) (k : Nat) (f : Nat → Int) : Prop := ∃ dx t : Addr, H p = some (.ins cPurse dx [(("amounts" : Str), .ref t)]) ∧ H t = some (.tup ((vec k f).map V.int))
theorem PurseAt.same {cPurse : Addr} {H H' : Hp} {p : Addr} {k : Nat} {f : Nat → Int} (h : PurseAt cPurse H p k f) (s : Same H H') : PurseAt cPurse H' p k f := by
  obtain ⟨dx, t, h1, h2⟩ := h
  exact ⟨dx, t, s _ _ h1, s _ _ h2⟩
/-- what the written part says of the class -/
structure TxP (K : PySem.W.Frag) (mg : Str → Option Value) (cPurse fPi fAdd fSub fMul fIn fCov : Addr) : Prop where
  g : mg "Purse" = some (.ref cPurse)
  ins : InsC K cPurse
  mak : Mk K cPurse fPi
  na : NoAttr K cPurse "amounts"
  first : PySem.W.selfFirst K cPurse = true
  mAdd : Spm K cPurse "__add__" fAdd
  mSub : Spm K cPurse "__sub__" fSub
  mMul : Spm K cPurse "__mul__" fMul
  mIn : Spm K cPurse "__contains__" fIn
  meC : Meth K cPurse "covers" fCov
  nr : PySem.W.findIn K (.ref cPurse) "__rmul__" = some none
  kd : kindsOk K cPurse .Mult = true
  isT : PySem.W.kitOne K (.ref cPurse) (.type "tuple") = some false
/-- an own exception class without fields, over ValueError -/
structure XPl (K : PySem.W.Frag) (mg : Str → Option Value) (nm : Str) (C : Addr) : Prop where
  g : mg nm = some (.ref C)
  q : PySem.W.excIn K C [.type "ValueError", .type "Exception", .type "BaseException", .type "object"] "ValueError.__new__" = true
  k : PySem.W.keepIn K (.ref C) = true
  s : PySem.W.subIn K (.ref C) (.type "BaseException") = some true
  t : PySem.W.typeIn K (.ref C) = some (.type "type")
  ec : ExcC K C
  te : PySem.W.exmOne K (.ref C) (.ref C) = some true
def sp_Pinit (K : PySem.W.Frag) (cPurse : Addr) : Sp := fun vs H Q _ => ∃ (a dx t : Addr) (ns : List Int), vs = [.ref a, .ref t] ∧ H a = some (.ins cPurse dx []) ∧ H t = some (.tup (ns.map V.int)) ∧ 1 ≤ ns.length ∧ ns.length ≤ 4 ∧ (∀ n ∈ ns, 0 ≤ n) ∧
  ∀ H', (∀ b o, b ≠ a → H b = some o → H' b = some o) → H' a = some (.ins cPurse dx [(("amounts" : Str), .ref t)]) → Q .non H'
def sp_check (cPurse cO : Addr) : Sp := fun vs H Q E => ∃ (a b : Addr) (k k' : Nat) (f g : Nat → Int), vs = [.ref a, .ref b] ∧ PurseAt cPurse H a k f ∧ PurseAt cPurse H b k' g ∧ (k ≠ k' → E (.ref cO) none H) ∧ (k = k' → Q .non H)
def sp_Padd (cPurse cO : Addr) : Sp := fun vs H Q E => ∃ (a b : Addr) (k k' : Nat) (f g : Nat → Int), vs = [.ref a, .ref b] ∧ PurseAt cPurse H a k f ∧ PurseAt cPurse H b k' g ∧ 1 ≤ k ∧ k ≤ 4 ∧ (∀ i, i < k → 0 ≤ f i) ∧ (∀ i, i < k' → 0 ≤ g i) ∧ (k ≠ k' → E (.ref cO) none H) ∧
  (k = k' → ∀ H' p, Same H H' → PurseAt cPurse H' p k (fun i => f i + g i) → Q (.ref p) H')
def sp_Psub (cPurse cO cN : Addr) : Sp := fun vs H Q E => ∃ (a b : Addr) (k k' : Nat) (f g : Nat → Int), vs = [.ref a, .ref b] ∧ PurseAt cPurse H a k f ∧ PurseAt cPurse H b k' g ∧ 1 ≤ k ∧ k ≤ 4 ∧ (k ≠ k' → E (.ref cO) none H) ∧
  (k = k' → ∀ j, j < k → f j < g j → (∀ i, i < j → g i ≤ f i) → ∀ H' y, Same H H' → H' y = some (.xd [(("kind" : Str), .int (j : Int))]) → E (.ref cN) (some y) H') ∧
  (k = k' → (∀ i, i < k → g i ≤ f i) → ∀ H' p, Same H H' → PurseAt cPurse H' p k (fun i => f i - g i) → Q (.ref p) H')
def sp_Pcov (cPurse cO : Addr) : Sp := fun vs H Q E => ∃ (a b : Addr) (k k' : Nat) (f g : Nat → Int), vs = [.ref a, .ref b] ∧ PurseAt cPurse H a k f ∧ PurseAt cPurse H b k' g ∧ k ≤ 4 ∧ (k ≠ k' → E (.ref cO) none H) ∧
  (k = k' → ∀ H', Same H H' → Q (.bl ((List.range k).all fun i => decide (g i ≤ f i))) H')
def sp_Pmul (K : PySem.W.Frag) (cPurse cM : Addr) : Sp := fun vs H Q E => ∃ (a : Addr) (k : Nat) (f : Nat → Int) (v : V) (d : PyData), vs = [.ref a, v] ∧ PurseAt cPurse H a k f ∧ 1 ≤ k ∧ k ≤ 4 ∧ (∀ i, i < k → 0 ≤ f i ∧ (f i).natAbs < 2 ^ 200) ∧ Dq K H v d ∧
  (amB d = false → ∀ H' y, Same H H' → H' y = some (.xd [(("value" : Str), v)]) → E (.ref cM) (some y) H') ∧
  (∀ m : Int, d = .int m → 0 ≤ m → m.natAbs < 2 ^ 200 → ∀ H' p, Same H H' → PurseAt cPurse H' p k (fun i => f i * m) → Q (.ref p) H') ∧ (∀ m : Int, d = .int m → m.natAbs < 2 ^ 200)
/-- x in o, x any data -/
def belB (f : Nat → Int) : PyData → Bool
  | .tuple (.int a :: .int x :: _) => decide (x ≤ f a.toNat)
  | _ => false
def offAt (k : Nat) (f : Nat → Int) (d : PyData) : Bool := offB k d && belB f d
def sp_Pin (K : PySem.W.Frag) (cPurse : Addr) : Sp := fun vs H Q _ => ∃ (a : Addr) (k : Nat) (f : Nat → Int) (v : V) (d : PyData), vs = [.ref a, v] ∧ PurseAt cPurse H a k f ∧ Dq K H v d ∧ Q (.bl (offAt k f d)) H
def sp_PinO (cPurse : Addr) : Sp := fun vs H Q _ => ∃ (a b dy : Addr) (k : Nat) (f : Nat → Int) (gs : List (Str × V)), vs = [.ref a, .ref b] ∧ PurseAt cPurse H a k f ∧ H b = some (.ins cPurse dy gs) ∧ Q (.bl false) H
def sp_is_offerO (cPurse : Addr) : Sp := fun vs H Q _ => ∃ (b dy : Addr) (k : Nat) (gs : List (Str × V)), vs = [.int (k : Int), .ref b] ∧ H b = some (.ins cPurse dy gs) ∧ Q (.bl false) H
theorem ps_no {X : Cx} {st : Stmt} : PS X st (fun _ _ _ => False) := by
  constructor
  intros
  contradiction
theorem vget {k i : Nat} {f : Nat → Int} (h : i < k) : ((vec k f).map V.int)[i]? = some (.int (f i)) := by
  rw [List.getElem?_map, vec_get h]
  rfl
theorem vlen (k : Nat) (f : Nat → Int) : ((vec k f).map V.int).length = k := by rw [List.length_map, vec_len]
theorem rng_vec (k : Nat) (f : Nat → Int) : (List.range k).map (fun i => V.int (f i)) = (vec k f).map V.int := by
  unfold vec
  rw [List.map_map]
  rfl
theorem mem_vec {k : Nat} {f : Nat → Int} {n : Int} (h : n ∈ vec k f) : ∃ i, i < k ∧ f i = n := by
  obtain ⟨i, hi, e⟩ := List.mem_map.mp h
  exact ⟨i, List.mem_range.mp hi, e⟩
theorem vec_nn {k : Nat} {f : Nat → Int} (h : ∀ i, i < k → 0 ≤ f i) : ∀ n ∈ vec k f, 0 ≤ n := fun n hn => by
  obtain ⟨i, hi, e⟩ := mem_vec hn
  rw [← e]
  exact h _ hi
theorem dq_ints {K : PySem.W.Frag} {H : Hp} {a : Addr} {ns : List Int} (h : H a = some (.tup (ns.map V.int))) : Dq K H (.ref a) (.tuple (ns.map PyData.int)) := by
  refine .tup h ?_
  clear h
  induction ns with
  | nil => exact .nil
  | cons n ns ih => exact .cons (.int n) ih
section
variable {P : Program} {w : World} {K : PySem.W.Frag} {mg : Str → Option Value} {base : Heap} {cPurse fPi fAdd fSub fMul fIn fCov cO cN cM fN fM : Addr}
abbrev s_NotEnough_init : Stmt := inClass (topS 11) 0
abbrev N_NotEnough_init : List Str := ["self", "kind"]
theorem sc_NotEnough_init : FnScope N_NotEnough_init ["self", "kind"] (defScope s_NotEnough_init) := ⟨rfl, rfl, rfl, by decide +kernel, rfl, by decide +kernel, by decide +kernel⟩
abbrev s_NoNumber_init : Stmt := inClass (topS 13) 0
abbrev N_NoNumber_init : List Str := ["self", "value"]
theorem sc_NoNumber_init : FnScope N_NoNumber_init ["self", "value"] (defScope s_NoNumber_init) := ⟨rfl, rfl, rfl, by decide +kernel, rfl, by decide +kernel, by decide +kernel⟩
theorem ok_NotEnough_init {fd : FuncData} (F : Fun K "__init__" "NotEnough.__init__" s_NotEnough_init fN fd) : FnOk P w K mg base CX0 1 fN fd ["self", "kind"] (sp_init K "kind") := by
  refine F.ok sc_NotEnough_init (fun vs H Q E h => ?_) (fun cdv A outer s H vs Q E hr h => ?_)
  · obtain ⟨a, C, v, rfl, _⟩ := h
    rfl
  obtain ⟨a, C, v, rfl, T, no, ha, k⟩ := h
  exact ⟨_, pss_one (ps_ost (pv 0) (pv 1)), _, rfl, _, rfl, a, C, rfl, T, no, .inl ⟨ha, k⟩⟩
theorem ok_NoNumber_init {fd : FuncData} (F : Fun K "__init__" "NoNumber.__init__" s_NoNumber_init fM fd) : FnOk P w K mg base CX0 1 fM fd ["self", "value"] (sp_init K "value") := by
  refine F.ok sc_NoNumber_init (fun vs H Q E h => ?_) (fun cdv A outer s H vs Q E hr h => ?_)
  · obtain ⟨a, C, v, rfl, _⟩ := h
    rfl
  obtain ⟨a, C, v, rfl, T, no, ha, k⟩ := h
  exact ⟨_, pss_one (ps_ost (pv 0) (pv 1)), _, rfl, _, rfl, a, C, rfl, T, no, .inl ⟨ha, k⟩⟩
abbrev s_Purse_init : Stmt := inClass (topS 16) 0
abbrev N_Purse_init : List Str := ["self", "amounts", "amount"]
theorem sc_Purse_init : FnScope N_Purse_init ["self", "amounts"] (defScope s_Purse_init) := ⟨rfl, rfl, rfl, by decide +kernel, rfl, by decide +kernel, by decide +kernel⟩
theorem ok_Pinit {fd : FuncData} (T : Txt mg) (R : TxP K mg cPurse fPi fAdd fSub fMul fIn fCov) (C_is_amount : Cal P w K mg base "is_amount" ["value"] 2 (sp_is_amount K)) (F : Fun K "__init__" "Purse.__init__" s_Purse_init fPi fd) : FnOk P w K mg base CX0 3 fPi fd ["self", "amounts"] (sp_Pinit K cPurse) := by
  obtain ⟨f_is_amount, fd_is_amount, G_is_amount, m_is_amount, k_is_amount, b_is_amount⟩ := C_is_amount
  obtain ⟨_, hMAX_KINDS⟩ := T.c_MAX_KINDS
  refine F.ok sc_Purse_init (fun vs H Q E h => ?_) (fun cdv A outer s H vs Q E hr h => ?_)
  · obtain ⟨a, dx, t, ns, rfl, _⟩ := h
    rfl
  obtain ⟨a, dx, t, ns, rfl, ha, ht, n1, n4, nn, kk⟩ := h
  have ln : (ns.map V.int).length = ns.length := List.length_map ..
  refine ⟨_, (pss_cons (ps_if (PW.pt (pw_or (pt_not (pt_val (pe_callB call_isQ (by rfl) T.n_isinstance (by decide +kernel) (pa_cons (pv 1) (pa_cons (pe_bltn (v := .ty "tuple") (by rfl) T.n_tuple (by decide +kernel) rfl) pa_nil))))) (pw_or1 (pt_not (pt_chain op_le op_le pe_int (pe_callB call_len_seq (by rfl) T.n_len (by decide +kernel) (pa_cons (pv 1) pa_nil)) (pe_glob (v := .int 4) rfl hMAX_KINDS ⟨_, rfl⟩)))))) (pss_one ps_no) pss_nil)
    (pss_cons (ps_if (pt_not (pt_val (pe_callB (cr_all rfl) (by rfl) T.n_all (by decide +kernel) (pa_cons (pe_lc (own := [("amount", 2)]) (g := gName 2) (tt := tYes) rfl sc_Purse_init.nd (pi_tup (pv 1)) (blkOk_by (own := [("amount", 2)]) (N := N_Purse_init) (sc := defScope s_Purse_init) (by decide +kernel)) (fun _ _ _ _ _ => pg_name (i := 2) sc_Purse_init.nd rfl (Or.inl rfl)) (fun _ _ _ _ _ => pts_nil) (fun _ _ _ _ _ => (pe_call G_is_amount (hr.mono (by decide)) (by rfl) m_is_amount k_is_amount b_is_amount .nil pass0 (pa_cons (pv 2) pa_nil)))) pa_nil)))) (pss_one ps_no) pss_nil)
    (pss_one (ps_fld (pv 0) (pv 1) rfl)))), ?_⟩
  refine ⟨_, rfl, _, _, "tuple", rfl, dq_ints ht, .inr (.inr (.inr (.inl rfl))), ?_⟩
  rw [of_tup]
  refine ⟨_, rfl, iteF ?_⟩
  refine ⟨_, rfl, t, _, rfl, .inr (SqT.of ht), _, _, rfl, rfl, _, rfl, ?_⟩
  rw [ln]
  refine iteP (by omega) ⟨_, _, rfl, rfl, _, rfl, ?_⟩
  refine iteNP (by omega) ?_
  refine ⟨_, rfl, t, rfl, ⟨_, SqT.of ht⟩, fun U nU => ?_⟩
  refine lc_mT (fun _ => .bl true) ht nU (by omega) ?_ gName_mono ?_
  · intro i x H' hx s' R' hR
    rw [List.getElem?_map] at hx
    cases e : ns[i]? with
    | none => rw [e] at hx; cases hx
    | some n =>
      rw [e] at hx
      have ex : x = .int n := (Option.some.inj hx).symm
      subst ex
      have z : amB (.int n) = true := decide_eq_true (nn _ (List.mem_of_getElem? e))
      refine ⟨rfl, _, rfl, _, _, rfl, .int n, ?_⟩
      rw [z]
      exact hR H' (Same.refl _)
  intro H1 s1 hU
  have hU : H1 U = some (.lst (((List.range ns.length).map fun _ => true).map V.bl)) := by rw [hU, ln, List.map_map]; rfl
  refine ⟨U, _, rfl, SqL.of hU, ?_⟩
  have z : ((List.range ns.length).map fun _ => true).all id = true := by rw [List.all_map, List.all_eq_true]; intro _ _; rfl
  rw [z]
  refine ⟨_, rfl, iteF ⟨_, rfl, _, rfl, a, cPurse, dx, _, rfl, s1 _ _ ha, R.ins.cl, R.na, by decide, ?_⟩⟩
  exact kk _ (fun b o nb hb => by rw [upd_ne nb]; exact s1 _ _ hb) upd_same
abbrev s_check_kinds : Stmt := topS 17
abbrev N_check_kinds : List Str := ["one", "other"]
theorem sc_check_kinds : FnScope N_check_kinds ["one", "other"] (defScope s_check_kinds) := ⟨rfl, rfl, rfl, by decide +kernel, rfl, by decide +kernel, by decide +kernel⟩
theorem ok_check_kinds (T : Txt mg) (R : TxP K mg cPurse fPi fAdd fSub fMul fIn fCov) (XOtherKinds : XPl K mg "OtherKinds" cO) (D : Df K mg "check_kinds" s_check_kinds ["one", "other"]) : CalX P w K mg base "check_kinds" ["one", "other"] 1 (sp_check cPurse cO) := by
  obtain ⟨f, fd, F, mgf, bd⟩ := D
  refine ⟨f, fd, F.okX sc_check_kinds (fun vs H Q E h => ?_) (fun cdv A outer s H vs Q E hr h => ?_), mgf, F.kp, bd⟩
  · obtain ⟨a, b, k, k', f, g, rfl, _⟩ := h
    rfl
  obtain ⟨a, b, k, k', f, g, rfl, ⟨dx, t, ha, ht⟩, ⟨dy, u, hb, hu⟩, ke, kk⟩ := h
  refine ⟨_, (pss_one (ps_if (pt_cmpR op_ne (pe_callB call_len_seq (by rfl) T.n_len (by decide +kernel) (pa_cons (pe_fld (pv 0) rfl) pa_nil)) (pe_callB call_len_seq (by rfl) T.n_len (by decide +kernel) (pa_cons (pe_fld (pv 1) rfl) pa_nil)) (nomark _)) (pss_one (ps_raise rfl (takes_of rfl rfl rfl rfl) (pmk_own0 PySem.F.excBase_ValueError XOtherKinds.q XOtherKinds.g XOtherKinds.k (raises_own XOtherKinds.s XOtherKinds.t) (by rfl)))) pss_nil)), ?_⟩
  refine ⟨_, rfl, a, cPurse, dx, _, _, rfl, ha, R.ins.cl, R.na, rfl, t, _, rfl, .inr (SqT.of ht), _, rfl, b, cPurse, dy, _, _, rfl, hb, R.ins.cl, R.na, rfl, u, _, rfl, .inr (SqT.of hu), ?_⟩
  rw [vlen, vlen]
  refine ⟨rfl, _, rfl, ?_⟩
  by_cases e : k = k'
  · subst e
    exact iteNP rfl (kk rfl)
  · exact iteNN (fun q => e (by injection q with q; omega)) (ke e)
abbrev s_Purse_covers : Stmt := inClass (topS 16) 10
abbrev N_Purse_covers : List Str := ["self", "other", "one", "less"]
theorem sc_Purse_covers : FnScope N_Purse_covers ["self", "other"] (defScope s_Purse_covers) := ⟨rfl, rfl, rfl, by decide +kernel, rfl, by decide +kernel, by decide +kernel⟩
theorem ok_Pcov {fd : FuncData} (T : Txt mg) (R : TxP K mg cPurse fPi fAdd fSub fMul fIn fCov) (C_check_kinds : CalX P w K mg base "check_kinds" ["one", "other"] 1 (sp_check cPurse cO)) (F : Fun K "covers" "Purse.covers" s_Purse_covers fCov fd) : FnOk P w K mg base (L2.CX P w) 2 fCov fd ["self", "other"] (sp_Pcov cPurse cO) := by
  obtain ⟨f_check_kinds, fd_check_kinds, G_check_kinds, m_check_kinds, k_check_kinds, b_check_kinds⟩ := C_check_kinds
  refine F.okX sc_Purse_covers (fun vs H Q E h => ?_) (fun cdv A outer s H vs Q E hr h => ?_)
  · obtain ⟨a, b, k, k', f, g, rfl, _⟩ := h
    rfl
  obtain ⟨a, b, k, k', f, g, rfl, hA, hB, k4, ke, kk⟩ := h
  obtain ⟨dx, t, ha, ht⟩ := id hA
  obtain ⟨dy, u, hb, hu⟩ := id hB
  refine ⟨_, (pss_cons (ps_expr (pe_callS G_check_kinds (hr.mono (by decide)) rfl m_check_kinds k_check_kinds b_check_kinds (fun σ => passAt (takes_of rfl rfl rfl rfl) σ) (pa_cons (pv 0) (pa_cons (pv 1) pa_nil))))
    (pss_one (ps_ret (pe_callB (cr_all rfl) (by rfl) T.n_all (by decide +kernel) (pa_cons (pe_lc (own := [("one", 2), ("less", 3)]) (g := gTup K 2 (gCons (gName 2) (gCons (gName 3) gNil))) (tt := tYes) rfl sc_Purse_covers.nd (RZ.pi_zipA (by rfl) T.n_zip (pa_cons (pe_fld (pv 0) rfl) (pa_cons (pe_fld (pv 1) rfl) pa_nil))) (blkOk_by (own := [("one", 2), ("less", 3)]) (N := N_Purse_covers) (sc := defScope s_Purse_covers) (by decide +kernel)) (fun _ _ _ _ _ => pg_tup (by rfl) (pgs_cons (pg_name (i := 2) sc_Purse_covers.nd rfl (Or.inl rfl)) (pgs_cons (pg_name (i := 3) sc_Purse_covers.nd rfl (Or.inl rfl)) pgs_nil))) (fun _ _ _ _ _ => pts_nil) (fun _ _ _ _ _ => (pe_cmpR op_ge (pv 2) (pv 3) (nomark _)))) pa_nil))))), ?_⟩
  refine ⟨_, rfl, _, rfl, a, b, k, k', f, g, rfl, hA, hB, ke, fun ek => ?_⟩
  subst ek
  have kk := kk rfl
  refine ⟨_, rfl, a, cPurse, dx, _, _, rfl, ha, R.ins.cl, R.na, rfl, _, rfl, b, cPurse, dy, _, _, rfl, hb, R.ins.cl, R.na, rfl, t, u, _, _, rfl, .inr ⟨SqT.of ht, SqT.of hu, fun U nU => ?_⟩⟩
  refine lc_mZ (fun i => .bl (decide (g i ≤ f i))) ht hu (vlen k f) (vlen k g) nU (by omega) ?_ gTup2_mono ?_
  · intro i x y T' H' hx hy s' hT R' hR
    have hi : i < k := by
      have := (List.getElem?_eq_some_iff.mp hx).1
      rwa [vlen] at this
    rw [vget hi] at hx hy
    have hx := (Option.some.inj hx).symm
    have hy := (Option.some.inj hy).symm
    subst hx hy
    exact ⟨T', _, rfl, SqT.of hT, rfl, _, _, rfl, _, _, rfl, rfl, rfl, _, rfl, _, rfl, _, _, rfl, rfl, hR H' (Same.refl _)⟩
  intro H1 s1 hU
  have hU : H1 U = some (.lst (((List.range k).map fun i => decide (g i ≤ f i)).map V.bl)) := by rw [hU, List.map_map]; rfl
  refine ⟨U, _, rfl, SqL.of hU, ?_⟩
  rw [List.all_map]
  exact kk H1 s1
end
end Sm

set_option Elab.async false
set_option linter.all false
set_option maxRecDepth 100000
set_option maxHeartbeats 4000000
namespace Sm
open PySem PySem.Spec PyProof.Rows L2
/-! ### enumerate of a tuple -/
def tIt (l : Addr) : Obj := { cls := Value.type "tuple_iterator", data := Data.fields #[Value.ref l, Value.int 0 0] }
def eIt (i : Addr) : Obj := { cls := Value.type "enumerate", data := Data.fields #[Value.none, Value.bool false, Value.ref i, rawInt 0, Value.none, Value.none] }
theorem meets_enumerate_newT (l : Addr) (items : Array Value) : Meets (Builtin.«enumerate.__new__» { pos := [Value.type "enumerate", Value.ref l] }) fun _ R s =>
    s.heap.IsTuple l items ∧ R (Except.ok (Flow.ret (Value.ref (s.heap.push (tIt l)).objs.size))) { heap := (s.heap.push (tIt l)).push (eIt s.heap.objs.size), gens := s.gens, drawn := s.drawn, toks := s.toks, os := s.os } := by
  refine Meets.of_wp fun prog w A R s h => ?_
  obtain ⟨hT, h⟩ := h
  have hsub := sub_enumerate
  unfold Builtin.«enumerate.__new__»
  refine wpAny_bind (wpAny_bind (wpAny_pure (wpAny_ite_false rfl (wpAny_bind (wpAny_of_eq hsub (wpAny_ite_false rfl (wpAny_pure (wpAny_ite_true rfl (wpAny_bind (wpAny_bind (wpAny_stack_any fun st => wpAny_pure ?_)))))))))))
  have tail : wpAny (model prog w) A.in1 (Builtin.SmallTypes.newRecord (Value.type "enumerate") (Builtin.SmallTypes.ownedTupleFields ++ [Value.ref s.heap.objs.size, rawInt 0, Value.none, Value.none]))
      (fun a s' => wpAny (model prog w) A.in1 (ret a) (fun fin s' => ∃ v, fin = Fin.done (Flow.ret v) ∧ R (Except.ok (Flow.ret v)) s') (fun e s' => R (Except.error e) s') s') (fun e s' => R (Except.error e) s')
      { heap := s.heap.push (tIt l), gens := s.gens, drawn := s.drawn, toks := s.toks, os := s.os } := by
    unfold Builtin.SmallTypes.newRecord
    show wpAny (model prog w) A.in1 (newObj (Value.type "enumerate") (Data.fields (Builtin.SmallTypes.ownedTupleFields ++ [Value.ref s.heap.objs.size, rawInt 0, Value.none, Value.none]).toArray)) _ _ _
    unfold newObj
    show wpAny (model prog w) A.in1 (if (Builtin.SmallTypes.ownedTupleFields ++ [Value.ref s.heap.objs.size, rawInt 0, Value.none, Value.none]).toArray.size > sizeLine + 2 then _ else _) _ _ _
    apply wpAny_ite_false
    · exact decide_eq_false (by show ¬ (6 > sizeLine + 2); decide)
    refine wpAny_bind (wpAny_alloc' (wpAny_pure ?_))
    exact wpAny_pure ⟨_, rfl, h⟩
  split
  · rename_i c tl kw snd tl2 eq
    cases c == Value.type "enumerate"
    · exact wpAny_ite_false rfl (wpAny_bind (wpAny_of_eq (a := (Value.ref l, none)) rfl (wpAny_bind (wpAny_pyIter_tuple hT (wpAny_bind tail)))))
    · exact wpAny_ite_true rfl (wpAny_bind (wpAny_pure (wpAny_bind (wpAny_pyIter_tuple hT (wpAny_bind tail)))))
  · exact wpAny_ite_false rfl (wpAny_bind (wpAny_of_eq (a := (Value.ref l, none)) rfl (wpAny_bind (wpAny_pyIter_tuple hT (wpAny_bind tail)))))
theorem call_enumerate_tuple {prog : Program} {w : World} {A : Around} {E : Value → Shared → Prop} {s : Shared} {l : Addr} {items : Array Value} {Q : Value → Shared → Prop} (hT : s.heap.IsTuple l items)
    (h : ∀ h' : Heap, IsEnum h' (s.heap.objs.size + 1) s.heap.objs.size 0 Value.none → h'.IsTupleIter s.heap.objs.size l 0 → h'.objs.size = s.heap.objs.size + 2 → (∀ (b : Addr) (o : Obj), s.heap.get? b = some o → h'.get? b = some o) → Q (Value.ref (s.heap.objs.size + 1)) { s with heap := h' }) :
    wpAny (model prog w) A (call (Value.type "enumerate") [Value.ref l]) Q E s := by
  have hz : (s.heap.push (tIt l)).objs.size = s.heap.objs.size + 1 := Heap.size_push _ _
  refine callType_new F.called_enumerate (by decide) (F.typeCall_enumerate_1 (Value.ref l)) (F.newCall_enumerate_1 (Value.ref l)) (fun obj => F.args_object_init_2 obj (Value.ref l)) F.entry_enumerate_new (meets_enumerate_newT l items) ⟨hT, ?_⟩
  have he : ((s.heap.push (tIt l)).push (eIt s.heap.objs.size)).get? (s.heap.objs.size + 1) = some (eIt s.heap.objs.size) := by
    have := Heap.get?_push_size (s.heap.push (tIt l)) (o := eIt s.heap.objs.size) rfl
    rw [hz] at this
    exact this
  rw [hz]
  refine ⟨⟨_, he, rfl⟩, h _ he ⟨_, Heap.get?_push_of_some _ (Heap.get?_push_size s.heap rfl), rfl, rfl⟩ ?_ fun b o y => Heap.get?_push_of_some _ (Heap.get?_push_of_some _ y)⟩
  rw [Heap.size_push, hz]
def IteT (K : PySem.W.Frag) (a : Addr) : It :=
  { go := fun i H => ∃ xs x, SqT K H a xs ∧ xs[i]? = some x,
    yld := fun i H v H' => ∃ T x, v = V.ref T ∧ H T = none ∧ H' = upd H T (HO.tup [V.int ((i : Nat) : Int), x]) ∧ ∀ xs : List V, SqT K H a xs → xs[i]? = some x,
    stop := fun i H => ∃ xs, SqT K H a xs ∧ xs.length = i }
theorem turn_enumT {P : Program} {w : World} {K : PySem.W.Frag} {elts : List Expr} {kk : Nat} {tpos : Pos} (a e it : Addr) :
    Turn P w K (Expr.Tuple elts kk tpos) (IteT K a) [e, it] e (fun i h => (∃ old, IsEnum h e it ((i : Nat) : Int) old) ∧ h.IsTupleIter it a i ∧ e ≠ it) where
  mem := List.mem_cons_self ..
  obj := by
    rintro i h ⟨⟨old, he⟩, ⟨o, ho, hc, hd⟩, hne⟩ b hb
    rcases List.mem_cons.mp hb with rfl | hb
    · exact ⟨_, he, fun v q => nomatch q⟩
    · rw [List.mem_singleton.mp hb]
      exact ⟨o, ho, fun v q => by rw [hd] at q; cases q⟩
  keep := by
    rintro i h h' ⟨⟨old, he⟩, hit, hne⟩ k
    exact ⟨⟨old, k e (List.mem_cons_self ..) _ he⟩, hit.at fun o q => k it (List.mem_cons_of_mem _ (List.mem_singleton.mpr rfl)) o q, hne⟩
  item := by
    rintro X rfl rfl rfl hc i pins s σ H E I hf ⟨⟨old, he⟩, hit, hne⟩ ⟨xs, x, hq, hx⟩
    obtain ⟨its, rv, p, hz⟩ := I.tuple hq
    obtain ⟨u, hu, ru⟩ := rv.get hx
    have tup : s.heap.IsTuple a its.toArray := p
    have hel := Heap.lt_size he
    have hil : it < s.heap.objs.size := by
      obtain ⟨o, q, _⟩ := hit
      exact Heap.lt_size q
    have hal : a ≠ it := by
      rintro rfl
      obtain ⟨o, q1, q2, _⟩ := hit
      obtain ⟨o', q3, q4, _⟩ := tup
      rw [q1] at q3
      cases q3
      rw [q2] at q4
      exact absurd q4 (by decide)
    have hae : e ≠ a := by
      rintro rfl
      obtain ⟨o', q3, q4, _⟩ := tup
      rw [he] at q3
      cases q3
      exact absurd (show Value.type "enumerate" = Value.type "tuple" from q4) (by decide)
    have hn : i < its.length := (List.getElem?_eq_some_iff.mp hu).1
    refine wpAny_pyNext_enum_itemD (Draws.tuple (A := X.A.in1) (I.ok.hd hc) it a hal its.toArray) he ⟨hit, tup⟩ (by rw [List.size_toArray]; exact hn) hne (by simp [hne, hae]) (fun x' h' tk px ho st' hT hsz hk => ?_)
    have px : x' = u := by
      have px : its[i]? = some x' := by simpa using px
      rw [hu] at px
      exact (Option.some.inj px).symm
    subst px
    refine ⟨_, rfl, wpAny_letOwnedTupleGo_enum ho fun h'' he' sb => ?_⟩
    have hT2 := (sb.2 _ (Nat.ne_of_gt hel)).trans hT
    have new : ObjOk X.prog X.w (upd H s.heap.objs.size (.tup [.int (i : Int), x])) h'' s.heap.objs.size (.tup [.int (i : Int), x]) := ⟨(by show 2 ≤ sizeLine; decide), [Value.int (i : Int) tk, x'], .cons ⟨tk, rfl⟩ (.cons ru .nil), _, hT2, rfl, 0, rfl⟩
    have I1 := Inv.turnedNew (t' := tk + 1) (ch := [e, it]) I (fun b o hb q => (sb.2 b (fun z => hb (by rw [z]; exact List.mem_cons_self ..))).trans (hk b o (fun z => hb (by rw [z]; exact List.mem_cons_self ..)) (fun z => hb (by rw [z]; exact List.mem_cons_of_mem _ (List.mem_singleton.mpr rfl))) q)) hf (Nat.le_refl _) new
    refine ⟨V.ref s.heap.objs.size, _, I1, rfl, ⟨_, x, rfl, I.hok.fresh (Nat.le_refl _), rfl, fun ys hy => by rw [I.tuple_inj hy hq]; exact hx⟩, ⟨⟨x', ?_⟩, st'.1.at fun o q => (sb.2 _ hne.symm).trans q, hne⟩, fun b hb => ?_⟩
    · have e1 : ((i + 1 : Nat) : Int) = (i : Int) + 1 := by omega
      rw [e1]
      exact he'
    · have lt : b < s.heap.objs.size := by
        rcases List.mem_cons.mp hb with rfl | hb
        · exact hel
        · rw [List.mem_singleton.mp hb]
          exact hil
      rw [upd_ne (Nat.ne_of_lt lt)]
      exact (hf b hb).1
  done := by
    rintro X rfl rfl rfl hc i pins s σ H E I hf ⟨⟨old, he⟩, hit, hne⟩ ⟨xs, hq, hx⟩
    obtain ⟨its, rv, p, hz⟩ := I.tuple hq
    have tup : s.heap.IsTuple a its.toArray := p
    have hal : a ≠ it := by
      rintro rfl
      obtain ⟨o, q1, q2, _⟩ := hit
      obtain ⟨o', q3, q4, _⟩ := tup
      rw [q1] at q3
      cases q3
      rw [q2] at q4
      exact absurd q4 (by decide)
    obtain ⟨f0, f1, f2, f3, f4, f5⟩ := hf it (List.mem_cons_of_mem _ (List.mem_singleton.mpr rfl))
    have en : its.toArray.size = i := by rw [List.size_toArray, ← rv.length]; exact hx
    refine wpAny_pyNext_enum_endD (Draws.tuple (A := X.A.in1) (I.ok.hd hc) it a hal its.toArray) he ⟨by rw [en]; exact hit, tup⟩ fun h' eb => ⟨rfl, Inv.turned I (fun b o hb q => eb b o hb q) f0 f1 f3 f4 f5⟩
  self := by
    rintro A i s Q E ⟨⟨old, he⟩, _⟩ h
    exact wpAny_pyIter_enum he h
theorem walk_enumT {K : PySem.W.Frag} {a : Addr} {xs : List V} : Walk (IteT K a) xs.length (fun H => SqT K H a xs) (YPair (fun i => some (V.int ((i : Nat) : Int))) fun i => xs[i]?) where
  goes := fun i H hi q => ⟨xs, xs[i], q, by simp [hi]⟩
  stops := fun H q => ⟨xs, q, rfl⟩
  yields := by
    rintro i H v H' hi q ⟨T, x, h1, h2, h3, h4⟩
    exact ⟨T, _, x, h1, h2, h3, rfl, h4 xs q⟩
section
variable {X : Cx} {tg : Expr}
def iEnumT (K : PySem.W.Frag) (ta : TA) : TI := fun σ H R => ta σ H fun vs H1 => ∃ a xs, vs = [V.ref a] ∧ SqT K H1 a xs ∧ R (IteT K a) H1
theorem pi_enumT {e : Expr} {ta : TA} {p pos tpos : Pos} {elts : List Expr} {kk : Nat} (hg : Gl X "enumerate") (hm : X.mg "enumerate" = none) (ha : PA X [e] ta) (hs : starEach [e] X.env = [(false, eval e X.env)] := by rfl) :
    PI X (Expr.Tuple elts kk tpos) (.Call (.Name "enumerate" p) [e] [] pos) (iEnumT X.K ta) := by
  constructor
  intro pins s σ H R I want
  refine Call_ (ld_blt I hg hm boot_enumerate (PyProof.Rows.callWith_type1 (thn (ha.run pos pins s σ H _ I want) ?_) hs rfl))
  rintro us s1 ⟨vs, H1, I1, rel, a, xs, rfl, hq, q⟩
  obtain ⟨its, rv, p', hz⟩ := I1.tuple hq
  rw [Vals.ref1 rel]
  have tup : s1.heap.IsTuple a its.toArray := p'
  refine call_enumerate_tuple tup fun h' he hit hsz hk => wpAny_pyIter_enum he ?_
  have I2 := I1.kept (t' := s1.toks) hk
  have hne : s1.heap.objs.size + 1 ≠ s1.heap.objs.size := by omega
  refine ⟨s1.heap.objs.size + 1, [s1.heap.objs.size + 1, s1.heap.objs.size], _, IteT X.K a, H1, rfl, I2, turn_enumT a _ _, ⟨⟨_, he⟩, hit, hne⟩, fun b hb => ?_, q⟩
  have ge : s1.heap.objs.size ≤ b := by
    rcases List.mem_cons.mp hb with rfl | hb
    · omega
    · rw [List.mem_singleton.mp hb]
      exact Nat.le_refl _
  have fr := I1.hok.fresh ge
  have f := I1.fpOk ge fr
  exact f
end
end Sm

set_option Elab.async false
set_option linter.all false
set_option maxRecDepth 100000
set_option maxHeartbeats 8000000
namespace Sm
open PySem PySem.Spec PyProof.Rows L2
open C8 (pss_cut tCut)
section
variable {P : Program} {w : World} {K : PySem.W.Frag} {mg : Str → Option Value} {base : Heap} {cPurse fPi fAdd fSub fMul fIn fCov cO cN cM fN fM : Addr}
abbrev s_Purse_add : Stmt := inClass (topS 16) 7
abbrev N_Purse_add : List Str := ["self", "other", "one", "more"]
theorem sc_Purse_add : FnScope N_Purse_add ["self", "other"] (defScope s_Purse_add) := ⟨rfl, rfl, rfl, by decide +kernel, rfl, by decide +kernel, by decide +kernel⟩
theorem ok_Padd {fd fd1 : FuncData} (T : Txt mg) (R : TxP K mg cPurse fPi fAdd fSub fMul fIn fCov) (C_check_kinds : CalX P w K mg base "check_kinds" ["one", "other"] 1 (sp_check cPurse cO)) (G_Purse_init : FnOk P w K mg base CX0 3 fPi fd1 ["self", "amounts"] (sp_Pinit K cPurse)) (b_Purse_init : Binds K fd1 ["self", "amounts"] []) (F : Fun K "__add__" "Purse.__add__" s_Purse_add fAdd fd) : FnOk P w K mg base (L2.CX P w) 5 fAdd fd ["self", "other"] (sp_Padd cPurse cO) := by
  obtain ⟨f_check_kinds, fd_check_kinds, G_check_kinds, m_check_kinds, k_check_kinds, b_check_kinds⟩ := C_check_kinds
  have g_Purse := R.g
  have Mk_Purse := R.mak
  refine F.okX sc_Purse_add (fun vs H Q E h => ?_) (fun cdv A outer s H vs Q E hr h => ?_)
  · obtain ⟨a, b, k, k', f, g, rfl, _⟩ := h
    rfl
  obtain ⟨a, b, k, k', f, g, rfl, hA, hB, k1, k4, nf, ng, ke, kk⟩ := h
  obtain ⟨dx, t, ha, ht⟩ := id hA
  obtain ⟨dy, u, hb, hu⟩ := id hB
  refine ⟨_, (pss_cons (ps_expr (pe_callS G_check_kinds (hr.mono (by decide)) rfl m_check_kinds k_check_kinds b_check_kinds (fun σ => passAt (takes_of rfl rfl rfl rfl) σ) (pa_cons (pv 0) (pa_cons (pv 1) pa_nil))))
    (pss_one (ps_ret (pe_make Mk_Purse G_Purse_init (hr.mono (by decide)) (by rfl) g_Purse b_Purse_init .nil pass0 (pa_cons (pe_callTy call_tuple_of (by rfl) T.n_tuple (by decide +kernel) (pa_cons (pe_lc (own := [("one", 2), ("more", 3)]) (g := gTup K 2 (gCons (gName 2) (gCons (gName 3) gNil))) (tt := tYes) rfl sc_Purse_add.nd (RZ.pi_zipA (by rfl) T.n_zip (pa_cons (pe_fld (pv 0) rfl) (pa_cons (pe_fld (pv 1) rfl) pa_nil))) (blkOk_by (own := [("one", 2), ("more", 3)]) (N := N_Purse_add) (sc := defScope s_Purse_add) (by decide +kernel)) (fun _ _ _ _ _ => pg_tup (by rfl) (pgs_cons (pg_name (i := 2) sc_Purse_add.nd rfl (Or.inl rfl)) (pgs_cons (pg_name (i := 3) sc_Purse_add.nd rfl (Or.inl rfl)) pgs_nil))) (fun _ _ _ _ _ => pts_nil) (fun _ _ _ _ _ => (pe_op op_add (pv 2) (pv 3)))) pa_nil)) pa_nil))))), ?_⟩
  refine ⟨_, rfl, _, rfl, a, b, k, k', f, g, rfl, hA, hB, ke, fun ek => ?_⟩
  subst ek
  have kk := kk rfl
  have nn : ∀ i, i < k → 0 ≤ f i + g i := fun i hi => by have := nf i hi; have := ng i hi; omega
  refine ⟨_, rfl, a, cPurse, dx, _, _, rfl, ha, R.ins.cl, R.na, rfl, _, rfl, b, cPurse, dy, _, _, rfl, hb, R.ins.cl, R.na, rfl, t, u, _, _, rfl, .inr ⟨SqT.of ht, SqT.of hu, fun U nU => ?_⟩⟩
  refine lc_mZ (fun i => .int (f i + g i)) ht hu (vlen k f) (vlen k g) nU (by omega) ?_ gTup2_mono ?_
  · intro i x y T' H' hx hy s' hT R' hR
    have hi : i < k := by
      have := (List.getElem?_eq_some_iff.mp hx).1
      rwa [vlen] at this
    rw [vget hi] at hx hy
    have hx := (Option.some.inj hx).symm
    have hy := (Option.some.inj hy).symm
    subst hx hy
    exact ⟨T', _, rfl, SqT.of hT, rfl, _, _, rfl, _, _, rfl, rfl, rfl, _, rfl, _, rfl, _, _, rfl, rfl, hR H' (Same.refl _)⟩
  intro H1 s1 hU
  rw [rng_vec] at hU
  refine ⟨U, _, rfl, .inl ⟨SqL.of hU, fun q nq => ?_⟩⟩
  have sq := same_upd (o := .tup ((vec k fun i => f i + g i).map V.int)) nq
  refine fun x dx nx ndx ne => ?_
  have hq : upd H1 q (.tup ((vec k fun i => f i + g i).map V.int)) q = some (.tup ((vec k fun i => f i + g i).map V.int)) := upd_same
  generalize upd H1 q (.tup ((vec k fun i => f i + g i).map V.int)) = H2 at hq nx ndx sq ⊢
  have sx : Same H2 (upd (upd H2 dx (.own x)) x (.ins cPurse dx [])) := fun b o hb => by
    rw [upd_ne (ne_of_none hb nx), upd_ne (ne_of_none hb ndx)]
    exact hb
  refine ⟨x, dx, q, _, rfl, upd_same, sx _ _ hq, by rw [vec_len]; exact k1, by rw [vec_len]; exact k4, vec_nn nn, fun H' keep hx => ?_⟩
  have s3 : Same H2 H' := fun b o hb => keep b o (ne_of_none hb nx) (sx b o hb)
  exact ⟨rfl, kk H' x (s1.trans (sq.trans s3)) ⟨dx, q, hx, s3 _ _ hq⟩⟩
abbrev s_Purse_sub : Stmt := inClass (topS 16) 8
abbrev N_Purse_sub : List Str := ["self", "other", "kind", "amount", "one", "less"]
theorem sc_Purse_sub : FnScope N_Purse_sub ["self", "other"] (defScope s_Purse_sub) := ⟨rfl, rfl, rfl, by decide +kernel, rfl, by decide +kernel, by decide +kernel⟩
theorem ok_Psub {fd fd1 : FuncData} (T : Txt mg) (R : TxP K mg cPurse fPi fAdd fSub fMul fIn fCov) (C_check_kinds : CalX P w K mg base "check_kinds" ["one", "other"] 1 (sp_check cPurse cO)) (G_Purse_init : FnOk P w K mg base CX0 3 fPi fd1 ["self", "amounts"] (sp_Pinit K cPurse)) (b_Purse_init : Binds K fd1 ["self", "amounts"] []) (XNotEnough : XVal K mg "NotEnough" "kind" cN fN) (iNotEnough : IniF K "NotEnough.__init__" "kind" s_NotEnough_init fN) (F : Fun K "__sub__" "Purse.__sub__" s_Purse_sub fSub fd) : FnOk P w K mg base (L2.CX P w) 5 fSub fd ["self", "other"] (sp_Psub cPurse cO cN) := by
  obtain ⟨f_check_kinds, fd_check_kinds, G_check_kinds, m_check_kinds, k_check_kinds, b_check_kinds⟩ := C_check_kinds
  obtain ⟨fd9, F9, b_NotEnough_init⟩ := iNotEnough
  have G_NotEnough_init : FnOk P w K mg base CX0 1 fN fd9 ["self", "kind"] (sp_init K "kind") := ok_NotEnough_init F9
  have g_Purse := R.g
  have Mk_Purse := R.mak
  refine F.okX sc_Purse_sub (fun vs H Q E h => ?_) (fun cdv A outer s H vs Q E hr h => ?_)
  · obtain ⟨a, b, k, k', f, g, rfl, _⟩ := h
    rfl
  obtain ⟨a, b, k, k', f, g, rfl, hA, hB, k1, k4, ke, kN, kk⟩ := h
  obtain ⟨dx, t, ha, ht⟩ := id hA
  obtain ⟨dy, u, hb, hu⟩ := id hB
  refine ⟨_, (pss_cons (ps_expr (pe_callS G_check_kinds (hr.mono (by decide)) rfl m_check_kinds k_check_kinds b_check_kinds (fun σ => passAt (takes_of rfl rfl rfl rfl) σ) (pa_cons (pv 0) (pa_cons (pv 1) pa_nil))))
    (pss_cons (ps_for (passes_of rfl) rfl (pi_enumT (by rfl) T.n_enumerate (pa_cons (pe_fld (pv 0) rfl) pa_nil)) (pg_tup (by rfl) (pgs_cons (pg_name (i := 2) sc_Purse_sub.nd rfl (Or.inl rfl)) (pgs_cons (pg_name (i := 3) sc_Purse_sub.nd rfl (Or.inl rfl)) pgs_nil)))
      (pss_one (ps_if (pt_cmpR op_lt (pv 3) (pe_ix ix_tup (pe_fld (pv 1) rfl) (pv 2) (fun _ _ => rfl)) (nomark _)) (pss_one (ps_raise rfl (takes_of rfl rfl rfl rfl) (pmk_oex XNotEnough.oex XNotEnough.iC XNotEnough.tI G_NotEnough_init (hr.mono (by decide)) b_NotEnough_init .nil pass0 (by rfl) XNotEnough.g (pa_cons (pv 2) pa_nil)))) pss_nil)))
    (pss_one (ps_ret (pe_make Mk_Purse G_Purse_init (hr.mono (by decide)) (by rfl) g_Purse b_Purse_init .nil pass0 (pa_cons (pe_callTy call_tuple_of (by rfl) T.n_tuple (by decide +kernel) (pa_cons (pe_lc (own := [("one", 4), ("less", 5)]) (g := gTup K 2 (gCons (gName 4) (gCons (gName 5) gNil))) (tt := tYes) rfl sc_Purse_sub.nd (RZ.pi_zipA (by rfl) T.n_zip (pa_cons (pe_fld (pv 0) rfl) (pa_cons (pe_fld (pv 1) rfl) pa_nil))) (blkOk_by (own := [("one", 4), ("less", 5)]) (N := N_Purse_sub) (sc := defScope s_Purse_sub) (by decide +kernel)) (fun _ _ _ _ _ => pg_tup (by rfl) (pgs_cons (pg_name (i := 4) sc_Purse_sub.nd rfl (Or.inl rfl)) (pgs_cons (pg_name (i := 5) sc_Purse_sub.nd rfl (Or.inl rfl)) pgs_nil))) (fun _ _ _ _ _ => pts_nil) (fun _ _ _ _ _ => (pe_op op_sub (pv 4) (pv 5)))) pa_nil)) pa_nil)))))), ?_⟩
  refine ⟨_, rfl, _, rfl, a, b, k, k', f, g, rfl, hA, hB, ke, fun ek => ?_⟩
  subst ek
  have kN := kN rfl
  have kk := kk rfl
  refine ⟨_, rfl, a, cPurse, dx, _, _, rfl, ha, R.ins.cl, R.na, rfl, t, _, rfl, SqT.of ht, ?_⟩
  refine for_it (walk_enumT (K := K) (a := t) (xs := (vec k f).map V.int)) (fun j σ H' => ∃ v2 v3 : Option V, σ = [some (.ref a), some (.ref b), v2, v3, none, none] ∧ Same H H' ∧ ∀ i, i < j → g i ≤ f i)
    ⟨none, none, rfl, Same.refl _, fun i hi => by omega⟩ (fun j σ H' _ h => by obtain ⟨_, _, _, s', _⟩ := h; exact SqT.of (s' _ _ ht)) ?_ ?_
  · rintro j x σ H2 H2' hj ⟨v2, v3, rfl, s2, lo⟩ ⟨T', x1, y, rfl, hT, rfl, hx1, hy⟩
    rw [vlen] at hj
    have hx1 := (Option.some.inj hx1).symm
    have hy : ((vec k f).map V.int)[j]? = some y := hy
    rw [vget hj] at hy
    have hy := (Option.some.inj hy).symm
    subst hx1 hy
    have sT := same_upd (o := .tup [.int (j : Int), .int (f j)]) hT
    have sB := s2.trans sT
    refine ⟨T', _, rfl, SqT.of upd_same, rfl, _, _, rfl, _, _, rfl, rfl, ?_⟩
    refine ⟨_, rfl, _, rfl, b, cPurse, dy, _, _, rfl, sB _ _ hb, R.ins.cl, R.na, rfl, _, rfl, _, _, _, _, rfl, rfl, SqT.of (sB _ _ hu), atI_nat (vget hj), _, _, rfl, rfl, _, rfl, ?_⟩
    by_cases c : f j < g j
    · refine iteP c ?_
      refine xc_mk XNotEnough.oex XNotEnough.no ⟨_, rfl, V.int (j : Int), rfl, fun y H7 s7 hy => kN j hj c lo H7 y (sB.trans s7) hy⟩ (fun h z => ?_)
      obtain ⟨v, e, q⟩ := z
      exact ⟨v, e, h _ _ q⟩
    · exact iteN c ⟨_, _, rfl, sB, fun i hi => by
        by_cases e : i = j
        · rw [e]; omega
        · exact lo i (by omega)⟩
  rintro σ H1 ⟨v2, v3, rfl, s1, lo⟩
  rw [vlen] at lo
  have kk := kk lo
  have nn := lo
  refine ⟨_, rfl, a, cPurse, dx, _, _, rfl, s1 _ _ ha, R.ins.cl, R.na, rfl, _, rfl, b, cPurse, dy, _, _, rfl, s1 _ _ hb, R.ins.cl, R.na, rfl, t, u, _, _, rfl, .inr ⟨SqT.of (s1 _ _ ht), SqT.of (s1 _ _ hu), fun U nU => ?_⟩⟩
  refine lc_mZ (fun i => .int (f i - g i)) (s1 _ _ ht) (s1 _ _ hu) (vlen k f) (vlen k g) nU (by omega) ?_ gTup2_mono ?_
  · intro i x y T' H' hx hy s' hT R' hR
    have hi : i < k := by
      have := (List.getElem?_eq_some_iff.mp hx).1
      rwa [vlen] at this
    rw [vget hi] at hx hy
    have hx := (Option.some.inj hx).symm
    have hy := (Option.some.inj hy).symm
    subst hx hy
    exact ⟨T', _, rfl, SqT.of hT, rfl, _, _, rfl, _, _, rfl, rfl, rfl, _, rfl, _, rfl, _, _, rfl, rfl, hR H' (Same.refl _)⟩
  intro H3 s3 hU
  rw [rng_vec] at hU
  refine ⟨U, _, rfl, .inl ⟨SqL.of hU, fun q nq => ?_⟩⟩
  have sq := same_upd (o := .tup ((vec k fun i => f i - g i).map V.int)) nq
  refine fun x dx nx ndx ne => ?_
  have hq : upd H3 q (.tup ((vec k fun i => f i - g i).map V.int)) q = some (.tup ((vec k fun i => f i - g i).map V.int)) := upd_same
  generalize upd H3 q (.tup ((vec k fun i => f i - g i).map V.int)) = H2 at hq nx ndx sq ⊢
  have sx : Same H2 (upd (upd H2 dx (.own x)) x (.ins cPurse dx [])) := fun b o hb => by
    rw [upd_ne (ne_of_none hb nx), upd_ne (ne_of_none hb ndx)]
    exact hb
  refine ⟨x, dx, q, _, rfl, upd_same, sx _ _ hq, by rw [vec_len]; exact k1, by rw [vec_len]; exact k4, vec_nn (fun i hi => by have := nn i hi; omega), fun H' keep hx => ?_⟩
  have s4 : Same H2 H' := fun b o hb => keep b o (ne_of_none hb nx) (sx b o hb)
  exact ⟨rfl, kk H' x (s1.trans (s3.trans (sq.trans s4))) ⟨dx, q, hx, s4 _ _ hq⟩⟩
end
end Sm

set_option Elab.async false
set_option linter.all false
set_option maxRecDepth 100000
set_option maxHeartbeats 8000000
namespace Sm
open PySem PySem.Spec PyProof.Rows L2
open C8 (pss_cut tCut)
theorem offAt_no {k : Nat} {f : Nat → Int} {d : PyData} (h : offB k d = false) : offAt k f d = false := by
  unfold offAt
  rw [h]
  rfl
theorem offB_yes {k : Nat} {d : PyData} (h : offB k d = true) : ∃ (a x : Int) (b y : PyData), d = .tuple [.int a, .int x, b, y] ∧ 0 ≤ a ∧ a < (k : Int) := by
  match d, h with
  | .tuple [a, x, b, y], h =>
    have h : (inI a 0 ((k : Int) - 1) && (inI b 0 ((k : Int) - 1) && (neI a b && (inI x 1 30 && inI y 0 30)))) = true := h
    simp only [Bool.and_eq_true] at h
    obtain ⟨h1, _, _, h2, _⟩ := h
    obtain ⟨ia, rfl, a0, a1⟩ := inI_int h1
    obtain ⟨ix, rfl, _⟩ := inI_int h2
    exact ⟨ia, ix, b, y, rfl, a0, by omega⟩
section
variable {P : Program} {w : World} {K : PySem.W.Frag} {mg : Str → Option Value} {base : Heap} {cPurse fPi fAdd fSub fMul fIn fCov cO cN cM fN fM : Addr}
abbrev s_Purse_mul : Stmt := inClass (topS 16) 9
abbrev N_Purse_mul : List Str := ["self", "other", "amount"]
theorem sc_Purse_mul : FnScope N_Purse_mul ["self", "other"] (defScope s_Purse_mul) := ⟨rfl, rfl, rfl, by decide +kernel, rfl, by decide +kernel, by decide +kernel⟩
theorem ok_Pmul {fd fd1 : FuncData} (T : Txt mg) (R : TxP K mg cPurse fPi fAdd fSub fMul fIn fCov) (XNoNumber : XVal K mg "NoNumber" "value" cM fM) (iNoNumber : IniF K "NoNumber.__init__" "value" s_NoNumber_init fM) (C_is_amount : Cal P w K mg base "is_amount" ["value"] 2 (sp_is_amount K)) (G_Purse_init : FnOk P w K mg base CX0 3 fPi fd1 ["self", "amounts"] (sp_Pinit K cPurse)) (b_Purse_init : Binds K fd1 ["self", "amounts"] []) (F : Fun K "__mul__" "Purse.__mul__" s_Purse_mul fMul fd) : FnOk P w K mg base (L2.CX P w) 5 fMul fd ["self", "other"] (sp_Pmul K cPurse cM) := by
  obtain ⟨f_is_amount, fd_is_amount, G_is_amount, m_is_amount, k_is_amount, b_is_amount⟩ := C_is_amount
  obtain ⟨fd9, F9, b_NoNumber_init⟩ := iNoNumber
  have G_NoNumber_init : FnOk P w K mg base CX0 1 fM fd9 ["self", "value"] (sp_init K "value") := ok_NoNumber_init F9
  have g_Purse := R.g
  have Mk_Purse := R.mak
  refine F.okX sc_Purse_mul (fun vs H Q E h => ?_) (fun cdv A outer s H vs Q E hr h => ?_)
  · obtain ⟨a, k, f, v, d, rfl, _⟩ := h
    rfl
  obtain ⟨a, k, f, v, d, rfl, hA, k1, k4, nf, hd, ke, kk, dl⟩ := h
  obtain ⟨dx, t, ha, ht⟩ := id hA
  refine ⟨_, (pss_cons (ps_if (pt_not (pt_val (pe_call G_is_amount (hr.mono (by decide)) (by rfl) m_is_amount k_is_amount b_is_amount .nil pass0 (pa_cons (pv 1) pa_nil)))) (pss_one (ps_raise rfl (takes_of rfl rfl rfl rfl) (pmk_oex XNoNumber.oex XNoNumber.iC XNoNumber.tI G_NoNumber_init (hr.mono (by decide)) b_NoNumber_init .nil pass0 (by rfl) XNoNumber.g (pa_cons (pv 1) pa_nil)))) pss_nil)
    (pss_one (ps_ret (pe_make Mk_Purse G_Purse_init (hr.mono (by decide)) (by rfl) g_Purse b_Purse_init .nil pass0 (pa_cons (pe_callTy call_tuple_of (by rfl) T.n_tuple (by decide +kernel) (pa_cons (pe_lc (own := [("amount", 2)]) (g := gName 2) (tt := tYes) rfl sc_Purse_mul.nd (pi_tup (pe_fld (pv 0) rfl)) (blkOk_by (own := [("amount", 2)]) (N := N_Purse_mul) (sc := defScope s_Purse_mul) (by decide +kernel)) (fun _ _ _ _ _ => pg_name (i := 2) sc_Purse_mul.nd rfl (Or.inl rfl)) (fun _ _ _ _ _ => pts_nil) (fun _ _ _ _ _ => (pe_op op_mulW (pv 2) (pv 1)))) pa_nil)) pa_nil))))), ?_⟩
  refine ⟨_, rfl, v, d, rfl, hd, ⟨_, rfl, ?_⟩⟩
  cases e : amB d with
  | false =>
    refine iteT ?_
    refine xc_mk XNoNumber.oex XNoNumber.no ⟨_, rfl, v, rfl, fun y H7 s7 hy => ke e H7 y s7 hy⟩ (fun h z => ?_)
    obtain ⟨v, e, q⟩ := z
    exact ⟨v, e, h _ _ q⟩
  | true =>
    refine iteF ?_
    obtain ⟨m, rfl, m0⟩ : ∃ m, d = .int m ∧ 0 ≤ m := by
      cases d with
      | int m => exact ⟨m, rfl, of_decide_eq_true e⟩
      | _ => cases e
    cases hd
    have m1 := dl m rfl
    have kk := kk m rfl m0 m1
    refine ⟨_, rfl, a, cPurse, dx, _, _, rfl, ha, R.ins.cl, R.na, rfl, t, rfl, ⟨_, SqT.of ht⟩, fun U nU => ?_⟩
    refine lc_mT (fun i => .int (f i * m)) ht nU (by rw [vlen]; omega) ?_ gName_mono ?_
    · intro i x H' hx s' R' hR
      have hi : i < k := by
        have := (List.getElem?_eq_some_iff.mp hx).1
        rwa [vlen] at this
      rw [vget hi] at hx
      have hx := (Option.some.inj hx).symm
      subst hx
      exact ⟨rfl, _, rfl, _, rfl, _, _, rfl, rfl, wide_mul (nf i hi).2 m1 (by decide) (by decide) (by decide), hR H' (Same.refl _)⟩
    intro H1 s1 hU
    rw [vlen, rng_vec] at hU
    refine ⟨U, _, rfl, .inl ⟨SqL.of hU, fun q nq => ?_⟩⟩
    have sq := same_upd (o := .tup ((vec k fun i => f i * m).map V.int)) nq
    refine fun x dx nx ndx ne => ?_
    have hq : upd H1 q (.tup ((vec k fun i => f i * m).map V.int)) q = some (.tup ((vec k fun i => f i * m).map V.int)) := upd_same
    generalize upd H1 q (.tup ((vec k fun i => f i * m).map V.int)) = H2 at hq nx ndx sq ⊢
    have sx : Same H2 (upd (upd H2 dx (.own x)) x (.ins cPurse dx [])) := fun b o hb => by
      rw [upd_ne (ne_of_none hb nx), upd_ne (ne_of_none hb ndx)]
      exact hb
    refine ⟨x, dx, q, _, rfl, upd_same, sx _ _ hq, by rw [vec_len]; exact k1, by rw [vec_len]; exact k4, vec_nn (fun i hi => Int.mul_nonneg (nf i hi).1 m0), fun H' keep hx => ?_⟩
    have s4 : Same H2 H' := fun b o hb => keep b o (ne_of_none hb nx) (sx b o hb)
    exact ⟨rfl, kk H' x (s1.trans (sq.trans s4)) ⟨dx, q, hx, s4 _ _ hq⟩⟩
theorem ok_is_offerO (T : Txt mg) (R : TxP K mg cPurse fPi fAdd fSub fMul fIn fCov) (D : Df K mg "is_offer" s_is_offer ["kinds", "value"]) (C_is_within : Cal P w K mg base "is_within" ["value", "low", "high"] 2 (sp_is_within K)) : Cal P w K mg base "is_offer" ["kinds", "value"] 3 (sp_is_offerO cPurse) := by
  obtain ⟨f_is_within, fd_is_within, G_is_within, m_is_within, k_is_within, b_is_within⟩ := C_is_within
  obtain ⟨_, hMAX_AMOUNT⟩ := T.c_MAX_AMOUNT
  refine D.cal sc_is_offer (fun vs H Q E h => ?_) (fun f cdv A outer s H vs Q E hr h => ?_)
  · obtain ⟨b, dy, k, gs, rfl, _⟩ := h
    rfl
  obtain ⟨b, dy, k, gs, rfl, hb, kk⟩ := h
  refine ⟨_, (pss_cons (ps_if (PW.pt (pw_or (pt_not (pt_val (pe_callB call_isi (by rfl) T.n_isinstance (by decide +kernel) (pa_cons (pv 1) (pa_cons (pe_bltn (v := .ty "tuple") (by rfl) T.n_tuple (by decide +kernel) rfl) pa_nil))))) (pw_or1 (pt_cmpR op_ne (pe_callB call_len_seq (by rfl) T.n_len (by decide +kernel) (pa_cons (pv 1) pa_nil)) pe_int (nomark _))))) (pss_one (ps_ret pe_bl)) pss_nil)
    (pss_cons (ps_asg (pv 1) (pg_tup (by rfl) (pgs_cons (pg_name (i := 2) sc_is_offer.nd rfl (Or.inl rfl)) (pgs_cons (pg_name (i := 3) sc_is_offer.nd rfl (Or.inl rfl)) (pgs_cons (pg_name (i := 4) sc_is_offer.nd rfl (Or.inl rfl)) (pgs_cons (pg_name (i := 5) sc_is_offer.nd rfl (Or.inl rfl)) pgs_nil))))))
    (pss_cons (ps_if (PW.pt (pw_or (pt_not (pt_val (pe_call G_is_within (hr.mono (by decide)) (by rfl) m_is_within k_is_within b_is_within .nil pass0 (pa_cons (pv 2) (pa_cons pe_int (pa_cons (pe_op op_sub (pv 0) pe_int) pa_nil)))))) (pw_or1 (pt_not (pt_val (pe_call G_is_within (hr.mono (by decide)) (by rfl) m_is_within k_is_within b_is_within .nil pass0 (pa_cons (pv 4) (pa_cons pe_int (pa_cons (pe_op op_sub (pv 0) pe_int) pa_nil))))))))) (pss_one (ps_ret pe_bl)) pss_nil)
    (pss_one (ps_ret (pe_and (pe_cmpR op_ne (pv 2) (pv 4) (nomark _)) (pe_and (pe_call G_is_within (hr.mono (by decide)) (by rfl) m_is_within k_is_within b_is_within .nil pass0 (pa_cons (pv 3) (pa_cons pe_int (pa_cons (pe_glob (v := .int 30) rfl hMAX_AMOUNT ⟨_, rfl⟩) pa_nil)))) (pe_one (pe_call G_is_within (hr.mono (by decide)) (by rfl) m_is_within k_is_within b_is_within .nil pass0 (pa_cons (pv 5) (pa_cons pe_int (pa_cons (pe_glob (v := .int 30) rfl hMAX_AMOUNT ⟨_, rfl⟩) pa_nil)))))))))))), ?_⟩
  exact ⟨_, rfl, _, _, _, _, false, rfl, .ty _, R.ins.ty hb, R.isT, _, rfl, iteT kk⟩
abbrev s_Purse_contains : Stmt := inClass (topS 16) 5
abbrev N_Purse_contains : List Str := ["self", "x"]
theorem sc_Purse_contains : FnScope N_Purse_contains ["self", "x"] (defScope s_Purse_contains) := ⟨rfl, rfl, rfl, by decide +kernel, rfl, by decide +kernel, by decide +kernel⟩
theorem ok_Pin {fd : FuncData} (T : Txt mg) (R : TxP K mg cPurse fPi fAdd fSub fMul fIn fCov) (C_is_offer : Cal P w K mg base "is_offer" ["kinds", "value"] 3 (sp_is_offer K)) (F : Fun K "__contains__" "Purse.__contains__" s_Purse_contains fIn fd) : FnOk P w K mg base CX0 4 fIn fd ["self", "x"] (sp_Pin K cPurse) := by
  obtain ⟨f_is_offer, fd_is_offer, G_is_offer, m_is_offer, k_is_offer, b_is_offer⟩ := C_is_offer
  refine F.ok sc_Purse_contains (fun vs H Q E h => ?_) (fun cdv A outer s H vs Q E hr h => ?_)
  · obtain ⟨a, k, f, v, d, rfl, _⟩ := h
    rfl
  obtain ⟨a, k, f, v, d, rfl, ⟨dx, t, ha, ht⟩, hd, kk⟩ := h
  refine ⟨_, (pss_one (ps_ret (pe_and (pe_call G_is_offer (hr.mono (by decide)) (by rfl) m_is_offer k_is_offer b_is_offer .nil pass0 (pa_cons (pe_callB call_len_seq (by rfl) T.n_len (by decide +kernel) (pa_cons (pe_fld (pv 0) rfl) pa_nil)) (pa_cons (pv 1) pa_nil))) (pe_one (pe_cmpR op_ge (pe_ix ix_tup (pe_fld (pv 0) rfl) (pe_ix ix_tup (pv 1) pe_int (fun _ _ => rfl)) (fun _ _ => rfl)) (pe_ix ix_tup (pv 1) pe_int (fun _ _ => rfl)) (nomark _)))))), ?_⟩
  refine ⟨_, rfl, a, cPurse, dx, _, _, rfl, ha, R.ins.cl, R.na, rfl, t, _, rfl, .inr (SqT.of ht), _, rfl, v, d, k, by rw [vlen]; rfl, hd, ⟨_, rfl, ?_⟩⟩
  cases e : offB k d with
  | false =>
    rw [offAt_no e] at kk
    exact iteF kk
  | true =>
    obtain ⟨ia, ix, b, y, rfl, a0, a1⟩ := offB_yes e
    have kk : Q (.bl (offB k (.tuple [.int ia, .int ix, b, y]) && decide (ix ≤ f ia.toNat))) H := kk
    rw [e, Bool.true_and] at kk
    cases hd with
    | @tup q xs ds e1 e2 =>
      cases e2 with
      | cons ha' e2 =>
        cases e2 with
        | cons hx' e2 =>
          cases ha'
          cases hx'
          refine iteT ⟨_, rfl, a, cPurse, dx, _, _, rfl, ha, R.ins.cl, R.na, rfl, _, rfl, _, _, _, _, rfl, rfl, SqT.of e1, atI_nat (j := 0) rfl, _, _, _, _, rfl, rfl, SqT.of ht, at_of (j := ia.toNat) (by omega) (vget (by omega)), _, rfl, _, _, _, _, rfl, rfl, SqT.of e1, atI_nat (j := 1) rfl, _, _, rfl, rfl, kk⟩
theorem ok_PinO {fd : FuncData} (T : Txt mg) (R : TxP K mg cPurse fPi fAdd fSub fMul fIn fCov) (C_is_offer : Cal P w K mg base "is_offer" ["kinds", "value"] 3 (sp_is_offerO cPurse)) (F : Fun K "__contains__" "Purse.__contains__" s_Purse_contains fIn fd) : FnOk P w K mg base CX0 4 fIn fd ["self", "x"] (sp_PinO cPurse) := by
  obtain ⟨f_is_offer, fd_is_offer, G_is_offer, m_is_offer, k_is_offer, b_is_offer⟩ := C_is_offer
  refine F.ok sc_Purse_contains (fun vs H Q E h => ?_) (fun cdv A outer s H vs Q E hr h => ?_)
  · obtain ⟨a, b, dy, k, f, gs, rfl, _⟩ := h
    rfl
  obtain ⟨a, b, dy, k, f, gs, rfl, ⟨dx, t, ha, ht⟩, hb, kk⟩ := h
  refine ⟨_, (pss_one (ps_ret (pe_and (pe_call G_is_offer (hr.mono (by decide)) (by rfl) m_is_offer k_is_offer b_is_offer .nil pass0 (pa_cons (pe_callB call_len_seq (by rfl) T.n_len (by decide +kernel) (pa_cons (pe_fld (pv 0) rfl) pa_nil)) (pa_cons (pv 1) pa_nil))) (pe_one (pe_cmpR op_ge (pe_ix ix_tup (pe_fld (pv 0) rfl) (pe_ix ix_tup (pv 1) pe_int (fun _ _ => rfl)) (fun _ _ => rfl)) (pe_ix ix_tup (pv 1) pe_int (fun _ _ => rfl)) (nomark _)))))), ?_⟩
  refine ⟨_, rfl, a, cPurse, dx, _, _, rfl, ha, R.ins.cl, R.na, rfl, t, _, rfl, .inr (SqT.of ht), _, rfl, b, dy, k, gs, by rw [vlen]; rfl, hb, ⟨_, rfl, ?_⟩⟩
  exact iteF kk
end
end Sm

set_option Elab.async false
set_option linter.all false
set_option maxRecDepth 100000
set_option maxHeartbeats 8000000
namespace Sm
open PySem PySem.Spec PyProof.Rows L2
open C8 (pss_cut tCut)
def AmAt (H : Hp) (q : Addr) (k : Nat) (f : Nat → Int) : Prop := H q = some (.tup ((vec k f).map V.int))
theorem vec_of (xs : List Int) : xs = vec xs.length fun i => xs.getD i 0 := by
  unfold vec
  refine (List.ext_getElem (by rw [List.length_map, List.length_range]) fun i h1 h2 => ?_).symm
  rw [List.getElem_map, List.getElem_range, List.getD_eq_getElem?_getD, List.getElem?_eq_getElem h2]
  rfl
theorem vec_put {k j : Nat} {f : Nat → Int} {z : Int} : ((vec k f).map V.int).set j (.int z) = (vec k fun i => if i = j then z else f i).map V.int := by
  unfold vec
  rw [List.map_map, List.map_map]
  refine List.ext_getElem (by simp) fun i h1 h2 => ?_
  rw [List.getElem_set, List.getElem_map, List.getElem_map, List.getElem_range]
  by_cases e : j = i
  · rw [if_pos e]
    show _ = V.int (if i = j then z else f i)
    rw [if_pos e.symm]
  · rw [if_neg e]
    show _ = V.int (if i = j then z else f i)
    rw [if_neg fun q => e q.symm]
    rfl
def sp_l_amounts (K : PySem.W.Frag) : Sp := fun vs H Q _ => ∃ (p l : Addr) (n : Int) (k : Nat), vs = [.ref p, .int (k : Int)] ∧ Deck H p l n ∧ 0 ≤ n ∧ n ≤ 900000 ∧ 1 ≤ k ∧ k ≤ 4 ∧
  ∀ H' q f n', Fr p l H H' → Deck H' p l n' → n ≤ n' → n' ≤ n + 8 → AmAt H' q k f → (∀ i, i < k → 0 ≤ f i ∧ f i ≤ 10 ^ 30) → Q (.ref q) H'
def sp_l_near (K : PySem.W.Frag) : Sp := fun vs H Q _ => ∃ (p l q : Addr) (n : Int) (k : Nat) (f : Nat → Int), vs = [.ref p, .ref q] ∧ Deck H p l n ∧ 0 ≤ n ∧ n ≤ 900000 ∧ 1 ≤ k ∧ k ≤ 4 ∧ AmAt H q k f ∧ (∀ i, i < k → 0 ≤ f i ∧ f i ≤ 10 ^ 30) ∧
  ∀ H' r g n', Fr p l H H' → Deck H' p l n' → n ≤ n' → n' ≤ n + 8 → AmAt H' r k g → (∀ i, i < k → 0 ≤ g i ∧ g i ≤ 10 ^ 30 + 10) → Q (.ref r) H'
section
variable {P : Program} {w : World} {K : PySem.W.Frag} {mg : Str → Option Value} {base : Heap}
abbrev s_l_amounts : Stmt := topS 23
abbrev N_l_amounts : List Str := ["_law_deck_here", "_law_kinds", "_law_kind"]
theorem sc_l_amounts : FnScope N_l_amounts ["_law_deck_here", "_law_kinds"] (defScope s_l_amounts) := ⟨rfl, rfl, rfl, by decide +kernel, rfl, by decide +kernel, by decide +kernel⟩
theorem ok_l_amounts (T : Txt mg) (D : Df K mg "_law_amounts" s_l_amounts ["_law_deck_here", "_law_kinds"]) (C_l_one : Cal P w K mg base "_law_one" ["_law_deck_here", "_law_items"] 2 (sp_l_one K)) (C_l_draw : Cal P w K mg base "_law_draw" ["_law_deck_here", "_law_many"] 1 (sp_l_draw K)) : Cal P w K mg base "_law_amounts" ["_law_deck_here", "_law_kinds"] 3 (sp_l_amounts K) := by
  obtain ⟨f_l_one, fd_l_one, G_l_one, m_l_one, k_l_one, b_l_one⟩ := C_l_one
  obtain ⟨f_l_draw, fd_l_draw, G_l_draw, m_l_draw, k_l_draw, b_l_draw⟩ := C_l_draw
  refine D.cal sc_l_amounts (fun vs H Q E h => ?_) (fun f cdv A outer s H vs Q E hr h => ?_)
  · obtain ⟨p, l, n, k, rfl, _⟩ := h
    rfl
  obtain ⟨p, l, n, k, rfl, D, n0, n1, k1, k4, kk⟩ := h
  refine ⟨_, (pss_one (ps_ret (pe_callTy call_tuple_of (by rfl) T.n_tuple (by decide +kernel) (pa_cons (pe_lc (own := [("_law_kind", 2)]) (g := gName 2) (tt := tYes) rfl sc_l_amounts.nd (pi_range1 (by rfl) T.n_range (pa_cons (pv 1) pa_nil)) (blkOk_by (own := [("_law_kind", 2)]) (N := N_l_amounts) (sc := defScope s_l_amounts) (by decide +kernel)) (fun _ _ _ _ _ => pg_name (i := 2) sc_l_amounts.nd rfl (Or.inl rfl)) (fun _ _ _ _ _ => pts_nil) (fun _ _ _ _ _ => (pe_call G_l_one (hr.mono (by decide)) (by rfl) m_l_one k_l_one b_l_one .nil pass0 (pa_cons (pv 0) (pa_cons (pe_lst (pa_cons pe_int (pa_cons pe_int (pa_cons pe_int (pa_cons pe_int (pa_cons (pe_call G_l_draw (hr.mono (by decide)) (by rfl) m_l_draw k_l_draw b_l_draw .nil pass0 (pa_cons (pv 0) (pa_cons pe_int pa_nil))) (pa_cons (pe_op op_pow pe_int pe_int) pa_nil))))))) pa_nil))))) pa_nil)))), ?_⟩
  refine ⟨_, rfl, (k : Int), rfl, by omega, by omega, fun U nU => ?_⟩
  rw [show ((k : Int)).toNat = k by omega]
  refine lc_rdA relI relI_keep (c := 2) (fun x => 0 ≤ x ∧ x ≤ 10 ^ 30) D nU (by omega) (by omega) ?_ gName_mono ?_
  · intro e H6 n6 he f6 D6 b0 b1 R' hR
    refine ⟨rfl, _, rfl, _, rfl, p, l, n6, 9, rfl, D6, by omega, by omega, by omega, by omega, fun r1 H7 c0 c1 f7 D7 => ?_⟩
    refine ⟨_, _, rfl, rfl, ⟨by decide, by decide, by decide⟩, (by show 6 ≤ sizeLine; decide), fun L nL => ?_⟩
    have sL := same_upd (o := .lst [.int 0, .int 1, .int 2, .int 30, .int r1, .int (10 ^ Int.toNat 30)]) nL
    have lL := D7.lne nL
    refine ⟨p, l, L, n6 + 1, _, rfl, D7.same sL, by omega, by omega, upd_same, lL.1, lL.2, (by show 0 < 6; decide), (by show 6 ≤ 1000; decide), fun y H8 hy f8 D8 => ?_⟩
    have fA := f7.trans ((Same.fr sL).trans f8)
    have c1 : r1 < 9 := c1
    simp only [List.mem_cons, List.not_mem_nil, or_false] at hy
    rcases hy with rfl | rfl | rfl | rfl | rfl | rfl
    · exact hR H8 _ 0 _ fA D8 (by omega) (by omega) (by decide) rfl
    · exact hR H8 _ 1 _ fA D8 (by omega) (by omega) (by decide) rfl
    · exact hR H8 _ 2 _ fA D8 (by omega) (by omega) (by decide) rfl
    · exact hR H8 _ 30 _ fA D8 (by omega) (by omega) (by decide) rfl
    · exact hR H8 _ r1 _ fA D8 (by omega) (by omega) (by omega) rfl
    · exact hR H8 _ _ _ fA D8 (by omega) (by omega) (by decide) rfl
  intro H6 n6 us xs f6 D6 b0 b1 xl xg row hU
  rw [row.ints] at hU
  refine ⟨U, _, rfl, .inl ⟨SqL.of hU, fun q nq => ?_⟩⟩
  have sq := same_upd (o := .tup (xs.map V.int)) nq
  refine kk _ q (fun i => xs.getD i 0) n6 (f6.trans (Same.fr sq)) (D6.same sq) (by omega) (by omega) ?_ fun i hi => ?_
  · show upd H6 q (.tup (xs.map V.int)) q = _
    rw [upd_same, ← xl, ← vec_of]
  · show 0 ≤ xs.getD i 0 ∧ xs.getD i 0 ≤ 10 ^ 30
    rw [List.getD_eq_getElem?_getD, List.getElem?_eq_getElem (by omega)]
    exact xg _ (List.getElem_mem _)
abbrev s_l_near : Stmt := topS 24
abbrev N_l_near : List Str := ["_law_deck_here", "_law_amounts_here", "_law_found", "_law_turn", "_law_at"]
theorem sc_l_near : FnScope N_l_near ["_law_deck_here", "_law_amounts_here"] (defScope s_l_near) := ⟨rfl, rfl, rfl, by decide +kernel, rfl, by decide +kernel, by decide +kernel⟩
theorem ok_l_near (T : Txt mg) (D : Df K mg "_law_near" s_l_near ["_law_deck_here", "_law_amounts_here"]) (C_l_draw : Cal P w K mg base "_law_draw" ["_law_deck_here", "_law_many"] 1 (sp_l_draw K)) : Cal P w K mg base "_law_near" ["_law_deck_here", "_law_amounts_here"] 2 (sp_l_near K) := by
  obtain ⟨f_l_draw, fd_l_draw, G_l_draw, m_l_draw, k_l_draw, b_l_draw⟩ := C_l_draw
  refine D.cal sc_l_near (fun vs H Q E h => ?_) (fun f cdv A outer s H vs Q E hr h => ?_)
  · obtain ⟨p, l, q, n, k, f, rfl, _⟩ := h
    rfl
  obtain ⟨p, l, q, n, k, f, rfl, D, n0, n1, k1, k4, hq, nf, kk⟩ := h
  refine ⟨_, (pss_cons (ps_set (i := 2) sc_l_near.nd rfl (Or.inl rfl) (pe_callTy call_list_of (by rfl) T.n_list (by decide +kernel) (pa_cons (pv 1) pa_nil)))
    (pss_cons (ps_for PassesOwn.never rfl (pi_range1 (by rfl) T.n_range (pa_cons (pe_op op_add pe_int (pe_call G_l_draw (hr.mono (by decide)) (by rfl) m_l_draw k_l_draw b_l_draw .nil pass0 (pa_cons (pv 0) (pa_cons pe_int pa_nil)))) pa_nil)) (pg_name (i := 3) sc_l_near.nd rfl (Or.inl rfl))
      (pss_cons (ps_set (i := 4) sc_l_near.nd rfl (Or.inl rfl) (pe_call G_l_draw (hr.mono (by decide)) (by rfl) m_l_draw k_l_draw b_l_draw .nil pass0 (pa_cons (pv 0) (pa_cons (pe_callB call_len_seq (by rfl) T.n_len (by decide +kernel) (pa_cons (pv 2) pa_nil)) pa_nil))))
    (pss_one (ps_asg (pe_callB (call_max2 rfl) (by rfl) T.n_max (by decide +kernel) (pa_cons pe_int (pa_cons (pe_op op_sub (pe_op op_add (pe_ix ix_list (pv 2) (pv 4) (fun _ _ => rfl)) (pe_call G_l_draw (hr.mono (by decide)) (by rfl) m_l_draw k_l_draw b_l_draw .nil pass0 (pa_cons (pv 0) (pa_cons pe_int pa_nil)))) pe_int) pa_nil))) (pg_sub (pv 2) (pv 4) set_list)))))
    (pss_one (ps_ret (pe_callTy call_tuple_of (by rfl) T.n_tuple (by decide +kernel) (pa_cons (pv 2) pa_nil)))))), ?_⟩
  refine ⟨_, rfl, q, _, rfl, .inr (SqT.of hq), fun F nF => ?_⟩
  have sF := same_upd (o := .lst ((vec k f).map V.int)) nF
  have hF : upd H F (.lst ((vec k f).map V.int)) F = some (.lst ((vec k f).map V.int)) := upd_same
  obtain ⟨Fp, Fl⟩ := D.lne nF
  have D1 := D.same sF
  generalize upd H F (.lst ((vec k f).map V.int)) = H1 at sF hF D1 ⊢
  refine ⟨_, rfl, p, l, n, 2, rfl, D1, n0, by omega, by omega, by omega, fun r Ha a0 a1 fa Da => ⟨_, _, rfl, rfl, 1 + r, rfl, by omega, by omega, ?_⟩⟩
  refine for_range (lo := 0) (n := (1 + r).toNat) (fun j σ H' => ∃ (n' : Int) (g : Nat → Int) (v3 v4 : Option V), σ = [some (.ref p), some (.ref q), some (.ref F), v3, v4] ∧ Fr p l H H' ∧ Deck H' p l n' ∧ n ≤ n' ∧ n' ≤ n + 1 + 2 * (j : Int) ∧ H' F = some (.lst ((vec k g).map V.int)) ∧ ∀ i, i < k → 0 ≤ g i ∧ g i ≤ 10 ^ 30 + 2 * (j : Int)) ⟨n + 1, f, _, _, rfl, (Same.fr sF).trans fa, Da, by omega, by omega, fa F _ Fp Fl hF, fun i hi => by have := nf i hi; omega⟩ ?_ ?_
  · rintro j σ H2 hj ⟨n', g, v3, v4, rfl, f2, D2, m0, m1, hF2, ng⟩
    have hj : j < (1 + r).toNat := hj
    have lv : ((vec k g).map V.int).length = k := vlen k g
    refine ⟨_, rfl, _, rfl, F, _, rfl, .inl (SqL.of hF2), p, l, n', _, rfl, D2, by omega, by omega, by rw [lv]; omega, by rw [lv]; omega, fun at_ Hb b0 b1 fb Db => ?_⟩
    rw [lv] at b1
    obtain ⟨ja, rfl⟩ : ∃ ja : Nat, at_ = (ja : Int) := ⟨at_.toNat, by omega⟩
    have hja : ja < k := by omega
    have hFb := fb F _ Fp Fl hF2
    refine ⟨_, rfl, _, rfl, F, _, _, _, rfl, rfl, SqL.of hFb, atI_nat (vget hja), _, rfl, p, l, n' + 1, 3, rfl, Db, by omega, by omega, by omega, by omega, fun rc Hc c0 c1 fc Dc => ?_⟩
    have hFc := fc F _ Fp Fl hFb
    refine ⟨_, _, rfl, rfl, _, _, rfl, rfl, _, _, rfl, _, rfl, _, rfl, F, _, _, _, rfl, rfl, hFc, (show ixN ((vec k g).map V.int).length (ja : Int) = some ja by
      rw [lv]
      unfold ixN
      rw [if_pos (by omega), if_pos (by omega), Int.toNat_natCast]), ?_⟩
    have fbc := f2.trans (fb.trans fc)
    have nFH : H F = none := nF
    refine ⟨n' + 1 + 1, fun i => if i = ja then (if g ja + rc - 1 > 0 then g ja + rc - 1 else 0) else g i, _, _, rfl, ?_, ⟨by rw [upd_ne Fp.symm]; exact Dc.hp, ?_⟩, by omega, by omega, ?_, fun i hi => ?_⟩
    · intro b o h1 h2 hb'
      rw [upd_ne (ne_of_none hb' nFH)]
      exact fbc b o h1 h2 hb'
    · obtain ⟨cells, q1, q2⟩ := Dc.hl
      exact ⟨cells, by rw [upd_ne Fl.symm]; exact q1, q2⟩
    · rw [upd_same, ← vec_put]
    · have h1 := ng i hi
      have h2 := ng ja hja
      have c1 : rc < 3 := c1
      show 0 ≤ (if i = ja then (if g ja + rc - 1 > 0 then g ja + rc - 1 else 0) else g i) ∧ (if i = ja then (if g ja + rc - 1 > 0 then g ja + rc - 1 else 0) else g i) ≤ _
      split
      · split <;> omega
      · omega
  · rintro σ H2 ⟨n', g, v3, v4, rfl, f2, D2, m0, m1, hF2, ng⟩
    refine ⟨_, rfl, F, _, rfl, .inl ⟨SqL.of hF2, fun r' nr => ?_⟩⟩
    have sr := same_upd (o := .tup ((vec k g).map V.int)) nr
    exact kk _ r' g n' (f2.trans (Same.fr sr)) (D2.same sr) (by omega) (by omega) upd_same fun i hi => by have := ng i hi; omega
end
end Sm

set_option Elab.async false
set_option linter.all false
set_option maxRecDepth 100000
set_option maxHeartbeats 16000000
namespace Sm
open PySem PySem.Spec PyProof.Rows L2
/-- a promise that is never broken by a raise -/
theorem no_raise {P : Program} {w : World} {K : PySem.W.Frag} {mg : Str → Option Value} {base : Heap} {k : Nat} {f : Addr} {fd : FuncData} {ps : List Str} {sp sp' : Sp} (F : FnOk P w K mg base (L2.CX P w) k f fd ps sp) (h : ∀ vs H Q E, sp' vs H Q E → sp vs H Q E0) : FnOk P w K mg base CX0 k f fd ps sp' := by
  refine ⟨fun vs H Q E h' => F.len _ _ _ _ (h _ _ _ _ h'), fun A outer s H args us vs Q E hr e0 hb hv h' => ?_⟩
  refine codeAny_mono (F.run A outer s H args us _ Q E0 hr e0 hb hv (h _ _ _ _ h')) ?_
  rintro (e | fl) s' got
  · obtain ⟨_, _, _, _, _, _, _, _, _, _, _, _, hE⟩ := got
    exact hE.elim
  · match fl, got with
    | .next, got => exact got.elim
    | .brk, got => exact got.elim
    | .cont, got => exact got.elim
    | .ret u, got => exact got
theorem no_raiseC {P : Program} {w : World} {K : PySem.W.Frag} {mg : Str → Option Value} {base : Heap} {k : Nat} {x : Str} {ps : List Str} {sp sp' : Sp} (C : CalX P w K mg base x ps k sp) (h : ∀ vs H Q E, sp' vs H Q E → sp vs H Q E0) : Cal P w K mg base x ps k sp' := by
  obtain ⟨f, fd, F, m, kp, b⟩ := C
  exact ⟨f, fd, no_raise F h, m, kp, b⟩
end Sm

set_option Elab.async false
set_option linter.all false
set_option maxRecDepth 100000
set_option maxHeartbeats 4000000
namespace Sm
open PySem PySem.Spec PyProof.Rows L2
/-! ### own ops within try: what is raised is wished for at the slots as they are -/
section
variable {X : Cx} {CX : CXT} {n : Nat} {f C : Addr} {fd : FuncData} {ps : List Str} {sp : Sp} {E : L2.St → XK}
theorem own_runS {A : Around} {pins : List (Addr × Obj)} {s : Shared} {σ : L2.St} {H : Hp} {Q : VK} {us : List Value} {vs : List V} {E : XK} (F : FnOk X.prog X.w X.K X.mg X.base CX n f fd ps sp) (hb : Binds X.K fd ps []) (hx : PassesAt CX X σ E) (sb : Sub X n A)
    (I : Inv X pins σ H s) (r : Vals vs us) (h : sp vs H Q E) : wpAny (model X.prog X.w) A (call (.ref f) us) (EP X pins σ Q) X.xe s := by
  have z := I.env0
  have e0 : Env0 X.prog X.w X.K X.mg X.base A X.stack s H := ⟨by rw [sb.fr]; exact z.frames, z.mod, z.bs, z.bsz, z.funs, z.frf, z.hok, z.bare⟩
  have ln := F.len _ _ _ _ h
  have bi : BindsTo s fd ⟨us, []⟩ (ps.zip us) := by
    have q := hb s us I.kIn (by rw [List.append_nil, ← r.length]; exact ln)
    rwa [List.append_nil] at q
  refine wpAny_call (codeAny_mono (F.run A X.stack s H ⟨us, []⟩ us vs Q E sb.room e0 bi r h) ?_)
  rintro (e | out) s' got
  · exact hx pins H s e s' I got
  · match out, got with
    | .ret u, got => exact I.after got
    | .next, got => exact got.elim
    | .brk, got => exact got.elim
    | .cont, got => exact got.elim
theorem pe_binOS {op : Operator} {a b : Expr} {ta tb : TE} {pos : Pos} (m : Spm X.K C (PySem.dunder op.info.2) f) (hc : PySem.W.selfFirst X.K C = true) (F : FnOk X.prog X.w X.K X.mg X.base CX n f fd ps sp) (hb : Binds X.K fd ps []) (hr : Room n X.A) (hx : ∀ σ, PassesAt CX X σ (E σ)) (ha : PE X a ta) (hb' : PE X b tb) :
    PE X (.BinOp a op b pos) (fun σ H Q => ta σ H fun x H1 => tb σ H1 fun y H2 => rBinO C sp (E σ) x y H2 Q) := by
  refine ⟨fun pins s σ H Q I h => wpAny_BinOp (binT ha hb' I h fun v u s2 x y H2 I2 rx ry q => ?_)⟩
  obtain ⟨a, dx, fs, b, dy, gs, rfl, rfl, ha, hb', q⟩ := q
  cases (show v = Value.ref a from rx)
  cases (show u = Value.ref b from ry)
  obtain ⟨ox, od, J⟩ := inst_of I2 ha
  obtain ⟨oy, ody, J'⟩ := inst_of I2 hb'
  obtain ⟨mm, hF⟩ := I2.fr
  refine PySem.W.binop_K hF I2.ok.mod.kin J J'.type hc m.at_ m.fn (wpAny_mono (own_runS (vs := [.ref a, .ref b]) F hb (hx σ) ⟨hr, rfl⟩ I2 (.cons rfl (.cons rfl .nil)) q) ?_ fun _ _ z => z)
  rintro v s' ⟨z, H', I', rz, q⟩
  exact SlX.cmpback rz ⟨z, H', I', rz, q⟩
theorem pe_binQS {K : PySem.W.Frag} {op : Operator} {a b : Expr} {ta tb : TE} {pos : Pos} (m : Spm X.K C (PySem.dunder op.info.2) f) (hc : PySem.W.selfFirst X.K C = true) (nr : PySem.W.findIn X.K (.ref C) (dunderR op.info.2) = some none) (kd : kindsOk X.K C op = true) (F : FnOk X.prog X.w X.K X.mg X.base CX n f fd ps sp) (hb : Binds X.K fd ps []) (hr : Room n X.A) (hx : ∀ σ, PassesAt CX X σ (E σ)) (ha : PE X a ta) (hb' : PE X b tb) (hK : X.K = K := by rfl) :
    PE X (.BinOp a op b pos) (fun σ H Q => ta σ H fun x H1 => tb σ H1 fun y H2 => rBinQ K C sp (E σ) x y H2 Q) := by
  subst hK
  refine ⟨fun pins s σ H Q I h => wpAny_BinOp (binT ha hb' I h fun v u s2 x y H2 I2 rx ry q => ?_)⟩
  obtain ⟨a, dx, fs, d, rfl, ha, hy, q⟩ := q
  cases (show v = Value.ref a from rx)
  obtain ⟨ox, od, J⟩ := inst_of I2 ha
  obtain ⟨P, Z, p, _⟩ := kit_of I2 ry hy.ty
  obtain ⟨fo, ro, e1, e2, e3⟩ := kindsOk_at kd d
  refine PySem.W.own_binT I2.kIn J (Z.ty _ _ I2.kIn p) hc m.at_ m.fn nr e1 e2 e3 (wpAny_mono (own_runS (vs := [.ref a, y]) F hb (hx σ) ⟨hr, rfl⟩ I2 (.cons rfl (.cons ry .nil)) q) ?_ fun _ _ z => z)
  rintro v s' ⟨z, H', I', rz, q⟩
  exact SlX.cmpback rz ⟨z, H', I', rz, q⟩
end
end Sm

set_option Elab.async false
set_option linter.all false
set_option maxRecDepth 100000
set_option maxHeartbeats 8000000
namespace Sm
open PySem PySem.Spec PyProof.Rows L2
open C8 (pss_cut tCut)
theorem un64 {k : Nat} {A : Around} (r : Room k A) : A.units + 64 < cLine := by have := r.un; omega
theorem un64m {k : Nat} {A : Around} {h : Option Value} (r : Room k A) : (A.mark h).units + 64 < cLine := by have := un_mk (h := h) r; omega
structure XCg (mg : Str → Option Value) (cChangeError : Addr) : Prop where
  gChangeError : mg "ChangeError" = some (.ref cChangeError)
theorem new_purse {K : PySem.W.Frag} {cPurse q : Addr} {H : Hp} {k : Nat} {f : Nat → Int} {Q : Addr → Hp → Prop} (I : InsC K cPurse) (hq : H q = some (.tup ((vec k f).map V.int))) (k1 : 1 ≤ k) (k4 : k ≤ 4) (nn : ∀ i, i < k → 0 ≤ f i) (kk : ∀ p H', Same H H' → PurseAt cPurse H' p k f → Q p H') :
    ∀ x dx : Addr, H x = none → H dx = none → dx ≠ x → sp_Pinit K cPurse [.ref x, .ref q] (upd (upd H dx (.own x)) x (.ins cPurse dx [])) (fun v H' => v = .non ∧ Q x H') E0 := by
  intro x dx nx ndx ne
  have sx : Same H (upd (upd H dx (.own x)) x (.ins cPurse dx [])) := fun b o hb => by
    rw [upd_ne (ne_of_none hb nx), upd_ne (ne_of_none hb ndx)]
    exact hb
  refine ⟨x, dx, q, _, rfl, upd_same, sx _ _ hq, by rw [vec_len]; exact k1, by rw [vec_len]; exact k4, vec_nn nn, fun H' keep hx => ?_⟩
  have s4 : Same H H' := fun b o hb => keep b o (ne_of_none hb nx) (sx b o hb)
  exact ⟨rfl, kk x H' s4 ⟨dx, q, hx, s4 _ _ hq⟩⟩
/-! ### the promises where nothing is raised -/
def sp_Padd0 (cPurse : Addr) : Sp := fun vs H Q _ => ∃ (a b : Addr) (k : Nat) (f g : Nat → Int), vs = [.ref a, .ref b] ∧ PurseAt cPurse H a k f ∧ PurseAt cPurse H b k g ∧ 1 ≤ k ∧ k ≤ 4 ∧ (∀ i, i < k → 0 ≤ f i) ∧ (∀ i, i < k → 0 ≤ g i) ∧
  ∀ H' p, Same H H' → PurseAt cPurse H' p k (fun i => f i + g i) → Q (.ref p) H'
def sp_Pcov0 (cPurse : Addr) : Sp := fun vs H Q _ => ∃ (a b : Addr) (k : Nat) (f g : Nat → Int), vs = [.ref a, .ref b] ∧ PurseAt cPurse H a k f ∧ PurseAt cPurse H b k g ∧ k ≤ 4 ∧
  ∀ H', Same H H' → Q (.bl ((List.range k).all fun i => decide (g i ≤ f i))) H'
def sp_Pmul0 (cPurse : Addr) : Sp := fun vs H Q _ => ∃ (a : Addr) (k : Nat) (f : Nat → Int) (m : Int), vs = [.ref a, .int m] ∧ PurseAt cPurse H a k f ∧ 1 ≤ k ∧ k ≤ 4 ∧ (∀ i, i < k → 0 ≤ f i ∧ (f i).natAbs < 2 ^ 200) ∧ 0 ≤ m ∧ m.natAbs < 2 ^ 200 ∧
  ∀ H' p, Same H H' → PurseAt cPurse H' p k (fun i => f i * m) → Q (.ref p) H'
section
variable {P : Program} {w : World} {K : PySem.W.Frag} {mg : Str → Option Value} {base : Heap} {cPurse fPi fAdd fSub fMul fIn fCov cO cN cM fN fM cChangeError : Addr}
theorem ok_Padd0 {fd : FuncData} (F : FnOk P w K mg base (L2.CX P w) 5 fAdd fd ["self", "other"] (sp_Padd cPurse cO)) : FnOk P w K mg base CX0 5 fAdd fd ["self", "other"] (sp_Padd0 cPurse) := by
  refine no_raise F fun vs H Q E h => ?_
  obtain ⟨a, b, k, f, g, rfl, hA, hB, k1, k4, nf, ng, kk⟩ := h
  exact ⟨a, b, k, k, f, g, rfl, hA, hB, k1, k4, nf, ng, fun e => absurd rfl e, fun _ => kk⟩
theorem ok_Pcov0 {fd : FuncData} (F : FnOk P w K mg base (L2.CX P w) 2 fCov fd ["self", "other"] (sp_Pcov cPurse cO)) : FnOk P w K mg base CX0 2 fCov fd ["self", "other"] (sp_Pcov0 cPurse) := by
  refine no_raise F fun vs H Q E h => ?_
  obtain ⟨a, b, k, f, g, rfl, hA, hB, k4, kk⟩ := h
  exact ⟨a, b, k, k, f, g, rfl, hA, hB, k4, fun e => absurd rfl e, fun _ => kk⟩
theorem ok_Pmul0 {fd : FuncData} (F : FnOk P w K mg base (L2.CX P w) 5 fMul fd ["self", "other"] (sp_Pmul K cPurse cM)) : FnOk P w K mg base CX0 5 fMul fd ["self", "other"] (sp_Pmul0 cPurse) := by
  refine no_raise F fun vs H Q E h => ?_
  obtain ⟨a, k, f, m, rfl, hA, k1, k4, nf, m0, m1, kk⟩ := h
  refine ⟨a, k, f, .int m, .int m, rfl, hA, k1, k4, nf, .int m, fun e => ?_, fun m' e _ _ => ?_, fun m' e => ?_⟩
  · have : decide (0 ≤ m) = false := e
    exact absurd m0 (of_decide_eq_false this)
  · cases e
    exact kk
  · cases e
    exact m1
/-- the kinds of which there is too little -/
def shorts (k : Nat) (f g : Nat → Int) : List Nat := (List.range k).filter fun i => decide (f i < g i)
theorem shorts_yes {i : Nat} {f g : Nat → Int} (c : f i < g i) : shorts (i + 1) f g = shorts i f g ++ [i] := by
  unfold shorts
  rw [List.range_succ, List.filter_append, List.filter_cons_of_pos (p := fun i => decide (f i < g i)) (decide_eq_true c)]
  rfl
theorem shorts_no {i : Nat} {f g : Nat → Int} (c : ¬ f i < g i) : shorts (i + 1) f g = shorts i f g := by
  unfold shorts
  rw [List.range_succ, List.filter_append, List.filter_cons_of_neg (p := fun i => decide (f i < g i)) (by rw [decide_eq_false c]; exact Bool.false_ne_true), List.filter_nil, List.append_nil]
theorem shorts_nil {f g : Nat → Int} : ∀ k, (∀ i, i < k → g i ≤ f i) → shorts k f g = []
  | 0, _ => rfl
  | k + 1, h => by rw [shorts_no (by have := h k (by omega); omega), shorts_nil k fun i hi => h i (by omega)]
theorem shorts_head {f g : Nat → Int} {j : Nat} (c : f j < g j) (lo : ∀ i, i < j → g i ≤ f i) : ∀ k, j < k → (shorts k f g)[0]? = some j
  | 0, h => by omega
  | k + 1, h => by
    by_cases e : j = k
    · subst e
      rw [shorts_yes c, shorts_nil j lo]
      rfl
    · have ih := shorts_head c lo k (by omega)
      by_cases q : f k < g k
      · rw [shorts_yes q, List.getElem?_append_left (by
          rcases Nat.lt_or_ge 0 (shorts k f g).length with z | z
          · exact z
          · rw [List.getElem?_eq_none z] at ih; cases ih)]
        exact ih
      · rw [shorts_no q]
        exact ih
def shI (k : Nat) (f g : Nat → Int) : List Int := (shorts k f g).map fun i : Nat => (i : Int)
theorem shI_v {k : Nat} {f g : Nat → Int} : (shorts k f g).map (fun i : Nat => V.int (i : Int)) = (shI k f g).map V.int := by
  unfold shI
  rw [List.map_map]
  rfl
theorem dp_lst {K : PySem.W.Frag} {H : Hp} {q : Addr} {t : List Int} (h : H q = some (.lst (t.map V.int))) : Dp K H (.ref q) (.list (t.map PyData.int)) := .lst (SqL.of h) (dp_ints t)
theorem int_shown {i : Int} (h : i.natAbs.log2 < 1920) : PyData.showable (.int i) = true ∧ (PyData.int i).depth ≤ 60 ∧ (PyData.int i).shown.length ≤ sizeLine := by
  have a := PyProof.Rows.int_text_len_1921 h
  refine ⟨?_, by simp [PyData.depth], ?_⟩
  · have : PyData.showableAll [PyData.int i] = true := showable_ints (ns := [i]) fun n hn => by rw [List.mem_singleton.mp hn]; exact h
    simpa [PyData.showableAll] using this
  · simp only [PyData.shown]
    exact Nat.le_trans (show _ ≤ 3000 by omega) (by decide)
theorem log_int {i : Int} (h0 : -(10 ^ 60) ≤ i) (h1 : i ≤ 10 ^ 60) : i.natAbs.log2 < 1920 :=
  Nat.lt_of_lt_of_le (PySem.Flt.log2_lt_of (k := 310) (by decide) (by omega)) (by decide)
/-- a tuple of ints that may be shown -/
theorem tup_shown {ns : List Int} (l : ns.length ≤ 10) (h : ∀ n ∈ ns, n.natAbs.log2 < 1920) : PyData.showable (.tuple (ns.map PyData.int)) = true ∧ (PyData.tuple (ns.map PyData.int)).depth ≤ 60 ∧ (PyData.tuple (ns.map PyData.int)).shown.length ≤ sizeLine := by
  have dp := depth_int ns
  refine ⟨by simp only [PyData.showable]; exact showable_ints h, by simp only [PyData.depth]; omega, ?_⟩
  have t := PySem.tupleText_len_le (PyData.shownAll (ns.map PyData.int))
  have s : ∀ ns : List Int, (∀ n ∈ ns, n.natAbs.log2 < 1920) → ((PyData.shownAll (ns.map PyData.int)).map (·.length)).sum ≤ 1930 * ns.length ∧ (PyData.shownAll (ns.map PyData.int)).length = ns.length := by
    intro ns
    induction ns with
    | nil => intro _; exact ⟨Nat.le_refl _, rfl⟩
    | cons n ns ih =>
      intro h
      obtain ⟨a1, a2⟩ := ih fun z hz => h z (List.mem_cons_of_mem _ hz)
      have a := PyProof.Rows.int_text_len_1921 (h n (List.mem_cons_self ..))
      simp only [List.map_cons, PyData.shownAll, List.sum_cons, List.length_cons, PyData.shown]
      refine ⟨?_, by omega⟩
      rw [Nat.mul_add, Nat.mul_one]
      omega
  obtain ⟨s1, s2⟩ := s ns h
  rw [s2] at t
  simp only [PyData.shown]
  exact Nat.le_trans (show _ ≤ 50000 by omega) (by decide)
def sp_l_difference (_ : PySem.W.Frag) (cPurse : Addr) : Sp := fun vs H Q _ => ∃ (a b qa qb : Addr) (k : Nat) (f g : Nat → Int), vs = [.ref a, .ref b, .ref qa, .ref qb] ∧ PurseAt cPurse H a k f ∧ PurseAt cPurse H b k g ∧ AmAt H qa k f ∧ AmAt H qb k g ∧ 1 ≤ k ∧ k ≤ 4 ∧ (∀ i, i < k → 0 ≤ f i ∧ f i ≤ 10 ^ 31) ∧ (∀ i, i < k → 0 ≤ g i ∧ g i ≤ 10 ^ 31) ∧ ∀ H', Same H H' → Q (.bl true) H'
abbrev s_l_difference : Stmt := topS 26
abbrev N_l_difference : List Str := ["_law_one_here", "_law_other", "_law_mine", "_law_others", "_law_short", "_law_found", "error", "_law_due", "_law_kind", "_law_a", "_law_b"]
theorem sc_l_difference : FnScope N_l_difference ["_law_one_here", "_law_other", "_law_mine", "_law_others"] (defScope s_l_difference) := ⟨rfl, rfl, rfl, by decide +kernel, rfl, by decide +kernel, by decide +kernel⟩
theorem ok_l_difference {f : Addr} {fd fdS : FuncData} (T : Txt mg) (R : TxP K mg cPurse fPi fAdd fSub fMul fIn fCov) (XNotEnough : XVal K mg "NotEnough" "kind" cN fN) (XC : XCg mg cChangeError) (kCE : PySem.W.kitOne K (.ref cN) (.ref cChangeError) = some true)
    (GX_sub : FnOk P w K mg base (L2.CX P w) 5 fSub fdS ["self", "other"] (sp_Psub cPurse cO cN)) (b_sub : Binds K fdS ["self", "other"] []) (F : Fun K "_law_difference" "_law_difference" s_l_difference f fd) : FnG P w K mg base 6 f fd ["_law_one_here", "_law_other", "_law_mine", "_law_others"] (sp_l_difference K cPurse) := by
  have M_sub := R.mSub
  have S_first := R.first
  refine FnG.body F sc_l_difference (fun vs H Q E h => ?_) (fun cdv A outer s H vs Q E gu hr h => ?_)
  · obtain ⟨a, b, qa, qb, k, f, g, rfl, _⟩ := h
    rfl
  obtain ⟨a, b, qa, qb, k, f, g, rfl, hA, hB, hqa, hqb, k1, k4, nf, ng, kk⟩ := h
  obtain ⟨dx, t, ha, ht⟩ := id hA
  obtain ⟨dy, u, hb, hu⟩ := id hB
  refine ⟨_, (pss_cons (ps_setLc (i := 4) (own := [("_law_kind", 8)]) (g := gName 8) (tt := _) rfl sc_l_difference.nd rfl rfl (sw_true rfl rfl rfl (by decide +kernel)) (pi_range1 (by rfl) T.n_range (pa_cons (pe_callB call_len_seq (by rfl) T.n_len (by decide +kernel) (pa_cons (pv 2) pa_nil)) pa_nil)) (blkOk_by (own := [("_law_kind", 8)]) (N := N_l_difference) (sc := defScope s_l_difference) (by decide +kernel)) (fun _ _ _ _ _ => pg_name (i := 8) sc_l_difference.nd rfl (Or.inl rfl)) (fun _ _ _ _ _ => pts_one (pt_cmpR op_lt (pe_ix (show IxR _ (rIxT K) from ix_tup) (pv 2) (pv 8) (fun _ _ => rfl)) (pe_ix (show IxR _ (rIxT K) from ix_tup) (pv 3) (pv 8) (fun _ _ => rfl)) (nomark _))) (fun _ _ _ _ _ => (pv 8)))
    (pss_cons (ps_try_names rfl rfl sc_l_difference.nd
      (fun W pn xe tk _ => (pss_one (ps_set (i := 5) sc_l_difference.nd rfl (Or.inl rfl) (pe_binOS M_sub S_first GX_sub b_sub (hr.mono (by decide)) (fun σ => passAt tk σ) (pv 0) (pv 1)))))
      (.cons (i := 6) ⟨rfl, by decide, .inl XNotEnough.g⟩ rfl rfl (fun a oe cls d pn hz hf => (pss_one (ps_ret (pe_and (pe_cmpR (show OpR _ _ (rNeD K) from op_neD (un64m hr)) (pv 4) (pe_lstN pa_nil) (nomark _)) (pe_and (pe_cmpR op_eq (pe_callB (show CallR _ (.builtin "repr") (rReprQ K) from call_reprU gu (un_mk hr)) (by rfl) T.n_repr (by decide +kernel) (pa_cons (pe_xf XNotEnough.xf XNotEnough.no hz hf (pv 6)) pa_nil)) (pe_callB (show CallR _ (.builtin "repr") (rReprQ K) from call_reprU gu (un_mk hr)) (by rfl) T.n_repr (by decide +kernel) (pa_cons (pe_ix (show IxR _ (rIxL K) from ix_list) (pv 4) pe_int (fun _ _ => rfl)) pa_nil)) (nomark _)) (pe_one (pe_callB (call_isX hz hf) (by rfl) T.n_isinstance (by decide +kernel) (pa_cons (pv 6) (pa_cons (pe_glob (v := .ref cChangeError) rfl XC.gChangeError rfl) pa_nil)))))))))
      .nil))
    (pss_cons (ps_set (i := 7) sc_l_difference.nd rfl (Or.inl rfl) (pe_callTy call_tuple_of (by rfl) T.n_tuple (by decide +kernel) (pa_cons (pe_lc (own := [("_law_a", 9), ("_law_b", 10)]) (g := gTup K 2 (gCons (gName 9) (gCons (gName 10) gNil))) (tt := tYes) rfl sc_l_difference.nd (RZ.pi_zipA (by rfl) T.n_zip (pa_cons (pv 2) (pa_cons (pv 3) pa_nil))) (blkOk_by (own := [("_law_a", 9), ("_law_b", 10)]) (N := N_l_difference) (sc := defScope s_l_difference) (by decide +kernel)) (fun _ _ _ _ _ => pg_tup (by rfl) (pgs_cons (pg_name (i := 9) sc_l_difference.nd rfl (Or.inl rfl)) (pgs_cons (pg_name (i := 10) sc_l_difference.nd rfl (Or.inl rfl)) pgs_nil))) (fun _ _ _ _ _ => pts_nil) (fun _ _ _ _ _ => (pe_op op_sub (pv 9) (pv 10)))) pa_nil)))
    (pss_one (ps_ret (pe_and (pe_cmpR (op_eqD hr.units) (pv 4) (pe_lstN pa_nil) (nomark _)) (pe_one (pe_cmpR op_eq (pe_callB (call_reprQ gu ⟨_, hr⟩) (by rfl) T.n_repr (by decide +kernel) (pa_cons (pe_fld (pv 5) rfl) pa_nil)) (pe_callB (call_reprQ gu ⟨_, hr⟩) (by rfl) T.n_repr (by decide +kernel) (pa_cons (pv 7) pa_nil)) (nomark _))))))))), ?_⟩
  refine ⟨_, rfl, qa, _, rfl, .inr (SqT.of hqa), _, rfl, by rw [vlen]; omega, by rw [vlen]; omega, fun U nU => ?_⟩
  rw [vlen, show ((k : Nat) : Int).toNat = k by omega]
  have sU := same_upd (o := .lst []) nU
  refine lc_range (lo := 0) (n := k) (fun i H' => Same H H' ∧ H' U = some (.lst ((shorts i f g).map fun i : Nat => V.int (i : Int)))) ⟨sU, upd_same⟩ ?_ ?_
  · rintro i H' hi ⟨s', hU⟩
    refine ⟨rfl, ?_⟩
    refine ⟨_, rfl, _, rfl, _, _, _, _, rfl, rfl, SqT.of (s' _ _ hqa), at_of (j := i) (Int.zero_add _) (vget hi), _, rfl, _, rfl, _, _, _, _, rfl, rfl, SqT.of (s' _ _ hqb), at_of (j := i) (Int.zero_add _) (vget hi), _, _, rfl, rfl, _, rfl, ?_⟩
    by_cases c : f i < g i
    · refine iteP c ⟨_, rfl, _, hU, ?_, fun b' o e' => ?_, ?_⟩
      · have : (shorts i f g).length ≤ i := by
          unfold shorts
          have := List.length_filter_le (fun i => decide (f i < g i)) (List.range i)
          rwa [List.length_range] at this
        rw [List.length_map]
        exact Nat.lt_of_le_of_lt (show (shorts i f g).length ≤ 4 by omega) (by decide)
      · rw [upd_ne (ne_of_none e' nU)]
        exact s' _ _ e'
      · rw [upd_same, shorts_yes c, List.map_append]
        show some (HO.lst (_ ++ [V.int (0 + (i : Int))])) = some (HO.lst (_ ++ [V.int (i : Int)]))
        rw [Int.zero_add]
    · refine iteN c ⟨s', ?_⟩
      rw [shorts_no c]
      exact hU
  rintro H1 ⟨s1, hU⟩
  refine ⟨_, rfl, _, rfl, a, dx, _, b, dy, _, rfl, rfl, s1 _ _ ha, s1 _ _ hb, a, b, k, k, f, g, rfl, hA.same s1, hB.same s1, k1, k4, fun e => absurd rfl e, fun _ j hj c lo H' y s' hy => ?_, fun _ lo H' p s' hp => ?_⟩
  · refine ⟨true, XNotEnough.te, fun _ ea nea => ?_, fun z => nomatch z⟩
    have hU' := (s') _ _ hU
    rw [shI_v] at hU'
    have hd := shorts_head c lo k hj
    have hx : (shI k f g)[0]? = some (j : Int) := by unfold shI; rw [List.getElem?_map, hd]; rfl
    have ne : shI k f g ≠ [] := fun e => by rw [e] at hx; cases hx
    have sj := int_shown (i := (j : Int)) (log_int (by omega) (by omega))
    refine ⟨_, rfl, (by show 0 ≤ sizeLine; decide), fun Z nZ eZ => ?_⟩
    have sZ := same_upd (o := .lst []) nZ
    refine ⟨_, .list [], dp_lst (sZ _ _ hU'), .lst (SqL.of upd_same) .nil, lst_shaped _, by decide, ?_⟩
    rw [eqv_nil, decide_eq_false ne]
    refine ⟨_, rfl, iteT ?_⟩
    refine ⟨_, rfl, rfl, rfl, y, _, _, rfl, sZ _ _ hy, rfl, _, _, rfl, .int _, sj.1, sj.2.1, sj.2.2, ?_⟩
    refine ⟨_, rfl, U, _, _, _, rfl, rfl, SqL.of (sZ _ _ hU'), atI_nat (j := 0) (by rw [List.getElem?_map, hx]; rfl), _, _, rfl, .int _, sj.1, sj.2.1, sj.2.2, rfl, ?_⟩
    rw [decide_eq_true rfl]
    refine ⟨_, rfl, iteT ?_⟩
    exact ⟨_, rfl, cN, _, _, rfl, rfl, sZ _ _ hy, XNotEnough.ec, .inl ⟨_, _, true, rfl, .own _, kCE, kk _ (s1.trans (s'.trans sZ))⟩⟩
  · have t1 := s1.trans s'
    have en : shI k f g = [] := by unfold shI; rw [shorts_nil k lo]; rfl
    have hU' := s' _ _ hU
    rw [shI_v, en] at hU'
    obtain ⟨dp, tp, p1, p2⟩ := id hp
    refine ⟨_, rfl, _, rfl, qa, qb, _, _, rfl, .inr ⟨SqT.of (t1 _ _ hqa), SqT.of (t1 _ _ hqb), fun U2 nU2 => ?_⟩⟩
    refine lc_mZ (fun i => .int (f i - g i)) (t1 _ _ hqa) (t1 _ _ hqb) (vlen k f) (vlen k g) nU2 (by omega) ?_ gTup2_mono ?_
    · intro i x y T' H2 hx hy s2 hT R' hR
      have hi : i < k := by
        have := (List.getElem?_eq_some_iff.mp hx).1
        rwa [vlen] at this
      rw [vget hi] at hx hy
      have hx := (Option.some.inj hx).symm
      have hy := (Option.some.inj hy).symm
      subst hx hy
      exact ⟨T', _, rfl, SqT.of hT, rfl, _, _, rfl, _, _, rfl, rfl, rfl, _, rfl, _, rfl, _, _, rfl, rfl, hR H2 (Same.refl _)⟩
    intro H2 s2 hU2
    rw [rng_vec] at hU2
    refine ⟨U2, _, rfl, .inl ⟨SqL.of hU2, fun r nr => ?_⟩⟩
    have sr := same_upd (o := .tup ((vec k fun i => f i - g i).map V.int)) nr
    have hr2 : upd H2 r (.tup ((vec k fun i => f i - g i).map V.int)) r = some (.tup ((vec k fun i => f i - g i).map V.int)) := upd_same
    generalize upd H2 r (.tup ((vec k fun i => f i - g i).map V.int)) = H3 at sr hr2 ⊢
    have s23 := s2.trans sr
    refine ⟨_, rfl, (by show 0 ≤ sizeLine; decide), fun Z nZ eZ => ?_⟩
    have sZ := same_upd (o := .lst []) nZ
    refine ⟨_, .list [], dp_lst (t := []) (sZ _ _ (s23 _ _ hU')), .lst (SqL.of upd_same) .nil, lst_shaped _, by decide, ?_⟩
    rw [eqv_nil, decide_eq_true rfl]
    refine ⟨_, rfl, iteT ?_⟩
    have sd := tup_shown (ns := vec k fun i => f i - g i) (by rw [vec_len]; omega) (fun n hn => by
      obtain ⟨i, hi, rfl⟩ := mem_vec hn
      have h1 := nf i hi
      have h2 := ng i hi
      exact log_int (by omega) (by omega))
    refine ⟨_, rfl, p, cPurse, dp, _, _, rfl, sZ _ _ (s23 _ _ p1), R.ins.cl, R.na, rfl, _, _, rfl, dq_ints (sZ _ _ (s23 _ _ p2)), sd.1, sd.2.1, sd.2.2, ?_⟩
    refine ⟨_, rfl, _, _, rfl, dq_ints (sZ _ _ hr2), sd.1, sd.2.1, sd.2.2, rfl, ?_⟩
    rw [decide_eq_true rfl]
    exact kk _ (t1.trans (s23.trans sZ))
end
end Sm

set_option Elab.async false
set_option linter.all false
set_option maxRecDepth 100000
set_option maxHeartbeats 8000000
namespace Sm
open PySem PySem.Spec PyProof.Rows L2
open C8 (pss_cut tCut)
def sp_l_pair (_ : PySem.W.Frag) : Sp := fun vs H Q _ => ∃ (qa qb : Addr) (k : Nat) (f g : Nat → Int), vs = [.ref qa, .ref qb] ∧ AmAt H qa k f ∧ AmAt H qb k g ∧ 1 ≤ k ∧ k ≤ 4 ∧ (∀ i, i < k → 0 ≤ f i ∧ f i ≤ 10 ^ 31) ∧ (∀ i, i < k → 0 ≤ g i ∧ g i ≤ 10 ^ 31) ∧ ∀ H', Same H H' → Q (.bl true) H'
theorem am_shown {k : Nat} {f : Nat → Int} (k4 : k ≤ 4) (nf : ∀ i, i < k → -(10 ^ 60) ≤ f i ∧ f i ≤ 10 ^ 60) : PyData.showable (.tuple ((vec k f).map PyData.int)) = true ∧ (PyData.tuple ((vec k f).map PyData.int)).depth ≤ 60 ∧ (PyData.tuple ((vec k f).map PyData.int)).shown.length ≤ sizeLine :=
  tup_shown (by rw [vec_len]; omega) fun n hn => by
    obtain ⟨i, hi, rfl⟩ := mem_vec hn
    exact log_int (nf i hi).1 (nf i hi).2
theorem bl_shown (b : Bool) : PyData.showable (.bool b) = true ∧ (PyData.bool b).depth ≤ 60 ∧ (PyData.bool b).shown.length ≤ sizeLine := by
  cases b
  · exact ⟨by decide +kernel, by decide +kernel, by decide +kernel⟩
  · exact ⟨by decide +kernel, by decide +kernel, by decide +kernel⟩
section
variable {P : Program} {w : World} {K : PySem.W.Frag} {mg : Str → Option Value} {base : Heap} {cPurse fPi fAdd fSub fMul fIn fCov : Addr}
abbrev s_l_pair : Stmt := topS 27
abbrev N_l_pair : List Str := ["_law_mine", "_law_others", "_law_one_here", "_law_other", "_law_due", "_law_a", "_law_b"]
theorem sc_l_pair : FnScope N_l_pair ["_law_mine", "_law_others"] (defScope s_l_pair) := ⟨rfl, rfl, rfl, by decide +kernel, rfl, by decide +kernel, by decide +kernel⟩
theorem ok_l_pair {f fD : Addr} {fd fd1 fdA fdC fdD : FuncData} (T : Txt mg) (R : TxP K mg cPurse fPi fAdd fSub fMul fIn fCov) (G_Purse_init : FnOk P w K mg base CX0 3 fPi fd1 ["self", "amounts"] (sp_Pinit K cPurse)) (b_Purse_init : Binds K fd1 ["self", "amounts"] [])
    (G_add : FnOk P w K mg base CX0 5 fAdd fdA ["self", "other"] (sp_Padd0 cPurse)) (b_add : Binds K fdA ["self", "other"] []) (G_Purse_covers : FnOk P w K mg base CX0 2 fCov fdC ["self", "other"] (sp_Pcov0 cPurse)) (b_Purse_covers : Binds K fdC ["self", "other"] [])
    (G_l_difference : FnG P w K mg base 6 fD fdD ["_law_one_here", "_law_other", "_law_mine", "_law_others"] (sp_l_difference K cPurse)) (m_l_difference : mg "_law_difference" = some (.ref fD)) (k_l_difference : PySem.W.keepIn K (.ref fD) = true) (b_l_difference : L2.Binds K fdD ["_law_one_here", "_law_other", "_law_mine", "_law_others"] [])
    (F : Fun K "_law_pair" "_law_pair" s_l_pair f fd) : FnG P w K mg base 7 f fd ["_law_mine", "_law_others"] (sp_l_pair K) := by
  have g_Purse := R.g
  have Mk_Purse := R.mak
  have Cl_Purse := R.ins.cl
  have Me_Purse_covers := R.meC
  have M_add := R.mAdd
  have S_first := R.first
  refine FnG.body F sc_l_pair (fun vs H Q E h => ?_) (fun cdv A outer s H vs Q E gu hr h => ?_)
  · obtain ⟨qa, qb, k, f, g, rfl, _⟩ := h
    rfl
  obtain ⟨qa, qb, k, f, g, rfl, hqa, hqb, k1, k4, nf, ng, kk⟩ := h
  refine ⟨_, (pss_cons (ps_par (i := 2) (j := 3) (by rfl) sc_l_pair.nd rfl rfl (by decide) rfl rfl (pa_cons (pe_make Mk_Purse G_Purse_init (hr.mono (by decide)) (by rfl) g_Purse b_Purse_init .nil pass0 (pa_cons (pv 0) pa_nil)) (pa_cons (pe_make Mk_Purse G_Purse_init (hr.mono (by decide)) (by rfl) g_Purse b_Purse_init .nil pass0 (pa_cons (pv 1) pa_nil)) pa_nil)) (by rfl))
    (pss_cons (ps_if (pt_cmpR op_ne (pe_callB (call_reprQ gu ⟨_, hr⟩) (by rfl) T.n_repr (by decide +kernel) (pa_cons (pe_fld (pe_op (op_binO M_add S_first G_add b_add (hr.mono (by decide)) pass0) (pv 2) (pv 3)) rfl) pa_nil)) (pe_callB (call_reprQ gu ⟨_, hr⟩) (by rfl) T.n_repr (by decide +kernel) (pa_cons (pe_callTy call_tuple_of (by rfl) T.n_tuple (by decide +kernel) (pa_cons (pe_lc (own := [("_law_a", 5), ("_law_b", 6)]) (g := gTup K 2 (gCons (gName 5) (gCons (gName 6) gNil))) (tt := tYes) rfl sc_l_pair.nd (RZ.pi_zipA (by rfl) T.n_zip (pa_cons (pv 0) (pa_cons (pv 1) pa_nil))) (blkOk_by (own := [("_law_a", 5), ("_law_b", 6)]) (N := N_l_pair) (sc := defScope s_l_pair) (by decide +kernel)) (fun _ _ _ _ _ => pg_tup (by rfl) (pgs_cons (pg_name (i := 5) sc_l_pair.nd rfl (Or.inl rfl)) (pgs_cons (pg_name (i := 6) sc_l_pair.nd rfl (Or.inl rfl)) pgs_nil))) (fun _ _ _ _ _ => pts_nil) (fun _ _ _ _ _ => (pe_op op_add (pv 5) (pv 6)))) pa_nil)) pa_nil)) (nomark _)) (pss_one (ps_ret pe_bl)) pss_nil)
    (pss_cons (ps_set (i := 4) sc_l_pair.nd rfl (Or.inl rfl) (pe_callB (cr_all rfl) (by rfl) T.n_all (by decide +kernel) (pa_cons (pe_lc (own := [("_law_a", 5), ("_law_b", 6)]) (g := gTup K 2 (gCons (gName 5) (gCons (gName 6) gNil))) (tt := tYes) rfl sc_l_pair.nd (RZ.pi_zipA (by rfl) T.n_zip (pa_cons (pv 0) (pa_cons (pv 1) pa_nil))) (blkOk_by (own := [("_law_a", 5), ("_law_b", 6)]) (N := N_l_pair) (sc := defScope s_l_pair) (by decide +kernel)) (fun _ _ _ _ _ => pg_tup (by rfl) (pgs_cons (pg_name (i := 5) sc_l_pair.nd rfl (Or.inl rfl)) (pgs_cons (pg_name (i := 6) sc_l_pair.nd rfl (Or.inl rfl)) pgs_nil))) (fun _ _ _ _ _ => pts_nil) (fun _ _ _ _ _ => (pe_cmpR op_ge (pv 5) (pv 6) (nomark _)))) pa_nil)))
    (pss_cons (ps_if (PW.pt (pw_or (pt_cmpR op_ne (pe_callB (call_reprQ gu ⟨_, hr⟩) (by rfl) T.n_repr (by decide +kernel) (pa_cons (pe_meth (pv 2) Cl_Purse Me_Purse_covers G_Purse_covers (hr.mono (by decide)) b_Purse_covers .nil pass0 (pa_cons (pv 3) pa_nil)) pa_nil)) (pe_callB (call_reprQ gu ⟨_, hr⟩) (by rfl) T.n_repr (by decide +kernel) (pa_cons (pv 4) pa_nil)) (nomark _)) (pw_or1 (pt_cmpR op_notBl (pe_meth (pv 2) Cl_Purse Me_Purse_covers G_Purse_covers (hr.mono (by decide)) b_Purse_covers .nil pass0 (pa_cons (pv 2) pa_nil)) pe_bl (nomark _))))) (pss_one (ps_ret pe_bl)) pss_nil)
    (pss_cons (ps_if (pt_not (pt_val (pe_callG G_l_difference gu (hr.mono (by decide)) (by rfl) m_l_difference k_l_difference b_l_difference (pa_cons (pv 2) (pa_cons (pv 3) (pa_cons (pv 0) (pa_cons (pv 1) pa_nil))))))) (pss_one (ps_ret pe_bl)) pss_nil)
    (pss_cons (ps_if (pt_not (pt_val (pe_callG G_l_difference gu (hr.mono (by decide)) (by rfl) m_l_difference k_l_difference b_l_difference (pa_cons (pv 3) (pa_cons (pv 2) (pa_cons (pv 1) (pa_cons (pv 0) pa_nil))))))) (pss_one (ps_ret pe_bl)) pss_nil)
    (pss_one (ps_ret (pe_and (pe_cmpR (op_eqD hr.units) (pe_fld (pv 2) rfl) (pv 0) (nomark _)) (pe_one (pe_cmpR (op_eqD hr.units) (pe_fld (pv 3) rfl) (pv 1) (nomark _)))))))))))), ?_⟩
  refine ⟨_, rfl, new_purse R.ins hqa k1 k4 (fun i hi => (nf i hi).1) fun p1 H1 s1 hp1 => ?_⟩
  refine ⟨_, rfl, new_purse R.ins (s1 _ _ hqb) k1 k4 (fun i hi => (ng i hi).1) fun p2 H2 s2 hp2 => ?_⟩
  have hp1 := hp1.same s2
  have sA := s1.trans s2
  have hqa := sA _ _ hqa
  have hqb := sA _ _ hqb
  have kk : ∀ H', Same H2 H' → Q (.bl true) H' := fun H' s => kk H' (sA.trans s)
  clear s1 s2 sA
  obtain ⟨d1, t1, a1, b1⟩ := id hp1
  obtain ⟨d2, t2, a2, b2⟩ := id hp2
  refine ⟨_, _, rfl, ?_⟩
  have nf0 : ∀ i, i < k → 0 ≤ f i := fun i hi => (nf i hi).1
  have ng0 : ∀ i, i < k → 0 ≤ g i := fun i hi => (ng i hi).1
  have ms := am_shown (f := fun i => f i + g i) k4 (fun i hi => by have h1 := nf i hi; have h2 := ng i hi; show -(10 ^ 60) ≤ f i + g i ∧ f i + g i ≤ 10 ^ 60; omega)
  refine ⟨_, rfl, _, rfl, p1, d1, _, p2, d2, _, rfl, rfl, a1, a2, p1, p2, k, f, g, rfl, hp1, hp2, k1, k4, nf0, ng0, fun H3 p3 s3 hp3 => ?_⟩
  obtain ⟨d3, t3, a3, b3⟩ := id hp3
  refine ⟨p3, cPurse, d3, _, _, rfl, a3, R.ins.cl, R.na, rfl, _, _, rfl, dq_ints b3, ms.1, ms.2.1, ms.2.2, ?_⟩
  refine ⟨_, rfl, _, rfl, qa, qb, _, _, rfl, .inr ⟨SqT.of (s3 _ _ hqa), SqT.of (s3 _ _ hqb), fun U nU => ?_⟩⟩
  refine lc_mZ (fun i => .int (f i + g i)) (s3 _ _ hqa) (s3 _ _ hqb) (vlen k f) (vlen k g) nU (by omega) ?_ gTup2_mono ?_
  · intro i x y T' H2 hx hy s2 hT R' hR
    have hi : i < k := by
      have := (List.getElem?_eq_some_iff.mp hx).1
      rwa [vlen] at this
    rw [vget hi] at hx hy
    have hx := (Option.some.inj hx).symm
    have hy := (Option.some.inj hy).symm
    subst hx hy
    exact ⟨T', _, rfl, SqT.of hT, rfl, _, _, rfl, _, _, rfl, rfl, rfl, _, rfl, _, rfl, _, _, rfl, rfl, hR H2 (Same.refl _)⟩
  intro H4 s4 hU
  rw [rng_vec] at hU
  refine ⟨U, _, rfl, .inl ⟨SqL.of hU, fun r nr => ?_⟩⟩
  have sr := same_upd (o := .tup ((vec k fun i => f i + g i).map V.int)) nr
  have hr2 : upd H4 r (.tup ((vec k fun i => f i + g i).map V.int)) r = some (.tup ((vec k fun i => f i + g i).map V.int)) := upd_same
  generalize upd H4 r (.tup ((vec k fun i => f i + g i).map V.int)) = H5 at sr hr2 ⊢
  refine ⟨_, _, rfl, dq_ints hr2, ms.1, ms.2.1, ms.2.2, rfl, _, rfl, iteNP rfl ?_⟩
  have s5 := s3.trans (s4.trans sr)
  clear hr2 sr hU s4 nr nU hp3 a3 b3 s3
  -- covers
  refine ⟨_, rfl, _, rfl, qa, qb, _, _, rfl, .inr ⟨SqT.of (s5 _ _ hqa), SqT.of (s5 _ _ hqb), fun U nU => ?_⟩⟩
  refine lc_mZ (fun i => .bl (decide (g i ≤ f i))) (s5 _ _ hqa) (s5 _ _ hqb) (vlen k f) (vlen k g) nU (by omega) ?_ gTup2_mono ?_
  · intro i x y T' H2 hx hy s2 hT R' hR
    have hi : i < k := by
      have := (List.getElem?_eq_some_iff.mp hx).1
      rwa [vlen] at this
    rw [vget hi] at hx hy
    have hx := (Option.some.inj hx).symm
    have hy := (Option.some.inj hy).symm
    subst hx hy
    exact ⟨T', _, rfl, SqT.of hT, rfl, _, _, rfl, _, _, rfl, rfl, rfl, _, rfl, _, rfl, _, _, rfl, rfl, hR H2 (Same.refl _)⟩
  intro H6 s6 hU
  have hU : H6 U = some (.lst (((List.range k).map fun i => decide (g i ≤ f i)).map V.bl)) := by rw [hU, List.map_map]; rfl
  refine ⟨U, _, rfl, SqL.of hU, ?_⟩
  rw [List.all_map]
  have t6 := s5.trans s6
  have cb := bl_shown ((List.range k).all fun i => decide (g i ≤ f i))
  refine ⟨_, rfl, p1, d1, _, rfl, t6 _ _ a1, rfl, _, rfl, p1, p2, k, f, g, rfl, hp1.same t6, hp2.same t6, k4, fun H7 s7 => ⟨_, _, rfl, .bl _, cb.1, cb.2.1, cb.2.2, ?_⟩⟩
  have t7 := t6.trans s7
  refine ⟨_, rfl, _, _, rfl, .bl _, cb.1, cb.2.1, cb.2.2, rfl, _, rfl, iteNP rfl ?_⟩
  refine ⟨_, rfl, p1, d1, _, rfl, t7 _ _ a1, rfl, _, rfl, p1, p1, k, f, f, rfl, hp1.same t7, hp1.same t7, k4, fun H8 s8 => ?_⟩
  have z : ((List.range k).all fun i => decide (f i ≤ f i)) = true := List.all_eq_true.mpr fun i _ => decide_eq_true (Int.le_refl _)
  rw [z]
  have t8 := t7.trans s8
  refine ⟨_, _, rfl, rfl, _, rfl, iteNP rfl ?_⟩
  clear s8 s7 s6 hU nU s5 t6 t7 cb z
  refine ⟨_, rfl, _, rfl, _, rfl, _, rfl, p1, p2, qa, qb, k, f, g, rfl, hp1.same t8, hp2.same t8, t8 _ _ hqa, t8 _ _ hqb, k1, k4, nf, ng, fun H9 s9 => ⟨_, rfl, iteF ?_⟩⟩
  have t9 := t8.trans s9
  refine ⟨_, rfl, _, rfl, _, rfl, _, rfl, p2, p1, qb, qa, k, g, f, rfl, hp2.same t9, hp1.same t9, t9 _ _ hqb, t9 _ _ hqa, k1, k4, ng, nf, fun H10 s10 => ⟨_, rfl, iteF ?_⟩⟩
  have t10 := t9.trans s10
  refine ⟨_, rfl, p1, cPurse, d1, _, _, rfl, t10 _ _ a1, R.ins.cl, R.na, rfl, _, rfl, _, _, dp_tup (t10 _ _ b1), dp_tup (t10 _ _ hqa), tup_shaped _, tup_shaped _, ?_⟩
  rw [eqv_selfT]
  refine ⟨_, rfl, iteT ?_⟩
  refine ⟨_, rfl, p2, cPurse, d2, _, _, rfl, t10 _ _ a2, R.ins.cl, R.na, rfl, _, rfl, _, _, dp_tup (t10 _ _ b2), dp_tup (t10 _ _ hqb), tup_shaped _, tup_shaped _, ?_⟩
  rw [eqv_selfT]
  exact kk _ t10
end
end Sm

set_option Elab.async false
set_option linter.all false
set_option maxRecDepth 100000
set_option maxHeartbeats 8000000
namespace Sm
open PySem PySem.Spec PyProof.Rows L2
open C8 (pss_cut tCut)
theorem AmAt.fr {H H' : Hp} {p l q : Addr} {n : Int} {k : Nat} {f : Nat → Int} (h : AmAt H q k f) (fr : Fr p l H H') (D : Deck H p l n) : AmAt H' q k f := fr.tup D h
theorem PurseAt.fr {cPurse : Addr} {H H' : Hp} {p l q : Addr} {n : Int} {k : Nat} {f : Nat → Int} (h : PurseAt cPurse H q k f) (fr : Fr p l H H') (D : Deck H p l n) : PurseAt cPurse H' q k f := by
  obtain ⟨dx, t, h1, h2⟩ := h
  obtain ⟨cells, hl, _⟩ := D.hl
  have np : q ≠ p := fun e => by rw [e, D.hp] at h1; cases h1
  have nl : q ≠ l := fun e => by rw [e, hl] at h1; cases h1
  exact ⟨dx, t, fr _ _ np nl h1, fr.tup D h2⟩
def sp_l_times (_ : PySem.W.Frag) : Sp := fun vs H Q _ => ∃ (p l q : Addr) (n : Int) (k : Nat) (f : Nat → Int), vs = [.ref p, .ref q] ∧ Deck H p l n ∧ 0 ≤ n ∧ n ≤ 800000 ∧ AmAt H q k f ∧ 1 ≤ k ∧ k ≤ 4 ∧ (∀ i, i < k → 0 ≤ f i ∧ f i ≤ 10 ^ 31) ∧ ∀ H' n', Fr p l H H' → Deck H' p l n' → n ≤ n' → n' ≤ n + 10 → Q (.bl true) H'
section
variable {P : Program} {w : World} {K : PySem.W.Frag} {mg : Str → Option Value} {base : Heap} {cPurse fPi fAdd fSub fMul fIn fCov cM fM cChangeError : Addr}
abbrev s_l_times : Stmt := topS 28
abbrev N_l_times : List Str := ["_law_deck_here", "_law_mine", "_law_one_here", "_law_number", "_law_due", "_law_wrong", "error", "_law_amount"]
theorem sc_l_times : FnScope N_l_times ["_law_deck_here", "_law_mine"] (defScope s_l_times) := ⟨rfl, rfl, rfl, by decide +kernel, rfl, by decide +kernel, by decide +kernel⟩
theorem ok_l_times {f : Addr} {fd fd1 fdM : FuncData} (T : Txt mg) (R : TxP K mg cPurse fPi fAdd fSub fMul fIn fCov) (XNoNumber : XVal K mg "NoNumber" "value" cM fM) (XC : XCg mg cChangeError) (kCE : PySem.W.kitOne K (.ref cM) (.ref cChangeError) = some true) (G_Purse_init : FnOk P w K mg base CX0 3 fPi fd1 ["self", "amounts"] (sp_Pinit K cPurse)) (b_Purse_init : Binds K fd1 ["self", "amounts"] [])
    (G_mul : FnOk P w K mg base CX0 5 fMul fdM ["self", "other"] (sp_Pmul0 cPurse)) (GX_mul : FnOk P w K mg base (L2.CX P w) 5 fMul fdM ["self", "other"] (sp_Pmul K cPurse cM)) (b_mul : Binds K fdM ["self", "other"] [])
    (C_l_one : Cal P w K mg base "_law_one" ["_law_deck_here", "_law_items"] 2 (sp_l_one K))
    (F : Fun K "_law_times" "_law_times" s_l_times f fd) : FnG P w K mg base 7 f fd ["_law_deck_here", "_law_mine"] (sp_l_times K) := by
  obtain ⟨f_l_one, fd_l_one, G_l_one, m_l_one, k_l_one, b_l_one⟩ := C_l_one
  have g_Purse := R.g
  have Mk_Purse := R.mak
  have M_mul := R.mMul
  have S_first := R.first
  have N_mul := R.nr
  have K_mul := R.kd
  refine FnG.body F sc_l_times (fun vs H Q E h => ?_) (fun cdv A outer s H vs Q E gu hr h => ?_)
  · obtain ⟨p, l, q, n, k, f, rfl, _⟩ := h
    rfl
  obtain ⟨p, l, q, n, k, f, rfl, D, n0, n1, hq, k1, k4, nf, kk⟩ := h
  refine ⟨_, (pss_cons (ps_asg (pe_tup (pa_cons (pe_make Mk_Purse G_Purse_init (hr.mono (by decide)) (by rfl) g_Purse b_Purse_init .nil pass0 (pa_cons (pv 1) pa_nil)) (pa_cons (pe_call G_l_one (hr.mono (by decide)) (by rfl) m_l_one k_l_one b_l_one .nil pass0 (pa_cons (pv 0) (pa_cons (pe_lstN (pa_cons pe_int (pa_cons pe_int (pa_cons pe_int (pa_cons (pe_op op_pow pe_int pe_int) pa_nil))))) pa_nil))) pa_nil))) (pg_tup (by rfl) (pgs_cons (pg_name (i := 2) sc_l_times.nd rfl (Or.inl rfl)) (pgs_cons (pg_name (i := 3) sc_l_times.nd rfl (Or.inr rfl)) pgs_nil))))
    (pss_cons (ps_set (i := 4) sc_l_times.nd rfl (Or.inl rfl) (pe_callTy call_tuple_of (by rfl) T.n_tuple (by decide +kernel) (pa_cons (pe_lc (own := [("_law_amount", 7)]) (g := gName 7) (tt := tYes) rfl sc_l_times.nd (pi_tup (pv 1)) (blkOk_by (own := [("_law_amount", 7)]) (N := N_l_times) (sc := defScope s_l_times) (by decide +kernel)) (fun _ _ _ _ _ => pg_name (i := 7) sc_l_times.nd rfl (Or.inl rfl)) (fun _ _ _ _ _ => pts_nil) (fun _ _ _ _ _ => (pe_op op_mulW (pv 7) (pv 3)))) pa_nil)))
    (pss_cons (ps_if (PW.pt (pw_or (pt_cmpR op_ne (pe_callB (call_reprQ gu ⟨_, hr⟩) (by rfl) T.n_repr (by decide +kernel) (pa_cons (pe_fld (pe_op (op_binQ M_mul S_first N_mul K_mul G_mul b_mul (hr.mono (by decide)) pass0) (pv 2) (pv 3)) rfl) pa_nil)) (pe_callB (call_reprQ gu ⟨_, hr⟩) (by rfl) T.n_repr (by decide +kernel) (pa_cons (pv 4) pa_nil)) (nomark _)) (pw_or1 (pt_cmpR (op_neD hr.units) (pe_fld (pv 2) rfl) (pv 1) (nomark _))))) (pss_one (ps_ret pe_bl)) pss_nil)
    (pss_cons (ps_set (i := 5) sc_l_times.nd rfl (Or.inl rfl) (pe_call G_l_one (hr.mono (by decide)) (by rfl) m_l_one k_l_one b_l_one .nil pass0 (pa_cons (pv 0) (pa_cons (pe_lstN (pa_cons pe_bl (pa_cons pe_bl (pa_cons (pe_un un_neg pe_int) (pa_cons pe_non (pa_cons pe_str (pa_cons (pe_tup (pa_cons pe_int pa_nil)) (pa_cons (pe_lstN (pa_cons pe_int pa_nil)) pa_nil)))))))) pa_nil))))
    (pss_cons (ps_try_names rfl rfl sc_l_times.nd
      (fun W pn xe tk _ => (pss_one (ps_expr (pe_binQS (K := K) M_mul S_first N_mul K_mul GX_mul b_mul (hr.mono (by decide)) (fun σ => passAt tk σ) (pv 2) (pv 5)))))
      (.cons (i := 6) ⟨rfl, by decide, .inl XNoNumber.g⟩ rfl rfl (fun a oe cls d pn hz hf => (pss_one (ps_ret (pe_and (pe_callB (call_isX hz hf) (by rfl) T.n_isinstance (by decide +kernel) (pa_cons (pv 6) (pa_cons (pe_glob (v := .ref cChangeError) rfl XC.gChangeError rfl) pa_nil))) (pe_one (pe_cmpR op_eq (pe_callB (show CallR _ (.builtin "repr") (rReprQ K) from call_reprU gu (un_mk hr)) (by rfl) T.n_repr (by decide +kernel) (pa_cons (pe_xf XNoNumber.xf XNoNumber.no hz hf (pv 6)) pa_nil)) (pe_callB (show CallR _ (.builtin "repr") (rReprQ K) from call_reprU gu (un_mk hr)) (by rfl) T.n_repr (by decide +kernel) (pa_cons (pv 5) pa_nil)) (nomark _)))))))
      .nil))
    (pss_one (ps_ret pe_bl))))))), ?_⟩
  refine ⟨_, rfl, new_purse R.ins hq k1 k4 (fun i hi => (nf i hi).1) fun p1 H1 s1 hp1 => ?_⟩
  have D1 := D.same s1
  refine ⟨_, rfl, _, _, rfl, rfl, ⟨by decide, by decide, by decide⟩, (by show 4 ≤ sizeLine; decide), fun L nL eL => ?_⟩
  have sL := same_upd (o := .lst [.int 0, .int 1, .int 2, .int (10 ^ Int.toNat 25)]) nL
  have lL := D1.lne nL
  refine ⟨p, l, L, n, _, rfl, D1.same sL, by omega, by omega, upd_same, lL.1, lL.2, (by show 0 < 4; decide), (by show 4 ≤ 1000; decide), fun y H3 hy f3 D3 => ?_⟩
  obtain ⟨m, rfl, m0, m1⟩ : ∃ m : Int, y = .int m ∧ 0 ≤ m ∧ m ≤ 10 ^ 25 := by
    simp only [List.mem_cons, List.not_mem_nil, or_false] at hy
    rcases hy with rfl | rfl | rfl | rfl
    · exact ⟨_, rfl, by decide, by decide⟩
    · exact ⟨_, rfl, by decide, by decide⟩
    · exact ⟨_, rfl, by decide, by decide⟩
    · exact ⟨_, rfl, by decide, by decide⟩
  have f13 := (Same.fr (p := p) (l := l) sL).trans f3
  have hp3 := hp1.fr f13 D1
  have hq3 := AmAt.fr (s1 _ _ hq : AmAt H1 q k f) f13 D1
  have f03 := (Same.fr (p := p) (l := l) s1).trans f13
  clear hy hp1 sL nL eL lL f3
  refine ⟨(by show 2 ≤ sizeLine; decide), fun tt ntt => ?_⟩
  have st := same_upd (o := .tup [.ref p1, .int m]) ntt
  refine ⟨tt, _, rfl, SqT.of upd_same, rfl, _, _, rfl, _, _, rfl, rfl, ?_⟩
  have hp4 := hp3.same st
  have hq4 : AmAt _ q k f := st _ _ hq3
  have D4 := D3.same st
  have f04 := f03.trans (Same.fr st)
  generalize upd H3 tt (.tup [.ref p1, .int m]) = H4 at hp4 hq4 D4 f04 ⊢
  clear hp3 hq3 st ntt f03
  have nb : ∀ i, i < k → 0 ≤ f i ∧ (f i).natAbs < 2 ^ 200 := fun i hi => ⟨(nf i hi).1, Nat.lt_of_lt_of_le (show (f i).natAbs < 10 ^ 32 by have := nf i hi; omega) (by decide)⟩
  have mb : m.natAbs < 2 ^ 200 := Nat.lt_of_lt_of_le (show m.natAbs < 10 ^ 32 by omega) (by decide)
  refine ⟨_, rfl, q, rfl, ⟨_, SqT.of hq4⟩, fun U nU => ?_⟩
  refine lc_mT (fun i => .int (f i * m)) hq4 nU (by rw [vlen]; omega) ?_ gName_mono ?_
  · intro i x H' hx s' R' hR
    have hi : i < k := by
      have := (List.getElem?_eq_some_iff.mp hx).1
      rwa [vlen] at this
    rw [vget hi] at hx
    have hx := (Option.some.inj hx).symm
    subst hx
    exact ⟨rfl, _, rfl, _, rfl, _, _, rfl, rfl, wide_mul (nb i hi).2 mb (by decide) (by decide) (by decide), hR H' (Same.refl _)⟩
  intro H5 s5 hU
  rw [vlen, rng_vec] at hU
  refine ⟨U, _, rfl, .inl ⟨SqL.of hU, fun r nr => ?_⟩⟩
  have sr := same_upd (o := .tup ((vec k fun i => f i * m).map V.int)) nr
  have hr6 : upd H5 r (.tup ((vec k fun i => f i * m).map V.int)) r = some (.tup ((vec k fun i => f i * m).map V.int)) := upd_same
  generalize upd H5 r (.tup ((vec k fun i => f i * m).map V.int)) = H6 at sr hr6 ⊢
  have s46 := s5.trans sr
  have hp6 := hp4.same s46
  obtain ⟨d1, t1, a1, b1⟩ := id hp6
  have ms := am_shown (f := fun i => f i * m) k4 (fun i hi => by
    have h1 := nf i hi
    have h2 : 0 ≤ f i * m := Int.mul_nonneg h1.1 m0
    have h3 : f i * m ≤ 10 ^ 31 * 10 ^ 25 := Int.mul_le_mul h1.2 m1 m0 (by decide)
    show -(10 ^ 60) ≤ f i * m ∧ f i * m ≤ 10 ^ 60
    have e : (10 : Int) ^ 31 * 10 ^ 25 = 10 ^ 56 := by decide
    rw [e] at h3
    generalize f i * m = z at h2 h3 ⊢
    omega)
  refine ⟨_, rfl, _, rfl, p1, d1, _, .int m, rfl, a1, .int m, p1, k, f, m, rfl, hp6, k1, k4, nb, m0, mb, fun H7 p7 s7 hp7 => ?_⟩
  obtain ⟨d7, t7, a7, b7⟩ := id hp7
  refine ⟨p7, cPurse, d7, _, _, rfl, a7, R.ins.cl, R.na, rfl, _, _, rfl, dq_ints b7, ms.1, ms.2.1, ms.2.2, ?_⟩
  refine ⟨_, rfl, _, _, rfl, dq_ints (s7 _ _ hr6), ms.1, ms.2.1, ms.2.2, rfl, _, rfl, iteNP rfl ?_⟩
  have s47 := s46.trans s7
  refine ⟨_, rfl, p1, cPurse, d1, _, _, rfl, s7 _ _ a1, R.ins.cl, R.na, rfl, _, rfl, _, _, dp_tup (s7 _ _ b1), dp_tup (s47 _ _ hq4), tup_shaped _, tup_shaped _, ?_⟩
  rw [eqv_selfT]
  refine ⟨_, rfl, iteF ?_⟩
  have D7 := D4.same s47
  have hp7' := hp6.same s7
  have f07 := f04.trans (Same.fr s47)
  clear hp7 a7 b7 hr6 sr nr hU s5 nU s46 hp6 a1 b1 ms hp4 s47 s7
  -- what is no number
  refine ⟨_, rfl, _, rfl, (by show 1 ≤ sizeLine; decide), fun o1 no1 => ⟨(by show 1 ≤ sizeLine; decide), fun o2 no2 eo2 => ⟨(by show 7 ≤ sizeLine; decide), fun L nL eL => ?_⟩⟩⟩
  have w1 := same_upd (o := .tup [.int 2]) no1
  have w2 := same_upd (o := .lst [.int 2]) no2
  have w3 := same_upd (o := .lst [.bl true, .bl false, .int (-1), .non, .str "2", .ref o1, .ref o2]) nL
  have ww := w1.trans (w2.trans w3)
  have lL := (D7.same (w1.trans w2)).lne nL
  have h1 := (w2.trans w3) _ _ (upd_same (H := H7) (a := o1) (o := .tup [.int 2]))
  have h2 := w3 _ _ (upd_same (H := upd H7 o1 (.tup [.int 2])) (a := o2) (o := .lst [.int 2]))
  have no2' : H7 o2 = none := Same.free w1 no2
  refine ⟨p, l, L, n + 1, _, rfl, D7.same ww, by omega, by omega, upd_same, lL.1, lL.2, (by show 0 < 7; decide), (by show 7 ≤ 1000; decide), fun y H8 hy f8 D8 => ?_⟩
  have p1' := f8 _ _ (D7.lne no1).1 (D7.lne no1).2 h1
  have p2' := f8 _ _ (D7.lne no2').1 (D7.lne no2').2 h2
  obtain ⟨dy, hdy, am, sh, ni⟩ : ∃ dy, Dq K H8 y dy ∧ amB dy = false ∧ (PyData.showable dy = true ∧ dy.depth ≤ 60 ∧ dy.shown.length ≤ sizeLine) ∧ ∀ m : Int, dy = .int m → m.natAbs < 2 ^ 200 := by
    simp only [List.mem_cons, List.not_mem_nil, or_false] at hy
    rcases hy with rfl | rfl | rfl | rfl | rfl | rfl | rfl
    · exact ⟨_, .bl true, rfl, ⟨by decide +kernel, by decide +kernel, by decide +kernel⟩, fun m e => by cases e⟩
    · exact ⟨_, .bl false, rfl, ⟨by decide +kernel, by decide +kernel, by decide +kernel⟩, fun m e => by cases e⟩
    · exact ⟨_, .int (-1), rfl, ⟨by decide +kernel, by decide +kernel, by decide +kernel⟩, fun m e => by cases e; decide⟩
    · exact ⟨_, .non, rfl, ⟨by decide +kernel, by decide +kernel, by decide +kernel⟩, fun m e => by cases e⟩
    · exact ⟨_, .str _, rfl, ⟨by decide +kernel, by decide +kernel, by decide +kernel⟩, fun m e => by cases e⟩
    · exact ⟨_, .tup p1' (.cons (.int 2) .nil), rfl, ⟨by decide +kernel, by decide +kernel, by decide +kernel⟩, fun m e => by cases e⟩
    · exact ⟨_, .lst p2' eo2 (.cons (.int 2) .nil), rfl, ⟨by decide +kernel, by decide +kernel, by decide +kernel⟩, fun m e => by cases e⟩
  have f78 := (Same.fr (p := p) (l := l) ww).trans f8
  have hp8 := hp7'.fr f78 D7
  have f08 := f07.trans f78
  obtain ⟨d8, t8, a8, b8⟩ := id hp8
  clear hy h1 h2 p1' p2' w1 w2 w3 ww nL no1 no2 no2' lL f8 f78
  refine ⟨_, rfl, _, rfl, p1, d8, _, dy, rfl, a8, hdy, p1, k, f, y, dy, rfl, hp8, k1, k4, nb, hdy, fun _ H' x s' hx => ?_, fun m e m0' _ => ?_, ni⟩
  · refine ⟨true, XNoNumber.te, fun _ ea nea => ?_, fun z => nomatch z⟩
    refine ⟨_, rfl, cM, _, _, rfl, rfl, hx, XNoNumber.ec, .inl ⟨_, _, true, rfl, .own _, kCE, _, rfl, iteT ?_⟩⟩
    refine ⟨_, rfl, rfl, rfl, x, _, y, rfl, hx, rfl, y, dy, rfl, hdy.same s', sh.1, sh.2.1, sh.2.2, ?_⟩
    refine ⟨_, rfl, y, dy, rfl, hdy.same s', sh.1, sh.2.1, sh.2.2, rfl, ?_⟩
    rw [decide_eq_true rfl]
    exact kk H' _ (f08.trans (Same.fr s')) (D8.same s') (by omega) (by omega)
  · subst e
    have : decide (0 ≤ m) = false := am
    exact absurd m0' (of_decide_eq_false this)
end
end Sm

set_option Elab.async false
set_option linter.all false
set_option maxRecDepth 100000
set_option maxHeartbeats 16000000
namespace Sm
open PySem PySem.Spec PyProof.Rows L2
open C8 (pss_cut tCut)
def sp_l_offers (_ : PySem.W.Frag) : Sp := fun vs H Q _ => ∃ (p l q : Addr) (n : Int) (k : Nat) (f : Nat → Int), vs = [.ref p, .ref q] ∧ Deck H p l n ∧ 0 ≤ n ∧ n ≤ 800000 ∧ AmAt H q k f ∧ 1 ≤ k ∧ k ≤ 4 ∧ (∀ i, i < k → 0 ≤ f i ∧ f i ≤ 10 ^ 31) ∧ ∀ H' n', Fr p l H H' → Deck H' p l n' → n ≤ n' → n' ≤ n + 100 → Q (.bl true) H'
theorem chain_cc {lo hi i : Int} {j : Nat} {σ : L2.St} {H : Hp} {Q : VK} (h0 : σ[j]? = some (some (.int i))) (h : Q (.bl (decide (lo ≤ i) && decide (i ≤ hi))) H) :
    tChain (rI0 fun i j => V.bl (decide (i ≤ j))) (rI0 fun i j => V.bl (decide (i ≤ j))) (tC (.int lo)) (tVar j) (tC (.int hi)) σ H Q := by
  refine ⟨_, h0, _, _, rfl, rfl, _, rfl, ?_⟩
  by_cases c : lo ≤ i
  · rw [decide_eq_true c] at h ⊢
    exact iteT ⟨_, _, rfl, rfl, h⟩
  · rw [decide_eq_false c] at h ⊢
    exact iteF h
/-- what the law takes for an offer that can be used -/
def due1 (k : Nat) (a x b y : Int) : Bool := decide (a < (k : Int)) && (decide (b < (k : Int)) && ((!decide (V.int a = V.int b)) && ((decide (1 ≤ x) && decide (x ≤ 30)) && decide (y ≤ 30))))
def due2 (k : Nat) (f : Nat → Int) (a x b y : Int) : Bool := due1 k a x b y && decide (x ≤ f (a % (k : Int)).toNat)
theorem due_off {k : Nat} {f : Nat → Int} {a x b y : Int} (a0 : 0 ≤ a) (b0 : 0 ≤ b) (y0 : 0 ≤ y) : offAt k f (.tuple [.int a, .int x, .int b, .int y]) = due2 k f a x b y := by
  show (((decide (0 ≤ a) && decide (a ≤ (k : Int) - 1)) && ((decide (0 ≤ b) && decide (b ≤ (k : Int) - 1)) && ((!decide (V.int a = V.int b)) && ((decide (1 ≤ x) && decide (x ≤ 30)) && (decide (0 ≤ y) && decide (y ≤ 30)))))) && decide (x ≤ f a.toNat)) = ((decide (a < (k : Int)) && (decide (b < (k : Int)) && ((!decide (V.int a = V.int b)) && ((decide (1 ≤ x) && decide (x ≤ 30)) && decide (y ≤ 30))))) && decide (x ≤ f (a % (k : Int)).toNat))
  rw [decide_eq_true a0, decide_eq_true b0, decide_eq_true y0, Bool.true_and, Bool.true_and, Bool.true_and, decide_eq_decide.mpr (show a ≤ (k : Int) - 1 ↔ a < (k : Int) by omega), decide_eq_decide.mpr (show b ≤ (k : Int) - 1 ↔ b < (k : Int) by omega)]
  by_cases c : a < (k : Int)
  · rw [Int.emod_eq_of_lt a0 c]
  · rw [decide_eq_false c]
    rfl
theorem off_t16 {k : Nat} {f : Nat → Int} {d : PyData} (h : t16 d = true) : offAt k f d = false := by
  refine offAt_no ?_
  cases d with
  | tuple ds => exact offB_len (by have := of_decide_eq_true (show decide (ds.length ≤ 3) = true from h); omega)
  | _ => rfl
section
variable {P : Program} {w : World} {K : PySem.W.Frag} {mg : Str → Option Value} {base : Heap} {cPurse fPi fAdd fSub fMul fIn fCov : Addr}
abbrev s_l_offers : Stmt := topS 29
abbrev N_l_offers : List Str := ["_law_deck_here", "_law_mine", "_law_one_here", "_law_kinds", "_law_turn", "_law_a", "_law_b", "_law_x", "_law_y", "_law_due"]
theorem sc_l_offers : FnScope N_l_offers ["_law_deck_here", "_law_mine"] (defScope s_l_offers) := ⟨rfl, rfl, rfl, by decide +kernel, rfl, by decide +kernel, by decide +kernel⟩
theorem ok_l_offers {f : Addr} {fd fd1 fdI : FuncData} (T : Txt mg) (R : TxP K mg cPurse fPi fAdd fSub fMul fIn fCov) (G_Purse_init : FnOk P w K mg base CX0 3 fPi fd1 ["self", "amounts"] (sp_Pinit K cPurse)) (b_Purse_init : Binds K fd1 ["self", "amounts"] [])
    (G_in : FnOk P w K mg base CX0 4 fIn fdI ["self", "x"] (sp_Pin K cPurse)) (G_inO : FnOk P w K mg base CX0 4 fIn fdI ["self", "x"] (sp_PinO cPurse)) (b_in : Binds K fdI ["self", "x"] [])
    (C_l_odd : Cal P w K mg base "_law_odd" ["_law_deck_here"] 3 (sp_l_odd K)) (C_l_one : Cal P w K mg base "_law_one" ["_law_deck_here", "_law_items"] 2 (sp_l_one K)) (C_l_draw : Cal P w K mg base "_law_draw" ["_law_deck_here", "_law_many"] 1 (sp_l_draw K))
    (F : Fun K "_law_offers" "_law_offers" s_l_offers f fd) : FnG P w K mg base 7 f fd ["_law_deck_here", "_law_mine"] (sp_l_offers K) := by
  obtain ⟨f_l_odd, fd_l_odd, G_l_odd, m_l_odd, k_l_odd, b_l_odd⟩ := C_l_odd
  obtain ⟨f_l_one, fd_l_one, G_l_one, m_l_one, k_l_one, b_l_one⟩ := C_l_one
  obtain ⟨f_l_draw, fd_l_draw, G_l_draw, m_l_draw, k_l_draw, b_l_draw⟩ := C_l_draw
  have g_Purse := R.g
  have Mk_Purse := R.mak
  have M_in := R.mIn
  refine FnG.body F sc_l_offers (fun vs H Q E h => ?_) (fun cdv A outer s H vs Q E gu hr h => ?_)
  · obtain ⟨p, l, q, n, k, f, rfl, _⟩ := h
    rfl
  obtain ⟨p, l, q, n, k, f, rfl, D, n0, n1, hq, k1, k4, nf, kk⟩ := h
  refine ⟨_, (pss_cons (ps_par (i := 2) (j := 3) (by rfl) sc_l_offers.nd rfl rfl (by decide) rfl rfl (pa_cons (pe_make Mk_Purse G_Purse_init (hr.mono (by decide)) (by rfl) g_Purse b_Purse_init .nil pass0 (pa_cons (pv 1) pa_nil)) (pa_cons (pe_callB call_len_seq (by rfl) T.n_len (by decide +kernel) (pa_cons (pv 1) pa_nil)) pa_nil)) (by rfl))
    (pss_cons (ps_for PassesOwn.never rfl (pi_range1 (by rfl) T.n_range (pa_cons pe_int pa_nil)) (pg_name (i := 4) sc_l_offers.nd rfl (Or.inl rfl))
      (pss_cons (ps_par (i := 5) (j := 6) (by rfl) sc_l_offers.nd rfl rfl (by decide) rfl rfl (pa_cons (pe_call G_l_draw (hr.mono (by decide)) (by rfl) m_l_draw k_l_draw b_l_draw .nil pass0 (pa_cons (pv 0) (pa_cons pe_int pa_nil))) (pa_cons (pe_call G_l_draw (hr.mono (by decide)) (by rfl) m_l_draw k_l_draw b_l_draw .nil pass0 (pa_cons (pv 0) (pa_cons pe_int pa_nil))) pa_nil)) (by rfl))
    (pss_cons (ps_set (i := 7) sc_l_offers.nd rfl (Or.inl rfl) (pe_call G_l_one (hr.mono (by decide)) (by rfl) m_l_one k_l_one b_l_one .nil pass0 (pa_cons (pv 0) (pa_cons (pe_lstN (pa_cons pe_int (pa_cons pe_int (pa_cons pe_int (pa_cons pe_int (pa_cons (pe_callB (call_max2 rfl) (by rfl) T.n_max (by decide +kernel) (pa_cons pe_int (pa_cons (pe_op op_sub (pe_op op_add (pe_ix ix_tup (pv 1) (pe_op op_modN (pe_callTy call_int1 (by rfl) T.n_int (by decide +kernel) (pa_cons (pv 5) pa_nil)) (pv 3)) (fun _ _ => rfl)) (pe_call G_l_draw (hr.mono (by decide)) (by rfl) m_l_draw k_l_draw b_l_draw .nil pass0 (pa_cons (pv 0) (pa_cons pe_int pa_nil)))) pe_int) pa_nil))) pa_nil)))))) pa_nil))))
    (pss_cons (ps_set (i := 8) sc_l_offers.nd rfl (Or.inl rfl) (pe_call G_l_one (hr.mono (by decide)) (by rfl) m_l_one k_l_one b_l_one .nil pass0 (pa_cons (pv 0) (pa_cons (pe_lstN (pa_cons pe_int (pa_cons pe_int (pa_cons pe_int (pa_cons pe_int pa_nil))))) pa_nil))))
    (pss_cut (ps_set (i := 9) sc_l_offers.nd rfl (Or.inl rfl) (pe_and (pe_cmpR op_lt (pv 5) (pv 3) (nomark _)) (pe_and (pe_cmpR op_lt (pv 6) (pv 3) (nomark _)) (pe_and (pe_cmpR op_ne (pv 5) (pv 6) (nomark _)) (pe_and (pe_chain op_le op_le pe_int (pv 7) pe_int) (pe_one (pe_cmpR op_le (pv 8) pe_int (nomark _))))))))
    (pss_cut (ps_set (i := 9) sc_l_offers.nd rfl (Or.inl rfl) (pe_and (pv 9) (pe_one (pe_cmpR op_ge (pe_ix ix_tup (pv 1) (pe_op op_modN (pe_callTy call_int1 (by rfl) T.n_int (by decide +kernel) (pa_cons (pv 5) pa_nil)) (pv 3)) (fun _ _ => rfl)) (pv 7) (nomark _)))))
    (pss_cons (ps_if (PW.pt (pw_or (pt_cmpR op_ne (pe_callB (call_reprQ gu ⟨_, hr⟩) (by rfl) T.n_repr (by decide +kernel) (pa_cons (pe_cmpR (op_inO M_in G_in b_in (hr.mono (by decide)) pass0) (pe_tup (pa_cons (pv 5) (pa_cons (pv 7) (pa_cons (pv 6) (pa_cons (pv 8) pa_nil))))) (pv 2) (by rfl)) pa_nil)) (pe_callB (call_reprQ gu ⟨_, hr⟩) (by rfl) T.n_repr (by decide +kernel) (pa_cons (pv 9) pa_nil)) (nomark _)) (pw_or1 (pt_cmpR op_notBl (pe_cmpR (op_inO M_in G_in b_in (hr.mono (by decide)) pass0) (pe_lstN (pa_cons (pv 5) (pa_cons (pv 7) (pa_cons (pv 6) (pa_cons (pv 8) pa_nil))))) (pv 2) (by rfl)) pe_bl (nomark _))))) (pss_one (ps_ret pe_bl)) pss_nil)
    (pss_cons (ps_if (pt_cmpR op_notBl (pe_cmpR (op_inO M_in G_in b_in (hr.mono (by decide)) pass0) (pe_tup (pa_cons (pv 5) (pa_cons (pv 7) (pa_cons (pv 6) pa_nil)))) (pv 2) (by rfl)) pe_bl (nomark _)) (pss_one (ps_ret pe_bl)) pss_nil)
    (pss_one (ps_if (PW.pt (pw_or (pt_cmpR op_notBl (pe_cmpR (op_inO M_in G_in b_in (hr.mono (by decide)) pass0) (pe_tup (pa_cons (pv 5) (pa_cons (pv 7) (pa_cons (pv 6) (pa_cons pe_bl pa_nil))))) (pv 2) (by rfl)) pe_bl (nomark _)) (pw_or1 (pt_cmpR op_notBl (pe_cmpR (op_inO M_in G_in b_in (hr.mono (by decide)) pass0) (pe_tup (pa_cons (pv 5) (pa_cons (pv 7) (pa_cons (pv 6) (pa_cons (pv 8) (pa_cons pe_int pa_nil)))))) (pv 2) (by rfl)) pe_bl (nomark _))))) (pss_one (ps_ret pe_bl)) pss_nil))))))))))
    (pss_one (ps_ret (pe_and (pe_cmpR op_isBl (pe_cmpR (op_inO M_in G_in b_in (hr.mono (by decide)) pass0) (pe_call G_l_odd (hr.mono (by decide)) (by rfl) m_l_odd k_l_odd b_l_odd .nil pass0 (pa_cons (pv 0) pa_nil)) (pv 2) (by rfl)) pe_bl (nomark _)) (pe_one (pe_cmpR op_isBl (pe_cmpR (op_inO M_in G_inO b_in (hr.mono (by decide)) pass0) (pv 2) (pv 2) (by rfl)) pe_bl (nomark _)))))))), ?_⟩
  refine ⟨_, rfl, new_purse R.ins hq k1 k4 (fun i hi => (nf i hi).1) fun p1 H1 s1 hp1 => ?_⟩
  have D1 := D.same s1
  have hq1 : AmAt H1 q k f := s1 _ _ hq
  refine ⟨_, rfl, q, _, rfl, .inr (SqT.of hq1), _, _, rfl, ?_⟩
  rw [vlen]
  refine ⟨8, rfl, by decide, by decide, ?_⟩
  refine for_range (lo := 0) (n := 8) (fun j σ H' => ∃ (n' : Int) (v4 v5 v6 v7 v8 v9 : Option V), σ = [some (.ref p), some (.ref q), some (.ref p1), some (.int (k : Int)), v4, v5, v6, v7, v8, v9] ∧ Fr p l H1 H' ∧ Deck H' p l n' ∧ n ≤ n' ∧ n' ≤ n + 6 * (j : Int)) ⟨n, _, _, _, _, _, _, rfl, Same.fr (Same.refl _), D1, by omega, by omega⟩ ?_ ?_
  · rintro j σ H2 hj ⟨n', v4, v5, v6, v7, v8, v9, rfl, f2, D2, m0, m1⟩
    have hj : j < 8 := hj
    refine ⟨_, rfl, p, l, n', 4, rfl, D2, by omega, by omega, by omega, by omega, fun a H3 a0 a1 f3 D3 => ?_⟩
    refine ⟨_, rfl, p, l, n' + 1, 4, rfl, D3, by omega, by omega, by omega, by omega, fun b H4 b0 b1 f4 D4 => ⟨_, _, rfl, ?_⟩⟩
    have f14 := f2.trans (f3.trans f4)
    have hq4 := hq1.fr f14 D1
    have fm : a.fmod (k : Int) = a % (k : Int) := fmod_pos (by omega)
    have am0 : 0 ≤ a % (k : Int) := Int.emod_nonneg _ (by omega)
    have am1 : a % (k : Int) < (k : Int) := Int.emod_lt_of_pos _ (by omega)
    have jk : (a % (k : Int)).toNat < k := by omega
    refine ⟨_, rfl, _, rfl, _, rfl, .inl ⟨_, rfl, _, rfl, _, _, rfl, rfl, (show (k : Int) ≠ 0 by omega), _, _, _, _, rfl, rfl, SqT.of hq4, at_of (j := (a % (k : Int)).toNat) (by rw [fm]; omega) (vget jk), ?_⟩⟩
    refine ⟨_, rfl, p, l, n' + 1 + 1, 3, rfl, D4, by omega, by omega, by omega, by omega, fun c H5 c0 c1 f5 D5 => ?_⟩
    refine ⟨_, _, rfl, rfl, _, _, rfl, rfl, _, _, rfl, (by show 5 ≤ sizeLine; decide), fun L nL eL => ?_⟩
    obtain ⟨z, ez⟩ : ∃ z : Int, z = (if f (a % (k : Int)).toNat + c - 1 > 0 then f (a % (k : Int)).toNat + c - 1 else 0) := ⟨_, rfl⟩
    have zb : 0 ≤ z ∧ z ≤ 10 ^ 32 := by
      have := nf _ jk
      have c1 : c < 3 := c1
      rw [ez]
      split <;> omega
    have sL := same_upd (o := .lst [.int 1, .int 30, .int 31, .int 0, .int z]) nL
    have lL := D5.lne nL
    refine ⟨p, l, L, n' + 1 + 1 + 1, [.int 1, .int 30, .int 31, .int 0, .int z], rfl, ?_, by omega, by omega, ?_, lL.1, lL.2, (by show 0 < 5; decide), (by show 5 ≤ 1000; decide), ?_⟩
    · rw [← ez]
      exact D5.same sL
    · rw [← ez]
      exact upd_same
    rw [← ez]
    intro xv H6 hx f6 D6
    obtain ⟨x, rfl, x0, x1⟩ : ∃ x : Int, xv = .int x ∧ 0 ≤ x ∧ x ≤ 10 ^ 32 := by
      simp only [List.mem_cons, List.not_mem_nil, or_false] at hx
      rcases hx with rfl | rfl | rfl | rfl | rfl
      · exact ⟨_, rfl, by decide, by decide⟩
      · exact ⟨_, rfl, by decide, by decide⟩
      · exact ⟨_, rfl, by decide, by decide⟩
      · exact ⟨_, rfl, by decide, by decide⟩
      · exact ⟨_, rfl, zb.1, zb.2⟩
    have f16 := f14.trans (f5.trans ((Same.fr sL).trans f6))
    clear hx sL lL nL eL ez zb f6 hq4 f14
    refine ⟨_, rfl, (by show 4 ≤ sizeLine; decide), fun L nL eL => ?_⟩
    have sL := same_upd (o := .lst [.int 0, .int 30, .int 31, .int 5]) nL
    have lL := D6.lne nL
    refine ⟨p, l, L, n' + 1 + 1 + 1 + 1, _, rfl, D6.same sL, by omega, by omega, upd_same, lL.1, lL.2, (by show 0 < 4; decide), (by show 4 ≤ 1000; decide), fun yv H7 hy f7 D7 => ?_⟩
    obtain ⟨y, rfl, y0, y1⟩ : ∃ y : Int, yv = .int y ∧ 0 ≤ y ∧ y ≤ 31 := by
      simp only [List.mem_cons, List.not_mem_nil, or_false] at hy
      rcases hy with rfl | rfl | rfl | rfl
      · exact ⟨_, rfl, by decide, by decide⟩
      · exact ⟨_, rfl, by decide, by decide⟩
      · exact ⟨_, rfl, by decide, by decide⟩
      · exact ⟨_, rfl, by decide, by decide⟩
    have f17 := f16.trans ((Same.fr sL).trans f7)
    clear hy sL lL nL eL f7 f16
    have hq7 := hq1.fr f17 D1
    have hp7 := hp1.fr f17 D1
    obtain ⟨d7, t7, a7, b7⟩ := id hp7
    refine ⟨fun σ H' => H' = H7 ∧ σ = [some (.ref p), some (.ref q), some (.ref p1), some (.int (k : Int)), some (.int (0 + (j : Int))), some (.int a), some (.int b), some (.int x), some (.int y), some (.bl (due1 k a x b y))], ?_, ?_⟩
    · refine ⟨_, rfl, _, rfl, _, _, rfl, rfl, _, rfl, ?_⟩
      have cl : ∀ {v : Bool}, due1 k a x b y = v → H7 = H7 ∧ (List.set [some (.ref p), some (.ref q), some (.ref p1), some (.int (k : Int)), some (.int (0 + (j : Int))), some (.int a), some (.int b), some (.int x), some (.int y), v9] 9 (some (V.bl v))) = [some (.ref p), some (.ref q), some (.ref p1), some (.int (k : Int)), some (.int (0 + (j : Int))), some (.int a), some (.int b), some (.int x), some (.int y), some (.bl (due1 k a x b y))] := fun {v} e => ⟨rfl, by rw [e]; rfl⟩
      by_cases e1 : a < (k : Int)
      · refine iteP e1 ⟨_, rfl, _, rfl, _, _, rfl, rfl, _, rfl, ?_⟩
        by_cases e2 : b < (k : Int)
        · refine iteP e2 ⟨_, rfl, _, rfl, rfl, _, rfl, ?_⟩
          by_cases e3 : V.int a = V.int b
          · exact iteNP e3 (cl (by unfold due1; rw [decide_eq_true e1, decide_eq_true e2, decide_eq_true e3]; rfl))
          · refine iteNN e3 (chain_cc rfl ⟨_, rfl, ?_⟩)
            cases e4 : decide (1 ≤ x) && decide (x ≤ 30) with
            | true =>
              exact iteT ⟨_, rfl, _, _, rfl, rfl, cl (by unfold due1; rw [decide_eq_true e1, decide_eq_true e2, decide_eq_false e3, e4]; rfl)⟩
            | false =>
              exact iteF (cl (by unfold due1; rw [decide_eq_true e1, decide_eq_true e2, decide_eq_false e3, e4]; rfl))
        · exact iteN e2 (cl (by unfold due1; rw [decide_eq_true e1, decide_eq_false e2]; rfl))
      · exact iteN e1 (cl (by unfold due1; rw [decide_eq_false e1]; rfl))
    · rintro σ H' ⟨eh, es⟩
      subst eh es
      refine ⟨fun σ H2 => H2 = H' ∧ σ = [some (.ref p), some (.ref q), some (.ref p1), some (.int (k : Int)), some (.int (0 + (j : Int))), some (.int a), some (.int b), some (.int x), some (.int y), some (.bl (due2 k f a x b y))], ?_, ?_⟩
      · refine ⟨_, rfl, _, rfl, ?_⟩
        cases e : due1 k a x b y with
        | true =>
          refine iteT ⟨_, rfl, _, rfl, .inl ⟨_, rfl, _, rfl, _, _, rfl, rfl, (show (k : Int) ≠ 0 by omega), _, _, _, _, rfl, rfl, SqT.of hq7, at_of (j := (a % (k : Int)).toNat) (by rw [fm]; omega) (vget jk), _, rfl, _, _, rfl, rfl, ?_⟩⟩
          have : due2 k f a x b y = decide (x ≤ f (a % (k : Int)).toNat) := by unfold due2; rw [e]; rfl
          rw [this]
          exact ⟨rfl, rfl⟩
        | false =>
          have : due2 k f a x b y = false := by unfold due2; rw [e]; rfl
          rw [this]
          exact iteF ⟨rfl, rfl⟩
      · rintro σ H2 ⟨eh, es⟩
        subst eh es
        -- as it is told
        have db := bl_shown (due2 k f a x b y)
        refine ⟨_, rfl, _, rfl, _, rfl, _, rfl, (by show 4 ≤ sizeLine; decide), fun u1 nu1 => ?_⟩
        have w1 := same_upd (o := .tup [.int a, .int x, .int b, .int y]) nu1
        refine ⟨_, rfl, p1, d7, _, rfl, w1 _ _ a7, p1, k, f, _, .tuple [.int a, .int x, .int b, .int y], rfl, hp7.same w1, .tup upd_same (.cons (.int _) (.cons (.int _) (.cons (.int _) (.cons (.int _) .nil)))), _, rfl, ?_⟩
        rw [due_off a0 b0 y0]
        refine ⟨_, .bool (due2 k f a x b y), rfl, .bl _, db.1, db.2.1, db.2.2, _, rfl, _, _, rfl, .bl _, db.1, db.2.1, db.2.2, rfl, _, rfl, iteNP rfl ?_⟩
        refine ⟨_, rfl, _, rfl, _, rfl, _, rfl, (by show 4 ≤ sizeLine; decide), fun u2 nu2 eu2 => ?_⟩
        have w2 := same_upd (o := .lst [.int a, .int x, .int b, .int y]) nu2
        have s2 := w1.trans w2
        refine ⟨_, rfl, p1, d7, _, rfl, s2 _ _ a7, p1, k, f, _, .list [.int a, .int x, .int b, .int y], rfl, hp7.same s2, .lst upd_same eu2 (.cons (.int _) (.cons (.int _) (.cons (.int _) (.cons (.int _) .nil)))), _, rfl, ?_⟩
        refine ⟨_, _, rfl, rfl, _, rfl, iteNP rfl ?_⟩
        refine ⟨_, rfl, _, rfl, _, rfl, (by show 3 ≤ sizeLine; decide), fun u3 nu3 => ?_⟩
        have w3 := same_upd (o := .tup [.int a, .int x, .int b]) nu3
        have s3 := s2.trans w3
        refine ⟨_, rfl, p1, d7, _, rfl, s3 _ _ a7, p1, k, f, _, .tuple [.int a, .int x, .int b], rfl, hp7.same s3, .tup upd_same (.cons (.int _) (.cons (.int _) (.cons (.int _) .nil))), _, rfl, ?_⟩
        refine ⟨_, _, rfl, rfl, _, rfl, iteNP rfl ?_⟩
        refine ⟨_, rfl, _, rfl, _, rfl, (by show 4 ≤ sizeLine; decide), fun u4 nu4 => ?_⟩
        have w4 := same_upd (o := .tup [.int a, .int x, .int b, .bl true]) nu4
        have s4 := s3.trans w4
        refine ⟨_, rfl, p1, d7, _, rfl, s4 _ _ a7, p1, k, f, _, .tuple [.int a, .int x, .int b, .bool true], rfl, hp7.same s4, .tup upd_same (.cons (.int _) (.cons (.int _) (.cons (.int _) (.cons (.bl true) .nil)))), _, rfl, ?_⟩
        have z4 : offAt k f (.tuple [.int a, .int x, .int b, .bool true]) = false := offAt_no (by
          show (_ && (_ && (_ && (_ && false)))) = false
          rw [Bool.and_false, Bool.and_false, Bool.and_false, Bool.and_false])
        rw [z4]
        refine ⟨_, _, rfl, rfl, _, rfl, iteNP rfl ?_⟩
        refine ⟨_, rfl, _, rfl, _, rfl, _, rfl, (by show 5 ≤ sizeLine; decide), fun u5 nu5 => ?_⟩
        have w5 := same_upd (o := .tup [.int a, .int x, .int b, .int y, .int 0]) nu5
        have s5 := s4.trans w5
        refine ⟨_, rfl, p1, d7, _, rfl, s5 _ _ a7, p1, k, f, _, .tuple [.int a, .int x, .int b, .int y, .int 0], rfl, hp7.same s5, .tup upd_same (.cons (.int _) (.cons (.int _) (.cons (.int _) (.cons (.int _) (.cons (.int _) .nil))))), _, rfl, ?_⟩
        refine ⟨_, _, rfl, rfl, _, rfl, iteNP rfl ?_⟩
        exact ⟨n' + 1 + 1 + 1 + 1 + 1, _, _, _, _, _, _, rfl, f17.trans (Same.fr s5), D7.same s5, by omega, by omega⟩
  · rintro σ H2 ⟨n', v4, v5, v6, v7, v8, v9, rfl, f2, D2, m0, m1⟩
    have hp2 := hp1.fr f2 D1
    refine ⟨_, rfl, p, l, n', rfl, D2, by omega, by omega, fun H3 xv dx f3 D3 hx sm tx => ?_⟩
    have hp3 := hp2.fr f3 D2
    obtain ⟨d3, t3, a3, b3⟩ := id hp3
    refine ⟨_, rfl, p1, d3, _, rfl, a3, p1, k, f, xv, dx, rfl, hp3, hx H3 fun _ _ _ e => e, _, rfl, ?_⟩
    rw [off_t16 tx]
    refine ⟨_, _, rfl, rfl, ?_⟩
    refine ⟨_, rfl, iteT ?_⟩
    refine ⟨_, rfl, _, rfl, p1, d3, _, rfl, a3, p1, p1, d3, k, f, _, rfl, hp3, a3, _, rfl, ?_⟩
    refine ⟨_, _, rfl, rfl, ?_⟩
    exact kk H3 _ ((Same.fr s1).trans (f2.trans f3)) D3 (by omega) (by omega)
end
end Sm

set_option Elab.async false
set_option linter.all false
set_option maxRecDepth 100000
set_option maxHeartbeats 16000000
namespace Sm
open PySem PySem.Spec PyProof.Rows L2 LamX
open C8 (pss_cut tCut)
abbrev lamP : Arguments := { posonlyargs := [], args := [], vararg := none, kwonlyargs := [], kw_defaults := [], kwarg := none, defaults := [] }
abbrev s_l_other_kinds : Stmt := topS 25
abbrev N_l_other_kinds : List Str := ["_law_call", "error"]
theorem sc_l_other_kinds : FnScope N_l_other_kinds ["_law_call"] (defScope s_l_other_kinds) := ⟨rfl, rfl, rfl, by decide +kernel, rfl, by decide +kernel, by decide +kernel⟩
theorem other_gives {X : Cx} {q : Str} {cO cChangeError : Addr} (T : Txt X.mg) (XO : XPl X.K X.mg "OtherKinds" cO) (gCE : X.mg "ChangeError" = some (.ref cChangeError)) (kCE : PySem.W.kitOne X.K (.ref cO) (.ref cChangeError) = some true) :
    ∃ (ts : Addr → Value → Option Addr → TS) (tr : TS), (∀ (g : Addr) (cdg : Value), GivesTo X N_l_other_kinds "_law_other_kinds" (defScope s_l_other_kinds) g cdg (defBody s_l_other_kinds) "_law_call" q (TAx X.K cO N_l_other_kinds 1 ts tr)) ∧
      ∀ (c : Addr) (D : Ends) (σ : L2.St) (H : Hp), σ.length = 2 → D.rt (.bl true) H → ts c (.ref cO) none D (σ.set 1 (some (.ref c))) H := by
  refine ⟨_, _, fun g cdg => act_gives (by rfl) XO.g (by decide) (fun f => rfl) sc_l_other_kinds.nd rfl (fun s H => by rfl) (fun s H a oe cls d pn hz hf => pss_one (ps_ret (pe_callB (show CallR _ (.builtin "isinstance") (rIsX0 X.K cls d a) from call_isX0 hz hf) (by rfl) T.n_isinstance (by decide +kernel) (pa_cons (pv 1) (pa_cons (pe_glob (v := .ref cChangeError) rfl gCE rfl) pa_nil))))) (fun s H => pss_one (ps_ret pe_bl)), ?_⟩
  intro c D σ H len kk
  obtain ⟨x0, x1, rfl⟩ : ∃ x0 x1, σ = [x0, x1] := by
    match σ, len with
    | [x0, x1], _ => exact ⟨x0, x1, rfl⟩
  exact ⟨_, rfl, cO, _, _, true, rfl, rfl, XO.ec, rfl, .own _, kCE, kk⟩
theorem extTup {H H' : Hp} (e : ExtN H H') {b : Addr} {xs : List V} (h : H b = some (.tup xs)) : H' b = some (.tup xs) := e _ _ h fun ps z => by cases z
theorem extLst {H H' : Hp} (e : ExtN H H') {b : Addr} {xs : List V} (h : H b = some (.lst xs)) : H' b = some (.lst xs) := e _ _ h fun ps z => by cases z
theorem PurseAt.ext {cPurse : Addr} {H H' : Hp} {p : Addr} {k : Nat} {f : Nat → Int} (h : PurseAt cPurse H p k f) (e : ExtN H H') : PurseAt cPurse H' p k f := by
  obtain ⟨dx, t, h1, h2⟩ := h
  exact ⟨dx, t, e _ _ h1 (fun ps z => by cases z), extTup e h2⟩
theorem Deck.ext {H H' : Hp} {p l : Addr} {n : Int} (D : Deck H p l n) (e : ExtN H H') : Deck H' p l n := by
  obtain ⟨cells, q1, q2⟩ := D.hl
  exact ⟨extLst e D.hp, cells, extLst e q1, q2⟩
theorem Tabs.fr {H H' : Hp} {p l : Addr} {n : Int} {TT : List (Addr × Str)} (t : Tabs TT H) (f : Fr p l H H') (D : Deck H p l n) : Tabs TT H' := by
  obtain ⟨cells, hl, _⟩ := D.hl
  have hp := D.hp
  intro x hx
  obtain ⟨ps, h1, h2, h3⟩ := t x hx
  have n1 : x.1 ≠ p := fun e => by
    rw [e, hp] at h1
    cases h1
  have n2 : x.1 ≠ l := fun e => by
    rw [e, hl] at h1
    cases h1
  refine ⟨ps, f _ _ n1 n2 h1, h2, fun pos cv hc => ?_⟩
  obtain ⟨c, rfl, hcd⟩ := h3 pos cv hc
  refine ⟨c, rfl, f _ _ (fun e => ?_) (fun e => ?_) hcd⟩
  · rw [e, hp] at hcd
    cases hcd
  · rw [e, hl] at hcd
    cases hcd
theorem Tabs.app {H : Hp} {U : Addr} {xs ys : List V} {TT : List (Addr × Str)} (t : Tabs TT H) (hU : H U = some (.lst xs)) : Tabs TT (upd H U (.lst ys)) := by
  intro x hx
  obtain ⟨ps, h1, h2, h3⟩ := t x hx
  have n1 : x.1 ≠ U := fun e => by
    rw [e, hU] at h1
    cases h1
  refine ⟨ps, by rw [upd_ne n1]; exact h1, h2, fun pos cv hc => ?_⟩
  obtain ⟨c, rfl, hcd⟩ := h3 pos cv hc
  have n2 : c ≠ U := fun e => by
    rw [e, hU] at hcd
    cases hcd
  exact ⟨c, rfl, by rw [upd_ne n2]; exact hcd⟩
def sp_law (K : PySem.W.Frag) (TT : List (Addr × Str)) : Sp := fun vs H Q _ => ∃ (a : Addr) (ns : List Int), vs = [.ref a] ∧ SqL K H a (ns.map V.int) ∧ ns.length ≤ 63 ∧ Tabs TT H ∧ ∀ H', Q (.bl true) H'
theorem am_of {H : Hp} {q : Addr} {xs : List Int} (h : H q = some (.tup (xs.map V.int))) : AmAt H q xs.length (fun i => xs.getD i 0) := by
  show H q = _
  rw [h, ← vec_of]
theorem getD_mem {xs : List Int} {P : Int → Prop} (h : ∀ x ∈ xs, P x) {i : Nat} (hi : i < xs.length) : P (xs.getD i 0) := by
  rw [List.getD_eq_getElem?_getD, List.getElem?_eq_getElem hi]
  exact h _ (List.getElem_mem _)
/-- what the written def makes of OtherKinds -/
def OKt (cO : Addr) (ts : Addr → Value → Option Addr → TS) : Prop := ∀ (c : Addr) (D : Ends) (σ : L2.St) (H : Hp), σ.length = 2 → D.rt (.bl true) H → ts c (.ref cO) none D (σ.set 1 (some (.ref c))) H
section
variable {K : PySem.W.Frag} {cP cO cN a b : Addr} {ts : Addr → Value → Option Addr → TS} {tr : TS} {Q : VK} {TT : List (Addr × Str)} {H : Hp} {σ : L2.St} {i j k k' : Nat} {f g : Nat → Int}
theorem lam_sub (te : PySem.W.exmOne K (.ref cO) (.ref cO) = some true) (hts : OKt cO ts) (h1 : σ[i]? = some (some (.ref a))) (h2 : σ[j]? = some (some (.ref b))) (tb : Tabs TT H) (hA : PurseAt cP H a k f) (hB : PurseAt cP H b k' g) (k1 : 1 ≤ k) (k4 : k ≤ 4) (ne : k ≠ k')
    (kk : ∀ H', ExtN H H' → Tabs TT H' → Q (.bl true) H') : tLam TT (TAx K cO N_l_other_kinds 1 ts tr) (fun x => tOp (rBinO cP (sp_Psub cP cO cN) x) (tVar i) (tVar j)) σ H Q := by
  refine ⟨tb, fun H1 x1 tb1 _ => ?_⟩
  have hA1 := hA.ext x1
  have hB1 := hB.ext x1
  obtain ⟨dx, t, ha, _⟩ := id hA1
  obtain ⟨dy, u, hb, _⟩ := id hB1
  exact ⟨_, h1, _, h2, a, dx, _, b, dy, _, rfl, rfl, ha, hb, a, b, k, k', f, g, rfl, hA1, hB1, k1, k4, fun _ => ⟨true, te, fun _ σ c len _ => hts c _ σ H1 len (kk H1 x1 tb1), fun e => nomatch e⟩, fun e => absurd e ne, fun e => absurd e ne⟩
theorem lam_add (te : PySem.W.exmOne K (.ref cO) (.ref cO) = some true) (hts : OKt cO ts) (h1 : σ[i]? = some (some (.ref a))) (h2 : σ[j]? = some (some (.ref b))) (tb : Tabs TT H) (hA : PurseAt cP H a k f) (hB : PurseAt cP H b k' g) (k1 : 1 ≤ k) (k4 : k ≤ 4) (nf : ∀ i, i < k → 0 ≤ f i) (ng : ∀ i, i < k' → 0 ≤ g i) (ne : k ≠ k')
    (kk : ∀ H', ExtN H H' → Tabs TT H' → Q (.bl true) H') : tLam TT (TAx K cO N_l_other_kinds 1 ts tr) (fun x => tOp (rBinO cP (sp_Padd cP cO) x) (tVar i) (tVar j)) σ H Q := by
  refine ⟨tb, fun H1 x1 tb1 _ => ?_⟩
  have hA1 := hA.ext x1
  have hB1 := hB.ext x1
  obtain ⟨dx, t, ha, _⟩ := id hA1
  obtain ⟨dy, u, hb, _⟩ := id hB1
  exact ⟨_, h1, _, h2, a, dx, _, b, dy, _, rfl, rfl, ha, hb, a, b, k, k', f, g, rfl, hA1, hB1, k1, k4, nf, ng, fun _ => ⟨true, te, fun _ σ c len _ => hts c _ σ H1 len (kk H1 x1 tb1), fun e => nomatch e⟩, fun e => absurd e ne⟩
theorem lam_cov (te : PySem.W.exmOne K (.ref cO) (.ref cO) = some true) (hts : OKt cO ts) (h1 : σ[i]? = some (some (.ref a))) (h2 : σ[j]? = some (some (.ref b))) (tb : Tabs TT H) (hA : PurseAt cP H a k f) (hB : PurseAt cP H b k' g) (k4 : k ≤ 4) (ne : k ≠ k')
    (kk : ∀ H', ExtN H H' → Tabs TT H' → Q (.bl true) H') : tLam TT (TAx K cO N_l_other_kinds 1 ts tr) (fun x => tMeth cP "covers" (sp_Pcov cP cO) [] x (tVar i) (tCons (tVar j) tNil)) σ H Q := by
  refine ⟨tb, fun H1 x1 tb1 _ => ?_⟩
  have hA1 := hA.ext x1
  have hB1 := hB.ext x1
  obtain ⟨dx, t, ha, _⟩ := id hA1
  exact ⟨_, h1, a, dx, _, rfl, ha, rfl, _, h2, a, b, k, k', f, g, rfl, hA1, hB1, k4, fun _ => ⟨true, te, fun _ σ c len _ => hts c _ σ H1 len (kk H1 x1 tb1), fun e => nomatch e⟩, fun e => absurd e ne⟩
end
/-! ### offers that are none -/
def f9 : Nat → Int := fun _ => 9
def NoO (K : PySem.W.Frag) (O : Addr) (H : Hp) (x : V) : Prop := ∃ d, (∀ H'' : Hp, (∀ b o, b ≠ O → H b = some o → H'' b = some o) → Dq K H'' x d) ∧ offAt 2 f9 d = false
abbrev FrO (O : Addr) (H H' : Hp) : Prop := ∀ b o, b ≠ O → H b = some o → H' b = some o
theorem NoO.fr {K : PySem.W.Frag} {O : Addr} {H H' : Hp} {x : V} (h : NoO K O H x) (f : FrO O H H') : NoO K O H' x := by
  obtain ⟨d, h1, h2⟩ := h
  exact ⟨d, fun H'' g => h1 H'' fun b o n e => g b o n (f b o n e), h2⟩
theorem FrO.of {O : Addr} {H H' : Hp} (s : Same H H') : FrO O H H' := fun b o _ e => s b o e
theorem FrO.trans {O : Addr} {H H1 H2 : Hp} (a : FrO O H H1) (b : FrO O H1 H2) : FrO O H H2 := fun c o n e => b c o n (a c o n e)
theorem FrO.put {O : Addr} {H : Hp} {o : HO} : FrO O H (upd H O o) := fun b x n e => by rw [upd_ne n]; exact e
theorem FrO.purse {cP O p : Addr} {H H' : Hp} {k : Nat} {f : Nat → Int} {xs : List V} (h : PurseAt cP H p k f) (f1 : FrO O H H') (hO : H O = some (.lst xs)) : PurseAt cP H' p k f := by
  obtain ⟨dx, t, h1, h2⟩ := h
  exact ⟨dx, t, f1 _ _ (fun e => by rw [e, hO] at h1; cases h1) h1, f1 _ _ (fun e => by rw [e, hO] at h2; cases h2) h2⟩
theorem FrO.tup {O b : Addr} {H H' : Hp} {xs ys : List V} (h : H b = some (.tup ys)) (f1 : FrO O H H') (hO : H O = some (.lst xs)) : H' b = some (.tup ys) := f1 _ _ (fun e => by rw [e, hO] at h; cases h) h
theorem put_wrong {j : Nat} (hj : j < 4) (x : V) : cutV [V.int 0, .int 1, .int 1, .int 5] none (some (0 + (j : Int))) ++ [x] ++ cutV [V.int 0, .int 1, .int 1, .int 5] (some (0 + (j : Int) + 1)) none = if j = 0 then [x, .int 1, .int 1, .int 5] else if j = 1 then [.int 0, x, .int 1, .int 5] else if j = 2 then [.int 0, .int 1, x, .int 5] else [.int 0, .int 1, .int 1, x] := by
  obtain rfl | rfl | rfl | rfl : j = 0 ∨ j = 1 ∨ j = 2 ∨ j = 3 := by omega
  · rfl
  · rfl
  · rfl
  · rfl
/-- what is no number that an offer may have -/
def WrO (d : PyData) : Prop := ∀ lo hi : Int, 0 ≤ lo → hi ≤ 30 → inI d lo hi = false
theorem wr_off {d : PyData} (h : WrO d) {a x b y : PyData} (m : d = a ∨ d = x ∨ d = b ∨ d = y) : offAt 2 f9 (.tuple [a, x, b, y]) = false := by
  refine offAt_no ?_
  show (inI a 0 1 && (inI b 0 1 && (neI a b && (inI x 1 30 && inI y 0 30)))) = false
  have h1 := h 0 1 (by decide) (by decide)
  have h2 := h 1 30 (by decide) (by decide)
  have h3 := h 0 30 (by decide) (by decide)
  rcases m with rfl | rfl | rfl | rfl
  · rw [h1]; rfl
  · rw [h2, Bool.false_and, Bool.and_false, Bool.and_false, Bool.and_false]
  · rw [h1, Bool.false_and, Bool.and_false]
  · rw [h3, Bool.and_false, Bool.and_false, Bool.and_false, Bool.and_false]
theorem put_no {K : PySem.W.Frag} {H : Hp} {j : Nat} {x : V} {d : PyData} {q : Addr} (hj : j < 4) (w : WrO d) (hq : H q = some (.tup (cutV [V.int 0, .int 1, .int 1, .int 5] none (some (0 + (j : Int))) ++ [x] ++ cutV [V.int 0, .int 1, .int 1, .int 5] (some (0 + (j : Int) + 1)) none))) (hd : Dq K H x d) :
    ∃ dd, Dq K H (.ref q) dd ∧ offAt 2 f9 dd = false ∧ ∀ H'', H'' q = H q → Dq K H'' x d → Dq K H'' (.ref q) dd := by
  rw [put_wrong hj] at hq
  obtain rfl | rfl | rfl | rfl : j = 0 ∨ j = 1 ∨ j = 2 ∨ j = 3 := by omega
  · exact ⟨.tuple [d, .int 1, .int 1, .int 5], .tup hq (.cons hd (.cons (.int _) (.cons (.int _) (.cons (.int _) .nil)))), wr_off w (.inl rfl), fun H'' e h => .tup (e.trans hq) (.cons h (.cons (.int _) (.cons (.int _) (.cons (.int _) .nil))))⟩
  · exact ⟨.tuple [.int 0, d, .int 1, .int 5], .tup hq (.cons (.int _) (.cons hd (.cons (.int _) (.cons (.int _) .nil)))), wr_off w (.inr (.inl rfl)), fun H'' e h => .tup (e.trans hq) (.cons (.int _) (.cons h (.cons (.int _) (.cons (.int _) .nil))))⟩
  · exact ⟨.tuple [.int 0, .int 1, d, .int 5], .tup hq (.cons (.int _) (.cons (.int _) (.cons hd (.cons (.int _) .nil)))), wr_off w (.inr (.inr (.inl rfl))), fun H'' e h => .tup (e.trans hq) (.cons (.int _) (.cons (.int _) (.cons h (.cons (.int _) .nil))))⟩
  · exact ⟨.tuple [.int 0, .int 1, .int 1, d], .tup hq (.cons (.int _) (.cons (.int _) (.cons (.int _) (.cons hd .nil)))), wr_off w (.inr (.inr (.inr rfl))), fun H'' e h => .tup (e.trans hq) (.cons (.int _) (.cons (.int _) (.cons (.int _) (.cons h .nil))))⟩
section
variable {P : Program} {w : World} {K : PySem.W.Frag} {mg : Str → Option Value} {base : Heap} {TT : List (Addr × Str)} {cPurse fPi fAdd fSub fMul fIn fCov cO cN cChangeError : Addr}
abbrev s_law : Stmt := topS 30
abbrev N_law : List Str := ["_law_script", "_law_deck_here", "_law_turn", "_law_mine", "_law_others", "_law_longer", "_law_one_here", "_law_more", "_law_nine", "_law_odd_here", "_law_right", "_law_at", "_law_wrong", "_law_offer"]
theorem sc_law : FnScope N_law ["_law_script"] (defScope s_law) := ⟨rfl, rfl, rfl, by decide +kernel, rfl, by decide +kernel, by decide +kernel⟩
abbrev X_law (P : Program) (w : World) (K : PySem.W.Frag) (mg : Str → Option Value) (base : Heap) (f c : Addr) (A : Around) (outer : List Env) (s : Shared) (H : Hp) (E : XK) : Cx := (cxOf CX0 P w K mg base N_law "law" (defScope s_law) f (.ref c) A outer s H E).nox
abbrev q_law : Str := ("law" : Str) ++ (".<locals>." : Str) ++ ("<lambda>" : Str)
theorem pe_lam1 {f c Pt : Addr} {A : Around} {outer : List Env} {s : Shared} {H : Hp} {E : XK} {body : Expr} {cT : Addr} {ts : Addr → Value → Option Addr → TS} {tr : TS} {te : XK → TE} {p1 p6 p7 : Pos} (D : Df K mg "_law_other_kinds" s_l_other_kinds ["_law_call"])
    (hG : ∀ (g : Addr) (cdg : Value), GivesTo (X_law P w K mg base f c A outer s H E) N_l_other_kinds "_law_other_kinds" (defScope s_l_other_kinds) g cdg (defBody s_l_other_kinds) "_law_call" q_law (TAx K cT N_l_other_kinds 1 ts tr))
    (TB : TabB base mg c Pt) {TT : List (Addr × Str)} (hmT : (Pt, q_law) ∈ TT) (hu : ∀ p ∈ TT, p.1 = Pt → p.2 = q_law) (hr : Room 11 (X_law P w K mg base f c A outer s H E).A)
    {sc : Scope} (hL : lamSB (defScope s_law) sc = true) (hbody : ∀ (A' : Around) (outer' : List Env) (s' : Shared) (H' : Hp) (E' : XK) (f' c' : Addr), Room 9 (A'.deeper (lamEnv (X_law P w K mg base f c A outer s H E) sc s'.heap.objs.size f' c')) → PE (lamCx (X_law P w K mg base f c A outer s H E) A' outer' s' H' E' sc f' c') body (te E')) :
    PE (X_law P w K mg base f c A outer s H E) (.Call (.Name "_law_other_kinds" p1) [.Lambda lamP body sc p6] [] p7) (tLam TT (TAx K cT N_l_other_kinds 1 ts tr) te) := by
  obtain ⟨g, fd, F, m, bd⟩ := D
  obtain ⟨oc, od, kV, doc, pm, an, cdv, ct, osl, rfl, look, coded⟩ := F.ex
  exact pe_lamcall (T := TT) (k := 9) (Ng := N_l_other_kinds) rfl m F.kp look coded bd sc_l_other_kinds rfl (by first | exact Or.inl rfl | exact Or.inr (Or.inl rfl) | exact Or.inr (Or.inr rfl)) (hG g cdv) TB rfl hmT hu hr (lamS_by hL) rfl (fun _ _ _ _ _ => rfl) (fun A' outer' s' H' E' f' c' hr' => hbody A' outer' s' H' E' f' c' hr')
theorem ok_law {f c Pt fP fT fO : Addr} {fd fd1 fdA fdS fdC fdI fdP fdT fdO : FuncData} (T : Txt mg) (R : TxP K mg cPurse fPi fAdd fSub fMul fIn fCov) (XO : XPl K mg "OtherKinds" cO) (gCE : mg "ChangeError" = some (.ref cChangeError)) (kCE : PySem.W.kitOne K (.ref cO) (.ref cChangeError) = some true)
    (F : Fun K "law" "law" s_law f fd) (code : fd.code = .ref c) (TB : TabB base mg c Pt) (hmT : (Pt, q_law) ∈ TT) (hu : ∀ p ∈ TT, p.1 = Pt → p.2 = q_law)
    (G_Purse_init : FnOk P w K mg base CX0 3 fPi fd1 ["self", "amounts"] (sp_Pinit K cPurse)) (b_Purse_init : Binds K fd1 ["self", "amounts"] []) (GX_add : FnOk P w K mg base (L2.CX P w) 5 fAdd fdA ["self", "other"] (sp_Padd cPurse cO)) (b_add : Binds K fdA ["self", "other"] []) (GX_sub : FnOk P w K mg base (L2.CX P w) 5 fSub fdS ["self", "other"] (sp_Psub cPurse cO cN)) (b_sub : Binds K fdS ["self", "other"] [])
    (GX_Purse_covers : FnOk P w K mg base (L2.CX P w) 2 fCov fdC ["self", "other"] (sp_Pcov cPurse cO)) (b_Purse_covers : Binds K fdC ["self", "other"] []) (G_in : FnOk P w K mg base CX0 4 fIn fdI ["self", "x"] (sp_Pin K cPurse)) (b_in : Binds K fdI ["self", "x"] [])
    (C_l_deck : Cal P w K mg base "_law_deck" ["_law_script"] 1 (sp_l_deck K)) (C_l_draw : Cal P w K mg base "_law_draw" ["_law_deck_here", "_law_many"] 1 (sp_l_draw K)) (C_l_amounts : Cal P w K mg base "_law_amounts" ["_law_deck_here", "_law_kinds"] 3 (sp_l_amounts K)) (C_l_near : Cal P w K mg base "_law_near" ["_law_deck_here", "_law_amounts_here"] 2 (sp_l_near K))
    (G_l_pair : FnG P w K mg base 7 fP fdP ["_law_mine", "_law_others"] (sp_l_pair K)) (m_l_pair : mg "_law_pair" = some (.ref fP)) (k_l_pair : PySem.W.keepIn K (.ref fP) = true) (b_l_pair : L2.Binds K fdP ["_law_mine", "_law_others"] [])
    (G_l_times : FnG P w K mg base 7 fT fdT ["_law_deck_here", "_law_mine"] (sp_l_times K)) (m_l_times : mg "_law_times" = some (.ref fT)) (k_l_times : PySem.W.keepIn K (.ref fT) = true) (b_l_times : L2.Binds K fdT ["_law_deck_here", "_law_mine"] [])
    (G_l_offers : FnG P w K mg base 7 fO fdO ["_law_deck_here", "_law_mine"] (sp_l_offers K)) (m_l_offers : mg "_law_offers" = some (.ref fO)) (k_l_offers : PySem.W.keepIn K (.ref fO) = true) (b_l_offers : L2.Binds K fdO ["_law_deck_here", "_law_mine"] [])
    (D_l_other_kinds : Df K mg "_law_other_kinds" s_l_other_kinds ["_law_call"]) : FnG P w K mg base 12 f fd ["_law_script"] (sp_law K TT) := by
  obtain ⟨f_l_deck, fd_l_deck, G_l_deck, m_l_deck, k_l_deck, b_l_deck⟩ := C_l_deck
  obtain ⟨f_l_draw, fd_l_draw, G_l_draw, m_l_draw, k_l_draw, b_l_draw⟩ := C_l_draw
  obtain ⟨f_l_amounts, fd_l_amounts, G_l_amounts, m_l_amounts, k_l_amounts, b_l_amounts⟩ := C_l_amounts
  obtain ⟨f_l_near, fd_l_near, G_l_near, m_l_near, k_l_near, b_l_near⟩ := C_l_near
  have g_Purse := R.g
  have Mk_Purse := R.mak
  have Cl_Purse := R.ins.cl
  have Me_Purse_covers := R.meC
  have M_add := R.mAdd
  have M_sub := R.mSub
  have M_in := R.mIn
  have S_first := R.first
  refine FnG.bodyC (k := 11) F code sc_law (fun vs H Q E h => ?_) (fun A outer s H vs Q E gu hr h => ?_)
  · obtain ⟨a, ns, rfl, _⟩ := h
    rfl
  obtain ⟨a, ns, rfl, hS, hlen, tb0, kk⟩ := h
  obtain ⟨ts, tr, hG, hts⟩ := other_gives (X := X_law P w K mg base f c A outer s H E) (q := q_law) T XO gCE kCE
  refine ⟨_, (pss_cons (ps_set (i := 1) sc_law.nd rfl (Or.inl rfl) (pe_call G_l_deck (hr.mono (by decide)) (by rfl) m_l_deck k_l_deck b_l_deck .nil pass0 (pa_cons (pv 0) pa_nil)))
    (pss_cons (ps_for PassesOwn.never rfl (pi_range1 (by rfl) T.n_range (pa_cons pe_int pa_nil)) (pg_name (i := 2) sc_law.nd rfl (Or.inl rfl))
      (pss_cons (ps_set (i := 3) sc_law.nd rfl (Or.inl rfl) (pe_call G_l_amounts (hr.mono (by decide)) (by rfl) m_l_amounts k_l_amounts b_l_amounts .nil pass0 (pa_cons (pv 1) (pa_cons (pe_op op_add pe_int (pe_op op_modN (pe_callTy call_int1 (by rfl) T.n_int (by decide +kernel) (pa_cons (pv 2) pa_nil)) pe_int)) pa_nil))))
    (pss_cut (ps_set (i := 4) sc_law.nd rfl (Or.inl rfl) (pe_ifExp (pt_cmpR op_gt (pe_call G_l_draw (hr.mono (by decide)) (by rfl) m_l_draw k_l_draw b_l_draw .nil pass0 (pa_cons (pv 1) (pa_cons pe_int pa_nil))) pe_int (nomark _)) (pe_call G_l_near (hr.mono (by decide)) (by rfl) m_l_near k_l_near b_l_near .nil pass0 (pa_cons (pv 1) (pa_cons (pv 3) pa_nil))) (pe_call G_l_amounts (hr.mono (by decide)) (by rfl) m_l_amounts k_l_amounts b_l_amounts .nil pass0 (pa_cons (pv 1) (pa_cons (pe_callB call_len_seq (by rfl) T.n_len (by decide +kernel) (pa_cons (pv 3) pa_nil)) pa_nil)))))
    (pss_cons (ps_if (PW.pt (pw_or (pt_not (pt_val (pe_callG G_l_pair gu (hr.mono (by decide)) (by rfl) m_l_pair k_l_pair b_l_pair (pa_cons (pv 3) (pa_cons (pv 4) pa_nil))))) (pw_or1 (pt_not (pt_val (pe_callG G_l_times gu (hr.mono (by decide)) (by rfl) m_l_times k_l_times b_l_times (pa_cons (pv 1) (pa_cons (pv 3) pa_nil)))))))) (pss_one (ps_ret pe_bl)) pss_nil)
    (pss_cons (ps_if (pt_not (pt_val (pe_callG G_l_offers gu (hr.mono (by decide)) (by rfl) m_l_offers k_l_offers b_l_offers (pa_cons (pv 1) (pa_cons (pv 3) pa_nil))))) (pss_one (ps_ret pe_bl)) pss_nil)
    (pss_cons (ps_set (i := 5) sc_law.nd rfl (Or.inl rfl) (pe_op op_catA (pe_tup (pa_cons (pe_op op_pow pe_int pe_int) pa_nil)) (pv 3)))
    (pss_cut (ps_if (pt_cmpR op_eq (pe_callB call_len_seq (by rfl) T.n_len (by decide +kernel) (pa_cons (pv 3) pa_nil)) pe_int (nomark _)) (pss_one (ps_set (i := 5) sc_law.nd rfl (Or.inl rfl) (pe_op op_catA (pe_tup (pa_cons (pe_op op_pow pe_int pe_int) pa_nil)) (pe_slice sl_tupA (pv 3) (po_some pe_int) po_none)))) pss_nil)
    (pss_cons (ps_asg (pe_tup (pa_cons (pe_make Mk_Purse G_Purse_init (hr.mono (by decide)) (by rfl) g_Purse b_Purse_init .nil pass0 (pa_cons (pv 3) pa_nil)) (pa_cons (pe_make Mk_Purse G_Purse_init (hr.mono (by decide)) (by rfl) g_Purse b_Purse_init .nil pass0 (pa_cons (pv 5) pa_nil)) pa_nil))) (pg_tup (by rfl) (pgs_cons (pg_name (i := 6) sc_law.nd rfl (Or.inr rfl)) (pgs_cons (pg_name (i := 7) sc_law.nd rfl (Or.inr rfl)) pgs_nil))))
    (pss_cons (ps_if (pt_not (pt_val (pe_lam1 D_l_other_kinds hG TB hmT hu (hr.mono (by decide)) (by decide +kernel) (fun _ _ _ _ _ _ _ hr => (pe_op (op_binO M_sub S_first GX_sub b_sub (hr.mono (by decide)) (passE (takes_of rfl rfl rfl rfl))) (pv 6) (pv 7)))))) (pss_one (ps_ret pe_bl)) pss_nil)
    (pss_cons (ps_if (pt_not (pt_val (pe_lam1 D_l_other_kinds hG TB hmT hu (hr.mono (by decide)) (by decide +kernel) (fun _ _ _ _ _ _ _ hr => (pe_op (op_binO M_add S_first GX_add b_add (hr.mono (by decide)) (passE (takes_of rfl rfl rfl rfl))) (pv 7) (pv 6)))))) (pss_one (ps_ret pe_bl)) pss_nil)
    (pss_cons (ps_if (pt_not (pt_val (pe_lam1 D_l_other_kinds hG TB hmT hu (hr.mono (by decide)) (by decide +kernel) (fun _ _ _ _ _ _ _ hr => (pe_meth (pv 6) Cl_Purse Me_Purse_covers GX_Purse_covers (hr.mono (by decide)) b_Purse_covers .nil (passE (takes_of rfl rfl rfl rfl)) (pa_cons (pv 7) pa_nil)))))) (pss_one (ps_ret pe_bl)) pss_nil)
    (pss_one (ps_if (pt_not (pt_val (pe_lam1 D_l_other_kinds hG TB hmT hu (hr.mono (by decide)) (by decide +kernel) (fun _ _ _ _ _ _ _ hr => (pe_op (op_binO M_sub S_first GX_sub b_sub (hr.mono (by decide)) (passE (takes_of rfl rfl rfl rfl))) (pv 7) (pv 6)))))) (pss_one (ps_ret pe_bl)) pss_nil)))))))))))))
    (pss_cons (ps_set (i := 8) sc_law.nd rfl (Or.inr rfl) (pe_make Mk_Purse G_Purse_init (hr.mono (by decide)) (by rfl) g_Purse b_Purse_init .nil pass0 (pa_cons (pe_tup (pa_cons pe_int (pa_cons pe_int pa_nil))) pa_nil)))
    (pss_cut (ps_par (i := 9) (j := 10) (by rfl) sc_law.nd rfl rfl (by decide) rfl rfl (pa_cons (pe_lstN (pa_cons (pe_tup (pa_cons pe_bl (pa_cons pe_int (pa_cons pe_int (pa_cons pe_int pa_nil))))) (pa_cons (pe_tup (pa_cons pe_int (pa_cons pe_int (pa_cons pe_int (pa_cons pe_int pa_nil))))) (pa_cons (pe_tup (pa_cons pe_int (pa_cons pe_int (pa_cons pe_int (pa_cons pe_int pa_nil))))) pa_nil)))) (pa_cons (pe_tup (pa_cons pe_int (pa_cons pe_int (pa_cons pe_int (pa_cons pe_int pa_nil))))) pa_nil)) (by rfl))
    (pss_cons (ps_for PassesOwn.never rfl (pi_range1 (by rfl) T.n_range (pa_cons pe_int pa_nil)) (pg_name (i := 11) sc_law.nd rfl (Or.inl rfl))
      (pss_one (ps_for PassesOwn.never rfl (pi_tup (pe_tup (pa_cons pe_bl (pa_cons pe_bl (pa_cons pe_non (pa_cons pe_str (pa_cons (pe_tup (pa_cons pe_int pa_nil)) (pa_cons (pe_lstN (pa_cons pe_int pa_nil)) (pa_cons (pe_un un_neg pe_int) (pa_cons (pe_op op_pow pe_int pe_int) pa_nil)))))))))) (pg_name (i := 12) sc_law.nd rfl (Or.inl rfl))
      (pss_one (ps_expr (pe_bm PySem.F.plainAttrs_list PySem.F.slot_list_append PySem.F.type_list_append mt_append (pv 9) (pa_cons (pe_op op_catA (pe_op op_catA (pe_slice sl_tupA (pv 10) po_none (po_some (pv 11))) (pe_tup (pa_cons (pv 12) pa_nil))) (pe_slice sl_tupA (pv 10) (po_some (pe_op op_add (pv 11) pe_int)) po_none)) pa_nil)))))))
    (pss_one (ps_ret (pe_and (pe_callB (cr_all rfl) (by rfl) T.n_all (by decide +kernel) (pa_cons (pe_lc (own := [("_law_offer", 13)]) (g := gName 13) (tt := tYes) rfl sc_law.nd (pi_list (pv 9)) (blkOk_by (own := [("_law_offer", 13)]) (N := N_law) (sc := defScope s_law) (by decide +kernel)) (fun _ _ _ _ _ => pg_name (i := 13) sc_law.nd rfl (Or.inl rfl)) (fun _ _ _ _ _ => pts_nil) (fun _ _ _ _ _ => (pe_cmpR op_isBl (pe_cmpR (op_inO M_in G_in b_in (hr.mono (by decide)) pass0) (pv 13) (pv 8) (by rfl)) pe_bl (nomark _)))) pa_nil)) (pe_one (pe_cmpR op_isBl (pe_cmpR (op_inO M_in G_in b_in (hr.mono (by decide)) pass0) (pv 10) (pv 8) (by rfl)) pe_bl (nomark _))))))))))), ?_⟩
  refine ⟨_, rfl, a, ns, rfl, hS, hlen, fun H1 p l s1 D1 => ?_⟩
  have tb1 := tb0.ext s1
  refine ⟨10, rfl, (by decide), (by decide), ?_⟩
  refine for_range (lo := 0) (n := 10) (fun i σ H' => ∃ (n : Int) (v2 v3 v4 v5 v6 v7 v8 v9 v10 v11 v12 v13 : Option V), σ = [some (.ref a), some (.ref p), v2, v3, v4, v5, v6, v7, v8, v9, v10, v11, v12, v13] ∧ Deck H' p l n ∧ Tabs TT H' ∧ 0 ≤ n ∧ n ≤ 1000 * (i : Int)) ⟨0, _, _, _, _, _, _, _, _, _, _, _, _, rfl, D1, tb1, by omega, by omega⟩ ?_ ?_
  · rintro i σ H2 hi ⟨n, v2, v3, v4, v5, v6, v7, v8, v9, v10, v11, v12, v13, rfl, D2, tb2, n0, n1⟩
    have hi : i < 10 := hi
    refine ⟨_, rfl, _, rfl, .inl ⟨_, rfl, _, _, rfl, rfl, (show (4 : Int) ≠ 0 by decide), _, _, rfl, rfl, ?_⟩⟩
    obtain ⟨k, ek, k1, k4⟩ : ∃ k : Nat, 1 + (0 + (i : Int)).fmod 4 = (k : Int) ∧ 1 ≤ k ∧ k ≤ 4 := ⟨1 + i % 4, by rw [fmod_pos (by decide)]; omega, by omega, by omega⟩
    refine ⟨p, l, n, k, (show [V.ref p, V.int (1 + (0 + (i : Int)).fmod 4)] = [V.ref p, V.int (k : Int)] by rw [ek]), D2, n0, by omega, k1, k4, fun H3 q1 f n3 f3 D3 a0 a1 hq1 nf => ?_⟩
    have tb3 := Sm.Tabs.fr tb2 f3 D2
    refine ⟨fun σ H' => ∃ (n' : Int) (q2 : Addr) (g : Nat → Int), σ = [some (.ref a), some (.ref p), some (.int (0 + (i : Int))), some (.ref q1), some (.ref q2), v5, v6, v7, v8, v9, v10, v11, v12, v13] ∧ Fr p l H3 H' ∧ Deck H' p l n' ∧ n3 ≤ n' ∧ n' ≤ n3 + 20 ∧ AmAt H' q2 k g ∧ ∀ i, i < k → 0 ≤ g i ∧ g i ≤ 10 ^ 31, ?_, ?_⟩
    · refine ⟨_, rfl, p, l, n3, 3, rfl, D3, by omega, by omega, by decide, by decide, fun r H4 b0 b1 f4 D4 => ?_⟩
      have hq4 := hq1.fr f4 D3
      refine ⟨_, _, rfl, rfl, _, rfl, ite3 (fun c => ?_) (fun c => ?_)⟩
      · refine ⟨_, rfl, _, rfl, p, l, q1, n3 + 1, k, f, rfl, D4, by omega, by omega, k1, k4, hq4, nf, fun H5 q2 g n5 f5 D5 c0 c1 hq2 ng => ?_⟩
        exact ⟨n5, q2, g, rfl, f4.trans f5, D5, by omega, by omega, hq2, fun i hi => by have := ng i hi; omega⟩
      · refine ⟨_, rfl, _, rfl, q1, _, rfl, .inr (SqT.of hq4), p, l, n3 + 1, k, by rw [vlen]; rfl, D4, by omega, by omega, k1, k4, fun H5 q2 g n5 f5 D5 c0 c1 hq2 ng => ?_⟩
        exact ⟨n5, q2, g, rfl, f4.trans f5, D5, by omega, by omega, hq2, fun i hi => by have := ng i hi; omega⟩
    · rintro σ H4 ⟨n4, q2, g, rfl, f4, D4, b0, b1, hq2, ng⟩
      have hq4 := hq1.fr f4 D3
      have tb4 := Sm.Tabs.fr tb3 f4 D3
      have nf' : ∀ i, i < k → 0 ≤ f i ∧ f i ≤ 10 ^ 31 := fun i hi => by have := nf i hi; omega
      refine ⟨_, rfl, _, rfl, q1, q2, k, f, g, rfl, hq4, hq2, k1, k4, nf', ng, fun H5 s5 => ⟨_, rfl, iteF ?_⟩⟩
      have D5 := D4.same s5
      have hq5 : AmAt H5 q1 k f := s5 _ _ hq4
      refine ⟨_, rfl, _, rfl, p, l, q1, n4, k, f, rfl, D5, by omega, by omega, hq5, k1, k4, nf', fun H6 n6 f6 D6 c0 c1 => ⟨_, rfl, iteF ?_⟩⟩
      have hq6 := hq5.fr f6 D5
      have tb6 := Sm.Tabs.fr (tb4.ext s5) f6 D5
      refine ⟨_, rfl, _, rfl, p, l, q1, n6, k, f, rfl, D6, by omega, by omega, hq6, k1, k4, nf', fun H7 n7 f7 D7 c2 c3 => ⟨_, rfl, iteF ?_⟩⟩
      have hq7 := hq6.fr f7 D6
      have tb7 := Sm.Tabs.fr tb6 f7 D6
      -- a purse of other kinds
      refine ⟨_, _, rfl, rfl, ⟨by decide, by decide, by decide⟩, (by show 1 ≤ sizeLine; decide), fun u nu => ?_⟩
      have w1 := same_upd (o := .tup [.int (10 ^ Int.toNat 31)]) nu
      have hu1 : upd H7 u (.tup [.int (10 ^ Int.toNat 31)]) u = some (.tup [.int (10 ^ Int.toNat 31)]) := upd_same
      refine ⟨_, rfl, ?_⟩
      refine cat_uni hu1 (w1 _ _ hq7) (by rw [vlen]; exact Nat.le_trans (show 1 + k ≤ 100 by omega) (by decide)) fun u3 H8 w3 hu3 => ?_
      have hq8 : AmAt H8 q1 k f := w3 _ _ (w1 _ _ hq7)
      have s78 := w1.trans w3
      refine ⟨fun σ H' => ∃ (q3 : Addr) (k' : Nat) (g' : Nat → Int), σ = [some (.ref a), some (.ref p), some (.int (0 + (i : Int))), some (.ref q1), some (.ref q2), some (.ref q3), v6, v7, v8, v9, v10, v11, v12, v13] ∧ Same H7 H' ∧ AmAt H' q3 k' g' ∧ k ≠ k' ∧ 1 ≤ k' ∧ k' ≤ 4 ∧ ∀ i, i < k' → 0 ≤ g' i, ?_, ?_⟩
      · refine ⟨_, rfl, q1, _, rfl, .inr (SqT.of hq8), rfl, _, rfl, ?_⟩
        rw [vlen]
        have nn : ∀ x ∈ (10 ^ Int.toNat 31 : Int) :: vec k f, 0 ≤ x := fun x hx => by
          rcases List.mem_cons.mp hx with rfl | hx
          · decide
          · obtain ⟨i, hi, rfl⟩ := mem_vec hx
            exact (nf' i hi).1
        by_cases e : V.int (k : Int) = V.int 4
        · have e4 : k = 4 := by injection e with e; omega
          refine iteP e ?_
          refine ⟨_, _, rfl, rfl, ⟨by decide, by decide, by decide⟩, (by show 1 ≤ sizeLine; decide), fun u nu => ?_⟩
          have w4 := same_upd (o := .tup [.int (10 ^ Int.toNat 31)]) nu
          have hu4 : upd H8 u (.tup [.int (10 ^ Int.toNat 31)]) u = some (.tup [.int (10 ^ Int.toNat 31)]) := upd_same
          refine ⟨_, rfl, _, rfl, no_part ?_⟩
          refine sl_uni (w4 _ _ hq8) fun u5 H9 w5 hu5 => ?_
          have c1 := cutV_length ((vec k f).map V.int) (some 2) none
          rw [vlen] at c1
          refine cat_uni (w5 _ _ hu4) hu5 (Nat.le_trans (show 1 + _ ≤ 100 by omega) (by decide)) fun u6 H10 w6 hu6 => ?_
          have cv : [V.int (10 ^ Int.toNat 31)] ++ cutV ((vec k f).map V.int) (some 2) none = (((10 ^ Int.toNat 31 : Int) :: (vec k f).drop 2)).map V.int := by
            rw [show (2 : Int) = ((2 : Nat) : Int) from rfl, cut_from, List.map_cons, List.map_drop]
            rfl
          rw [cv] at hu6
          have ln : ((10 ^ Int.toNat 31 : Int) :: (vec k f).drop 2).length = 3 := by rw [List.length_cons, List.length_drop, vec_len]; omega
          have am := am_of hu6
          rw [ln] at am
          exact ⟨u6, 3, _, rfl, s78.trans (w4.trans (w5.trans w6)), am, by omega, by decide, by decide, fun i hi => getD_mem (P := fun x => 0 ≤ x) (fun x hx => nn x (by
            rcases List.mem_cons.mp hx with rfl | hx
            · exact List.mem_cons_self ..
            · exact List.mem_cons_of_mem _ (List.mem_of_mem_drop hx))) (by rw [ln]; exact hi)⟩
        · have e4 : k ≠ 4 := fun q => e (by rw [q]; rfl)
          refine iteN e ?_
          have hu3 : H8 u3 = some (.tup (((10 ^ Int.toNat 31 : Int) :: vec k f).map V.int)) := hu3
          have ln : ((10 ^ Int.toNat 31 : Int) :: vec k f).length = k + 1 := by rw [List.length_cons, vec_len]
          have am := am_of hu3
          rw [ln] at am
          exact ⟨u3, k + 1, _, rfl, s78, am, by omega, by omega, by omega, fun i hi => getD_mem (P := fun x => 0 ≤ x) nn (by rw [ln]; exact hi)⟩
      · rintro σ H' ⟨q3, k', g', rfl, s7', hq3, ne, k1', k4', ng'⟩
        have hq9 : AmAt H' q1 k f := s7' _ _ hq7
        have D9 := D7.same s7'
        have tb9 := tb7.ext s7'
        have nf0 : ∀ i, i < k → 0 ≤ f i := fun i hi => (nf' i hi).1
        refine ⟨_, rfl, new_purse R.ins hq9 k1 k4 nf0 fun p1 H9 s9 hp1 => ?_⟩
        refine ⟨_, rfl, new_purse R.ins (s9 _ _ hq3) k1' k4' ng' fun p2 H10 s10 hp2 => ?_⟩
        refine ⟨(by show 2 ≤ sizeLine; decide), fun tt ntt => ⟨tt, _, rfl, SqT.of upd_same, rfl, _, _, rfl, _, _, rfl, rfl, ?_⟩⟩
        have st := same_upd (o := .tup [.ref p1, .ref p2]) ntt
        have sA := s9.trans (s10.trans st)
        have hA := (hp1.same s10).same st
        have hB := hp2.same st
        have D10 := D9.same sA
        have tb10 := tb9.ext sA
        clear hp1 hp2 s9 s10 sA
        generalize upd H10 tt (.tup [.ref p1, .ref p2]) = H11 at hA hB D10 tb10 ⊢
        refine lam_sub (i := 6) (j := 7) XO.te hts rfl rfl tb10 hA hB k1 k4 ne fun H12 x12 tb12 => ⟨_, rfl, iteF ?_⟩
        have hA := hA.ext x12
        have hB := hB.ext x12
        have D12 := Deck.ext D10 x12
        refine lam_add (i := 7) (j := 6) XO.te hts rfl rfl tb12 hB hA k1' k4' ng' nf0 (Ne.symm ne) fun H13 x13 tb13 => ⟨_, rfl, iteF ?_⟩
        have hA := hA.ext x13
        have hB := hB.ext x13
        have D13 := Deck.ext D12 x13
        refine lam_cov (i := 6) (j := 7) XO.te hts rfl rfl tb13 hA hB k4 ne fun H14 x14 tb14 => ⟨_, rfl, iteF ?_⟩
        have hA := hA.ext x14
        have hB := hB.ext x14
        have D14 := Deck.ext D13 x14
        refine lam_sub (i := 7) (j := 6) XO.te hts rfl rfl tb14 hB hA k1' k4' (Ne.symm ne) fun H15 x15 tb15 => ⟨_, rfl, iteF ?_⟩
        exact ⟨n7, _, _, _, _, _, _, _, _, _, _, _, _, rfl, Deck.ext D14 x15, tb15, by omega, by omega⟩
  · rintro σ H2 ⟨n, v2, v3, v4, v5, v6, v7, v8, v9, v10, v11, v12, v13, rfl, D2, tb2, n0, n1⟩
    refine ⟨(by show 2 ≤ sizeLine; decide), fun u nu => ?_⟩
    have hu9 : upd H2 u (.tup [.int 9, .int 9]) u = some (.tup ((vec 2 f9).map V.int)) := upd_same
    refine new_purse R.ins hu9 (by decide) (by decide) (fun _ _ => (by decide : (0 : Int) ≤ 9)) fun p9 H3 s3 hp9 => ?_
    refine ⟨fun σ H' => ∃ (O r : Addr) (xs : List V), σ = [some (.ref a), some (.ref p), v2, v3, v4, v5, v6, v7, some (.ref p9), some (.ref O), some (.ref r), v11, v12, v13] ∧ PurseAt cPurse H' p9 2 f9 ∧ H' r = some (.tup [.int 0, .int 1, .int 1, .int 5]) ∧ H' O = some (.lst xs) ∧ xs.length ≤ 3 ∧ ∀ x ∈ xs, NoO K O H' x, ?_, ?_⟩
    · refine ⟨(by show 4 ≤ sizeLine; decide), fun t1 n1 => ⟨(by show 4 ≤ sizeLine; decide), fun t2 n2 => ⟨(by show 4 ≤ sizeLine; decide), fun t3 n3 => ⟨(by show 3 ≤ sizeLine; decide), fun O nO eO => ⟨(by show 4 ≤ sizeLine; decide), fun r nr => ⟨_, _, rfl, ?_⟩⟩⟩⟩⟩⟩
      have w1 := same_upd (o := .tup [.bl true, .int 1, .int 0, .int 5]) n1
      have w2 := same_upd (o := .tup [.int 0, .int 1, .int 0, .int 5]) n2
      have w3 := same_upd (o := .tup [.int 0, .int 0, .int 1, .int 5]) n3
      have wO := same_upd (o := .lst [V.ref t1, .ref t2, .ref t3]) nO
      have wr := same_upd (o := .tup [.int 0, .int 1, .int 1, .int 5]) nr
      have h1 := (w2.trans (w3.trans (wO.trans wr))) _ _ (upd_same (H := H3) (a := t1) (o := .tup [.bl true, .int 1, .int 0, .int 5]))
      have h2 := (w3.trans (wO.trans wr)) _ _ (upd_same (a := t2) (o := .tup [.int 0, .int 1, .int 0, .int 5]))
      have h3 := (wO.trans wr) _ _ (upd_same (a := t3) (o := .tup [.int 0, .int 0, .int 1, .int 5]))
      have hO := wr _ _ (upd_same (a := O) (o := .lst [V.ref t1, .ref t2, .ref t3]))
      have ws := w1.trans (w2.trans (w3.trans (wO.trans wr)))
      have no : ∀ {b : Addr} {xs : List V} {Hx : Hp}, Hx O = some (.lst [V.ref t1, .ref t2, .ref t3]) → Hx b = some (.tup xs) → b ≠ O := fun hO h e => by rw [e, hO] at h; cases h
      refine ⟨O, r, _, rfl, hp9.same ws, upd_same, hO, Nat.le_refl 3, fun x hx => ?_⟩
      have m1 := no hO h1
      have m2 := no hO h2
      have m3 := no hO h3
      simp only [List.mem_cons, List.not_mem_nil, or_false] at hx
      rcases hx with rfl | rfl | rfl
      · exact ⟨.tuple [.bool true, .int 1, .int 0, .int 5], fun H'' g => .tup (g _ _ m1 h1) (.cons (.bl true) (.cons (.int _) (.cons (.int _) (.cons (.int _) .nil)))), by decide⟩
      · exact ⟨.tuple [.int 0, .int 1, .int 0, .int 5], fun H'' g => .tup (g _ _ m2 h2) (.cons (.int _) (.cons (.int _) (.cons (.int _) (.cons (.int _) .nil)))), by decide⟩
      · exact ⟨.tuple [.int 0, .int 0, .int 1, .int 5], fun H'' g => .tup (g _ _ m3 h3) (.cons (.int _) (.cons (.int _) (.cons (.int _) (.cons (.int _) .nil)))), by decide⟩
    · rintro σ H4 ⟨O, r, xs, rfl, hp9, hr9, hO, lx, gx⟩
      refine ⟨4, rfl, by decide, by decide, ?_⟩
      refine for_range (lo := 0) (n := 4) (fun j σ H' => ∃ (ys : List V) (v11 v12 v13 : Option V), σ = [some (.ref a), some (.ref p), v2, v3, v4, v5, v6, v7, some (.ref p9), some (.ref O), some (.ref r), v11, v12, v13] ∧ FrO O H4 H' ∧ H' O = some (.lst ys) ∧ ys.length ≤ 3 + 8 * j ∧ ∀ x ∈ ys, NoO K O H' x) ⟨xs, _, _, _, rfl, fun _ _ _ e => e, hO, by omega, gx⟩ ?_ ?_
      · rintro j σ H5 hj ⟨ys, v11, v12, v13, rfl, f5, hO5, ly, gy⟩
        have hj : j < 4 := hj
        refine ⟨(by show 1 ≤ sizeLine; decide), fun o1 no1 => ⟨(by show 1 ≤ sizeLine; decide), fun o2 no2 eo2 => ?_⟩⟩
        refine ⟨_, rfl, _, _, rfl, rfl, ⟨by decide, by decide, by decide⟩, (by show 8 ≤ sizeLine; decide), fun tw ntw => ?_⟩
        have w1 := same_upd (o := .tup [.int 1]) no1
        have w2 := same_upd (o := .lst [.int 1]) no2
        have w3 := same_upd (o := .tup [.bl true, .bl false, .non, .str "1", .ref o1, .ref o2, .int (-1), .int (10 ^ Int.toNat 40)]) ntw
        have h1 := (w2.trans w3) _ _ (upd_same (a := o1) (o := .tup [.int 1]))
        have h2 := w3 _ _ (upd_same (a := o2) (o := .lst [.int 1]))
        have hw := upd_same (H := upd (upd H5 o1 (.tup [.int 1])) o2 (.lst [.int 1])) (a := tw) (o := .tup [.bl true, .bl false, .non, .str "1", .ref o1, .ref o2, .int (-1), .int (10 ^ Int.toNat 40)])
        have ws := w1.trans (w2.trans w3)
        have mO2 : o2 ≠ O := fun e => by rw [e] at no2; rw [w1 _ _ hO5] at no2; cases no2
        have f6 := f5.trans (FrO.of (O := O) ws)
        have hO6 := ws _ _ hO5
        have gy6 : ∀ x ∈ ys, NoO K O _ x := fun x hx => (gy x hx).fr (FrO.of ws)
        generalize upd (upd (upd H5 o1 (.tup [.int 1])) o2 (.lst [.int 1])) tw (.tup [.bl true, .bl false, .non, .str "1", .ref o1, .ref o2, .int (-1), .int (10 ^ Int.toNat 40)]) = H6 at *
        clear w1 w2 w3 ws gy hO5 f5
        have mO1 : o1 ≠ O := fun e => by rw [e, hO6] at h1; cases h1
        refine ⟨tw, rfl, ⟨_, SqT.of hw⟩, ?_⟩
        have mOw : ∀ {Hx : Hp} {zs : List V}, Hx O = some (.lst zs) → True := fun _ => trivial
        refine for_tup (K := K) (a := tw) (xs := [.bl true, .bl false, .non, .str "1", .ref o1, .ref o2, .int (-1), .int (10 ^ Int.toNat 40)]) (fun i σ H' => ∃ (zs : List V) (v12 v13 : Option V), σ = [some (.ref a), some (.ref p), v2, v3, v4, v5, v6, v7, some (.ref p9), some (.ref O), some (.ref r), some (.int (0 + (j : Int))), v12, v13] ∧ FrO O H6 H' ∧ H' O = some (.lst zs) ∧ zs.length ≤ 3 + 8 * j + i ∧ ∀ x ∈ zs, NoO K O H' x) ⟨ys, _, _, rfl, fun _ _ _ e => e, hO6, by omega, gy6⟩ (fun i σ H' _ h => by
          obtain ⟨_, _, _, _, f', _⟩ := h
          exact SqT.of (FrO.tup hw f' hO6)) ?_ ?_
        · rintro i x σ H7 hx ⟨zs, v12, v13, rfl, f7, hO7, lz, gz⟩
          have hi : i < 8 := (List.getElem?_eq_some_iff.mp hx).1
          obtain ⟨dw, hdw, wr⟩ : ∃ dw, (∀ H'' : Hp, FrO O H6 H'' → Dq K H'' x dw) ∧ WrO dw := by
            have hx := List.mem_of_getElem? hx
            simp only [List.mem_cons, List.not_mem_nil, or_false] at hx
            rcases hx with rfl | rfl | rfl | rfl | rfl | rfl | rfl | rfl
            · exact ⟨_, fun _ _ => .bl true, fun _ _ _ _ => rfl⟩
            · exact ⟨_, fun _ _ => .bl false, fun _ _ _ _ => rfl⟩
            · exact ⟨_, fun _ _ => .non, fun _ _ _ _ => rfl⟩
            · exact ⟨_, fun _ _ => .str _, fun _ _ _ _ => rfl⟩
            · exact ⟨_, fun _ g => .tup (g _ _ mO1 h1) (.cons (.int 1) .nil), fun _ _ _ _ => rfl⟩
            · exact ⟨_, fun _ g => .lst (g _ _ mO2 h2) eo2 (.cons (.int 1) .nil), fun _ _ _ _ => rfl⟩
            · exact ⟨_, fun _ _ => .int _, fun lo hi l0 _ => by
                show (decide (lo ≤ -1) && _) = false
                rw [decide_eq_false (by omega)]
                rfl⟩
            · exact ⟨_, fun _ _ => .int _, fun lo hi _ h0 => by
                have h1 : ¬ ((10 : Int) ^ 40 ≤ hi) := by omega
                show (decide (lo ≤ (10 : Int) ^ 40) && decide ((10 : Int) ^ 40 ≤ hi)) = false
                rw [decide_eq_false h1, Bool.and_false]⟩
          have hr7 : H7 r = some (.tup [.int 0, .int 1, .int 1, .int 5]) := FrO.tup hr9 (f6.trans f7) hO
          refine ⟨_, rfl, .inl ⟨rfl, _, SqL.of hO7⟩, ?_⟩
          refine ⟨_, rfl, no_part ⟨_, rfl, _, rfl, ?_⟩⟩
          refine sl_uni hr7 fun u1 H8 w8 hu1 => ?_
          refine ⟨_, rfl, (by show 1 ≤ sizeLine; decide), fun u2 nu2 => ?_⟩
          have w9 := same_upd (o := .tup [x]) nu2
          have hu2 : upd H8 u2 (.tup [x]) u2 = some (.tup [x]) := upd_same
          generalize upd H8 u2 (.tup [x]) = H9 at w9 hu2 ⊢
          have c1 := cutV_length [V.int 0, .int 1, .int 1, .int 5] none (some (0 + (j : Int)))
          have c2 := cutV_length [V.int 0, .int 1, .int 1, .int 5] (some (0 + (j : Int) + 1)) none
          have c1 : (cutV [V.int 0, .int 1, .int 1, .int 5] none (some (0 + (j : Int)))).length ≤ 4 := c1
          have c2 : (cutV [V.int 0, .int 1, .int 1, .int 5] (some (0 + (j : Int) + 1)) none).length ≤ 4 := c2
          refine cat_uni (w9 _ _ hu1) hu2 (Nat.le_trans (show _ + 1 ≤ 100 by omega) (by decide)) fun u3 H10 w10 hu3 => ?_
          have w70 := w8.trans (w9.trans w10)
          refine ⟨_, rfl, _, rfl, _, _, rfl, rfl, _, rfl, no_part ?_⟩
          refine sl_uni (w70 _ _ hr7) fun u4 H11 w11 hu4 => ?_
          refine cat_uni (w11 _ _ hu3) hu4 (by rw [List.length_append]; exact Nat.le_trans (show _ + 1 + _ ≤ 100 by omega) (by decide)) fun u5 H12 w12 hu5 => ?_
          have s712 := w70.trans (w11.trans w12)
          have hO12 := s712 _ _ hO7
          have f12 := f7.trans (FrO.of (O := O) s712)
          have mu5 : u5 ≠ O := fun e => by rw [e, hO12] at hu5; cases hu5
          obtain ⟨dd, _, z2, z3⟩ := put_no hj wr hu5 (hdw _ f12)
          have hn : NoO K O H12 (.ref u5) := ⟨dd, fun H'' g => z3 H'' (by rw [hu5]; exact g _ _ mu5 hu5) (hdw _ (f12.trans g)), z2⟩
          refine ⟨O, _, _, rfl, rfl, hO12, Nat.lt_of_le_of_lt (show zs.length ≤ 100 by omega) (by decide), zs ++ [.ref u5], _, _, rfl, f12.trans FrO.put, upd_same, by rw [List.length_append, List.length_singleton]; omega, fun z hz => ?_⟩
          rcases List.mem_append.mp hz with hz | hz
          · exact (gz z hz).fr ((FrO.of s712).trans FrO.put)
          · rw [List.mem_singleton.mp hz]
            exact hn.fr FrO.put
        · rintro σ H7 ⟨zs, v12, v13, rfl, f7, hO7, lz, gz⟩
          exact ⟨zs, _, _, _, rfl, f6.trans f7, hO7, by have lz : zs.length ≤ 3 + 8 * j + 8 := lz; omega, gz⟩
      · rintro σ H5 ⟨ys, v11, v12, v13, rfl, f5, hO5, ly, gy⟩
        have hp5 := FrO.purse hp9 f5 hO
        have hr5 := FrO.tup hr9 f5 hO
        obtain ⟨d5, t5, a5, b5⟩ := id hp5
        refine ⟨_, rfl, O, rfl, ⟨_, SqL.of hO5⟩, fun U nU => ?_⟩
        refine lc_mL (fun _ => V.bl true) hO5 nU (by omega) ?_ gName_mono ?_
        · intro i x H7 hx s7 R' hR'
          obtain ⟨d, g1, g2⟩ := gy x (List.mem_of_getElem? hx)
          refine ⟨rfl, _, rfl, _, rfl, p9, d5, _, rfl, s7 _ _ a5, p9, 2, f9, x, d, rfl, hp5.same s7, g1 H7 (fun b o _ e => s7 _ _ e), _, rfl, ?_⟩
          rw [g2]
          exact ⟨_, _, rfl, rfl, hR' H7 (Same.refl _)⟩
        intro H7 s7 hU
        have hU : H7 U = some (.lst ((List.replicate ys.length true).map V.bl)) := by
          rw [hU]
          congr 2
          refine List.ext_getElem (by simp) fun i h1 h2 => ?_
          rw [List.getElem_map, List.getElem_map, List.getElem_replicate]
        refine ⟨U, _, rfl, SqL.of hU, ?_⟩
        rw [show (List.replicate ys.length true).all id = true by simp]
        refine ⟨_, rfl, iteT ?_⟩
        refine ⟨_, rfl, _, rfl, p9, d5, _, rfl, s7 _ _ a5, p9, 2, f9, _, .tuple [.int 0, .int 1, .int 1, .int 5], rfl, hp5.same s7, .tup (s7 _ _ hr5) (.cons (.int _) (.cons (.int _) (.cons (.int _) (.cons (.int _) .nil)))), _, rfl, ?_⟩
        rw [show offAt 2 f9 (.tuple [.int 0, .int 1, .int 1, .int 5]) = true by decide]
        exact ⟨_, _, rfl, rfl, kk H7⟩
end
end Sm

set_option Elab.async false
set_option linter.all false
set_option maxRecDepth 100000
set_option maxHeartbeats 16000000
namespace Sm
open PySem PySem.Spec PyProof.Rows L2 LamX
theorem inT1 {α : Type} {p : α → Prop} {a0 : α} (x0 : p a0) : ∀ t ∈ [a0], p t := by
  intro t ht
  simp only [List.mem_cons, List.not_mem_nil, or_false] at ht
  subst ht
  exact x0
theorem all_mk {l : PySem.W.OpenLaw} {w : World} {K : PySem.W.Frag} {h : Heap} {mg : Str → Option Value} {fa : Addr} (X : K.In h) (G : h.Ns mainGlobals mg) (hfa : mg "law" = some (.ref fa)) {q : Program} (own : ∀ (nm : Str) (f : Addr), ((recsOf q).any fun e => e.name == nm) = true → mg nm = some (.ref f) → LamX.OwnTab K f h) {cL : Addr}
    {F_is_whole : Addr} {od_is_whole an_is_whole : Option Addr} {sl_is_whole : Array (Option Value)} {oc_is_whole kV_is_whole dc_is_whole pm_is_whole cd_is_whole ct_is_whole : Value} (a_is_whole : PySem.W.nsIn K mainGlobals "is_whole" = some (some (.ref F_is_whole))) (l_is_whole : K.lookup F_is_whole = some ⟨oc_is_whole, od_is_whole, .func (PySem.W.fnOf "is_whole" "is_whole" (defArgs s_is_whole) (defBody s_is_whole) (defScope s_is_whole) .none kV_is_whole dc_is_whole pm_is_whole an_is_whole cd_is_whole ct_is_whole), sl_is_whole⟩) (c_is_whole : PySem.W.codeIn K cd_is_whole "is_whole" = true) (k_is_whole : PySem.W.keepIn K (.ref F_is_whole) = true)
    {F_is_within : Addr} {od_is_within an_is_within : Option Addr} {sl_is_within : Array (Option Value)} {oc_is_within kV_is_within dc_is_within pm_is_within cd_is_within ct_is_within : Value} (a_is_within : PySem.W.nsIn K mainGlobals "is_within" = some (some (.ref F_is_within))) (l_is_within : K.lookup F_is_within = some ⟨oc_is_within, od_is_within, .func (PySem.W.fnOf "is_within" "is_within" (defArgs s_is_within) (defBody s_is_within) (defScope s_is_within) .none kV_is_within dc_is_within pm_is_within an_is_within cd_is_within ct_is_within), sl_is_within⟩) (c_is_within : PySem.W.codeIn K cd_is_within "is_within" = true) (k_is_within : PySem.W.keepIn K (.ref F_is_within) = true)
    {F_is_amount : Addr} {od_is_amount an_is_amount : Option Addr} {sl_is_amount : Array (Option Value)} {oc_is_amount kV_is_amount dc_is_amount pm_is_amount cd_is_amount ct_is_amount : Value} (a_is_amount : PySem.W.nsIn K mainGlobals "is_amount" = some (some (.ref F_is_amount))) (l_is_amount : K.lookup F_is_amount = some ⟨oc_is_amount, od_is_amount, .func (PySem.W.fnOf "is_amount" "is_amount" (defArgs s_is_amount) (defBody s_is_amount) (defScope s_is_amount) .none kV_is_amount dc_is_amount pm_is_amount an_is_amount cd_is_amount ct_is_amount), sl_is_amount⟩) (c_is_amount : PySem.W.codeIn K cd_is_amount "is_amount" = true) (k_is_amount : PySem.W.keepIn K (.ref F_is_amount) = true)
    {F_is_offer : Addr} {od_is_offer an_is_offer : Option Addr} {sl_is_offer : Array (Option Value)} {oc_is_offer kV_is_offer dc_is_offer pm_is_offer cd_is_offer ct_is_offer : Value} (a_is_offer : PySem.W.nsIn K mainGlobals "is_offer" = some (some (.ref F_is_offer))) (l_is_offer : K.lookup F_is_offer = some ⟨oc_is_offer, od_is_offer, .func (PySem.W.fnOf "is_offer" "is_offer" (defArgs s_is_offer) (defBody s_is_offer) (defScope s_is_offer) .none kV_is_offer dc_is_offer pm_is_offer an_is_offer cd_is_offer ct_is_offer), sl_is_offer⟩) (c_is_offer : PySem.W.codeIn K cd_is_offer "is_offer" = true) (k_is_offer : PySem.W.keepIn K (.ref F_is_offer) = true)
    {F_check_kinds : Addr} {od_check_kinds an_check_kinds : Option Addr} {sl_check_kinds : Array (Option Value)} {oc_check_kinds kV_check_kinds dc_check_kinds pm_check_kinds cd_check_kinds ct_check_kinds : Value} (a_check_kinds : PySem.W.nsIn K mainGlobals "check_kinds" = some (some (.ref F_check_kinds))) (l_check_kinds : K.lookup F_check_kinds = some ⟨oc_check_kinds, od_check_kinds, .func (PySem.W.fnOf "check_kinds" "check_kinds" (defArgs s_check_kinds) (defBody s_check_kinds) (defScope s_check_kinds) .none kV_check_kinds dc_check_kinds pm_check_kinds an_check_kinds cd_check_kinds ct_check_kinds), sl_check_kinds⟩) (c_check_kinds : PySem.W.codeIn K cd_check_kinds "check_kinds" = true) (k_check_kinds : PySem.W.keepIn K (.ref F_check_kinds) = true)
    {F_l_deck : Addr} {od_l_deck an_l_deck : Option Addr} {sl_l_deck : Array (Option Value)} {oc_l_deck kV_l_deck dc_l_deck pm_l_deck cd_l_deck ct_l_deck : Value} (a_l_deck : PySem.W.nsIn K mainGlobals "_law_deck" = some (some (.ref F_l_deck))) (l_l_deck : K.lookup F_l_deck = some ⟨oc_l_deck, od_l_deck, .func (PySem.W.fnOf "_law_deck" "_law_deck" (defArgs s_l_deck) (defBody s_l_deck) (defScope s_l_deck) .none kV_l_deck dc_l_deck pm_l_deck an_l_deck cd_l_deck ct_l_deck), sl_l_deck⟩) (c_l_deck : PySem.W.codeIn K cd_l_deck "_law_deck" = true) (k_l_deck : PySem.W.keepIn K (.ref F_l_deck) = true)
    {F_l_draw : Addr} {od_l_draw an_l_draw : Option Addr} {sl_l_draw : Array (Option Value)} {oc_l_draw kV_l_draw dc_l_draw pm_l_draw cd_l_draw ct_l_draw : Value} (a_l_draw : PySem.W.nsIn K mainGlobals "_law_draw" = some (some (.ref F_l_draw))) (l_l_draw : K.lookup F_l_draw = some ⟨oc_l_draw, od_l_draw, .func (PySem.W.fnOf "_law_draw" "_law_draw" (defArgs s_l_draw) (defBody s_l_draw) (defScope s_l_draw) .none kV_l_draw dc_l_draw pm_l_draw an_l_draw cd_l_draw ct_l_draw), sl_l_draw⟩) (c_l_draw : PySem.W.codeIn K cd_l_draw "_law_draw" = true) (k_l_draw : PySem.W.keepIn K (.ref F_l_draw) = true)
    {F_l_one : Addr} {od_l_one an_l_one : Option Addr} {sl_l_one : Array (Option Value)} {oc_l_one kV_l_one dc_l_one pm_l_one cd_l_one ct_l_one : Value} (a_l_one : PySem.W.nsIn K mainGlobals "_law_one" = some (some (.ref F_l_one))) (l_l_one : K.lookup F_l_one = some ⟨oc_l_one, od_l_one, .func (PySem.W.fnOf "_law_one" "_law_one" (defArgs s_l_one) (defBody s_l_one) (defScope s_l_one) .none kV_l_one dc_l_one pm_l_one an_l_one cd_l_one ct_l_one), sl_l_one⟩) (c_l_one : PySem.W.codeIn K cd_l_one "_law_one" = true) (k_l_one : PySem.W.keepIn K (.ref F_l_one) = true)
    {F_l_odd : Addr} {od_l_odd an_l_odd : Option Addr} {sl_l_odd : Array (Option Value)} {oc_l_odd kV_l_odd dc_l_odd pm_l_odd cd_l_odd ct_l_odd : Value} (a_l_odd : PySem.W.nsIn K mainGlobals "_law_odd" = some (some (.ref F_l_odd))) (l_l_odd : K.lookup F_l_odd = some ⟨oc_l_odd, od_l_odd, .func (PySem.W.fnOf "_law_odd" "_law_odd" (defArgs s_l_odd) (defBody s_l_odd) (defScope s_l_odd) .none kV_l_odd dc_l_odd pm_l_odd an_l_odd cd_l_odd ct_l_odd), sl_l_odd⟩) (c_l_odd : PySem.W.codeIn K cd_l_odd "_law_odd" = true) (k_l_odd : PySem.W.keepIn K (.ref F_l_odd) = true)
    {F_l_amounts : Addr} {od_l_amounts an_l_amounts : Option Addr} {sl_l_amounts : Array (Option Value)} {oc_l_amounts kV_l_amounts dc_l_amounts pm_l_amounts cd_l_amounts ct_l_amounts : Value} (a_l_amounts : PySem.W.nsIn K mainGlobals "_law_amounts" = some (some (.ref F_l_amounts))) (l_l_amounts : K.lookup F_l_amounts = some ⟨oc_l_amounts, od_l_amounts, .func (PySem.W.fnOf "_law_amounts" "_law_amounts" (defArgs s_l_amounts) (defBody s_l_amounts) (defScope s_l_amounts) .none kV_l_amounts dc_l_amounts pm_l_amounts an_l_amounts cd_l_amounts ct_l_amounts), sl_l_amounts⟩) (c_l_amounts : PySem.W.codeIn K cd_l_amounts "_law_amounts" = true) (k_l_amounts : PySem.W.keepIn K (.ref F_l_amounts) = true)
    {F_l_near : Addr} {od_l_near an_l_near : Option Addr} {sl_l_near : Array (Option Value)} {oc_l_near kV_l_near dc_l_near pm_l_near cd_l_near ct_l_near : Value} (a_l_near : PySem.W.nsIn K mainGlobals "_law_near" = some (some (.ref F_l_near))) (l_l_near : K.lookup F_l_near = some ⟨oc_l_near, od_l_near, .func (PySem.W.fnOf "_law_near" "_law_near" (defArgs s_l_near) (defBody s_l_near) (defScope s_l_near) .none kV_l_near dc_l_near pm_l_near an_l_near cd_l_near ct_l_near), sl_l_near⟩) (c_l_near : PySem.W.codeIn K cd_l_near "_law_near" = true) (k_l_near : PySem.W.keepIn K (.ref F_l_near) = true)
    {F_l_other_kinds : Addr} {od_l_other_kinds an_l_other_kinds : Option Addr} {sl_l_other_kinds : Array (Option Value)} {oc_l_other_kinds kV_l_other_kinds dc_l_other_kinds pm_l_other_kinds cd_l_other_kinds ct_l_other_kinds : Value} (a_l_other_kinds : PySem.W.nsIn K mainGlobals "_law_other_kinds" = some (some (.ref F_l_other_kinds))) (l_l_other_kinds : K.lookup F_l_other_kinds = some ⟨oc_l_other_kinds, od_l_other_kinds, .func (PySem.W.fnOf "_law_other_kinds" "_law_other_kinds" (defArgs s_l_other_kinds) (defBody s_l_other_kinds) (defScope s_l_other_kinds) .none kV_l_other_kinds dc_l_other_kinds pm_l_other_kinds an_l_other_kinds cd_l_other_kinds ct_l_other_kinds), sl_l_other_kinds⟩) (c_l_other_kinds : PySem.W.codeIn K cd_l_other_kinds "_law_other_kinds" = true) (k_l_other_kinds : PySem.W.keepIn K (.ref F_l_other_kinds) = true)
    {F_l_difference : Addr} {od_l_difference an_l_difference : Option Addr} {sl_l_difference : Array (Option Value)} {oc_l_difference kV_l_difference dc_l_difference pm_l_difference cd_l_difference ct_l_difference : Value} (a_l_difference : PySem.W.nsIn K mainGlobals "_law_difference" = some (some (.ref F_l_difference))) (l_l_difference : K.lookup F_l_difference = some ⟨oc_l_difference, od_l_difference, .func (PySem.W.fnOf "_law_difference" "_law_difference" (defArgs s_l_difference) (defBody s_l_difference) (defScope s_l_difference) .none kV_l_difference dc_l_difference pm_l_difference an_l_difference cd_l_difference ct_l_difference), sl_l_difference⟩) (c_l_difference : PySem.W.codeIn K cd_l_difference "_law_difference" = true) (k_l_difference : PySem.W.keepIn K (.ref F_l_difference) = true)
    {F_l_pair : Addr} {od_l_pair an_l_pair : Option Addr} {sl_l_pair : Array (Option Value)} {oc_l_pair kV_l_pair dc_l_pair pm_l_pair cd_l_pair ct_l_pair : Value} (a_l_pair : PySem.W.nsIn K mainGlobals "_law_pair" = some (some (.ref F_l_pair))) (l_l_pair : K.lookup F_l_pair = some ⟨oc_l_pair, od_l_pair, .func (PySem.W.fnOf "_law_pair" "_law_pair" (defArgs s_l_pair) (defBody s_l_pair) (defScope s_l_pair) .none kV_l_pair dc_l_pair pm_l_pair an_l_pair cd_l_pair ct_l_pair), sl_l_pair⟩) (c_l_pair : PySem.W.codeIn K cd_l_pair "_law_pair" = true) (k_l_pair : PySem.W.keepIn K (.ref F_l_pair) = true)
    {F_l_times : Addr} {od_l_times an_l_times : Option Addr} {sl_l_times : Array (Option Value)} {oc_l_times kV_l_times dc_l_times pm_l_times cd_l_times ct_l_times : Value} (a_l_times : PySem.W.nsIn K mainGlobals "_law_times" = some (some (.ref F_l_times))) (l_l_times : K.lookup F_l_times = some ⟨oc_l_times, od_l_times, .func (PySem.W.fnOf "_law_times" "_law_times" (defArgs s_l_times) (defBody s_l_times) (defScope s_l_times) .none kV_l_times dc_l_times pm_l_times an_l_times cd_l_times ct_l_times), sl_l_times⟩) (c_l_times : PySem.W.codeIn K cd_l_times "_law_times" = true) (k_l_times : PySem.W.keepIn K (.ref F_l_times) = true)
    {F_l_offers : Addr} {od_l_offers an_l_offers : Option Addr} {sl_l_offers : Array (Option Value)} {oc_l_offers kV_l_offers dc_l_offers pm_l_offers cd_l_offers ct_l_offers : Value} (a_l_offers : PySem.W.nsIn K mainGlobals "_law_offers" = some (some (.ref F_l_offers))) (l_l_offers : K.lookup F_l_offers = some ⟨oc_l_offers, od_l_offers, .func (PySem.W.fnOf "_law_offers" "_law_offers" (defArgs s_l_offers) (defBody s_l_offers) (defScope s_l_offers) .none kV_l_offers dc_l_offers pm_l_offers an_l_offers cd_l_offers ct_l_offers), sl_l_offers⟩) (c_l_offers : PySem.W.codeIn K cd_l_offers "_law_offers" = true) (k_l_offers : PySem.W.keepIn K (.ref F_l_offers) = true)
    {F_law : Addr} {od_law an_law : Option Addr} {sl_law : Array (Option Value)} {oc_law kV_law dc_law pm_law ct_law : Value} (a_law : PySem.W.nsIn K mainGlobals "law" = some (some (.ref F_law))) (l_law : K.lookup F_law = some ⟨oc_law, od_law, .func (PySem.W.fnOf "law" "law" (defArgs s_law) (defBody s_law) (defScope s_law) .none kV_law dc_law pm_law an_law (.ref cL) ct_law), sl_law⟩) (c_law : PySem.W.codeIn K (.ref cL) "law" = true) (k_law : PySem.W.keepIn K (.ref F_law) = true)
    {cChangeError : Addr}
    {cNotEnough fNotEnough NnNotEnough : Addr} {nmNotEnough qnNotEnough : Str} {bsNotEnough : List Value} {snNotEnough : List Str} {subNotEnough : List Value} {abNotEnough : Bool} {colNotEnough : Option Bool} {ddNotEnough : Option Addr} {m0NotEnough m1NotEnough m2NotEnough m3NotEnough m5NotEnough : Option Value} {odINotEnough anINotEnough : Option Addr} {slINotEnough : Array (Option Value)} {ocINotEnough kVINotEnough dcINotEnough pmINotEnough cdINotEnough ctINotEnough : Value}
    {cNoNumber fNoNumber NnNoNumber : Addr} {nmNoNumber qnNoNumber : Str} {bsNoNumber : List Value} {snNoNumber : List Str} {subNoNumber : List Value} {abNoNumber : Bool} {colNoNumber : Option Bool} {ddNoNumber : Option Addr} {m0NoNumber m1NoNumber m2NoNumber m3NoNumber m5NoNumber : Option Value} {odINoNumber anINoNumber : Option Addr} {slINoNumber : Array (Option Value)} {ocINoNumber kVINoNumber dcINoNumber pmINoNumber cdINoNumber ctINoNumber : Value}
    {cOtherKinds : Addr}
    {cPurse : Addr}
    {fPurse_init : Addr} {odPurse_init anPurse_init : Option Addr} {slPurse_init : Array (Option Value)} {ocPurse_init kVPurse_init dcPurse_init pmPurse_init cdPurse_init ctPurse_init : Value}
    {fPurse_add : Addr} {odPurse_add anPurse_add : Option Addr} {slPurse_add : Array (Option Value)} {ocPurse_add kVPurse_add dcPurse_add pmPurse_add cdPurse_add ctPurse_add : Value}
    {fPurse_sub : Addr} {odPurse_sub anPurse_sub : Option Addr} {slPurse_sub : Array (Option Value)} {ocPurse_sub kVPurse_sub dcPurse_sub pmPurse_sub cdPurse_sub ctPurse_sub : Value}
    {fPurse_mul : Addr} {odPurse_mul anPurse_mul : Option Addr} {slPurse_mul : Array (Option Value)} {ocPurse_mul kVPurse_mul dcPurse_mul pmPurse_mul cdPurse_mul ctPurse_mul : Value}
    {fPurse_contains : Addr} {odPurse_contains anPurse_contains : Option Addr} {slPurse_contains : Array (Option Value)} {ocPurse_contains kVPurse_contains dcPurse_contains pmPurse_contains cdPurse_contains ctPurse_contains : Value}
    {fPurse_covers : Addr} {odPurse_covers anPurse_covers : Option Addr} {slPurse_covers : Array (Option Value)} {ocPurse_covers kVPurse_covers dcPurse_covers pmPurse_covers cdPurse_covers ctPurse_covers : Value}
    {PL : Addr} {ddL : Option Addr} {slL : Array (Option Value)} {vsL : Array Value} {eL : Value}
    (a_ChangeError : PySem.W.nsIn K mainGlobals "ChangeError" = some (some (.ref cChangeError)))
    (e_ChangeError : PySem.W.subIn K (.ref cChangeError) (.type "BaseException") = some true)
    (h_ChangeError : PySem.W.hasDictIn K cChangeError = true)
    (t_ChangeError : PySem.W.typeIn K (.ref cChangeError) = some (.type "type"))
    (i_ChangeError : PySem.W.isClsIn K cChangeError = true)
    (g_cl : PySem.W.specialIn K (.builtin "object.__class__") "__get__" = some (some (.builtin "getset_descriptor.__get__")))
    (t_cl : PySem.W.takesIn K (.builtin "object.__class__") = some true)
    (a_NotEnough : PySem.W.nsIn K mainGlobals "NotEnough" = some (some (.ref cNotEnough)))
    (x_NotEnough : K.lookup cNotEnough = some (excClassObj nmNotEnough qnNotEnough cNotEnough NnNotEnough bsNotEnough [.ref cChangeError, .type "ValueError", .type "Exception", .type "BaseException", .type "object"] true snNotEnough subNotEnough abNotEnough colNotEnough ddNotEnough m0NotEnough m1NotEnough m2NotEnough m3NotEnough m5NotEnough "ValueError.__new__"))
    (fsa_NotEnough : PySem.W.findIn K (.ref cNotEnough) "__setattr__" = some (some (.builtin "object.__setattr__")))
    (fga_NotEnough : PySem.W.findIn K (.ref cNotEnough) "__getattribute__" = some (some (.builtin "BaseException.__getattribute__")))
    (fgg_NotEnough : PySem.W.findIn K (.ref cNotEnough) "__getattr__" = some none)
    (fno_NotEnough : PySem.W.findIn K (.ref cNotEnough) "kind" = some none)
    (fiC_NotEnough : PySem.W.findIn K (.ref cNotEnough) "__init__" = some (some (.ref fNotEnough)))
    (fcl_NotEnough : PySem.W.findIn K (.ref cNotEnough) "__class__" = some (some (.builtin "object.__class__")))
    (tf_NotEnough : PySem.W.typeIn K (.ref fNotEnough) = some (.type "function"))
    (t_NotEnough : PySem.W.typeIn K (.ref cNotEnough) = some (.type "type"))
    (k_NotEnough : PySem.W.keepIn K (.ref cNotEnough) = true)
    (e_NotEnough : PySem.W.subIn K (.ref cNotEnough) (.type "BaseException") = some true)
    (s_NotEnough : PySem.W.subIn K (.ref cNotEnough) (.ref cNotEnough) = some true)
    (h_NotEnough : PySem.W.hasDictIn K cNotEnough = true)
    (m_NotEnough : PySem.W.mroIn K cNotEnough (.type "object") = some true)
    (lf_NotEnough : K.lookup fNotEnough = some ⟨ocINotEnough, odINotEnough, .func (PySem.W.fnOf "__init__" "NotEnough.__init__" (defArgs s_NotEnough_init) (defBody s_NotEnough_init) (defScope s_NotEnough_init) .none kVINotEnough dcINotEnough pmINotEnough anINotEnough cdINotEnough ctINotEnough), slINotEnough⟩)
    (cf_NotEnough : PySem.W.codeIn K cdINotEnough "NotEnough.__init__" = true)
    (kf_NotEnough : PySem.W.keepIn K (.ref fNotEnough) = true)
    (a_NoNumber : PySem.W.nsIn K mainGlobals "NoNumber" = some (some (.ref cNoNumber)))
    (x_NoNumber : K.lookup cNoNumber = some (excClassObj nmNoNumber qnNoNumber cNoNumber NnNoNumber bsNoNumber [.ref cChangeError, .type "ValueError", .type "Exception", .type "BaseException", .type "object"] true snNoNumber subNoNumber abNoNumber colNoNumber ddNoNumber m0NoNumber m1NoNumber m2NoNumber m3NoNumber m5NoNumber "ValueError.__new__"))
    (fsa_NoNumber : PySem.W.findIn K (.ref cNoNumber) "__setattr__" = some (some (.builtin "object.__setattr__")))
    (fga_NoNumber : PySem.W.findIn K (.ref cNoNumber) "__getattribute__" = some (some (.builtin "BaseException.__getattribute__")))
    (fgg_NoNumber : PySem.W.findIn K (.ref cNoNumber) "__getattr__" = some none)
    (fno_NoNumber : PySem.W.findIn K (.ref cNoNumber) "value" = some none)
    (fiC_NoNumber : PySem.W.findIn K (.ref cNoNumber) "__init__" = some (some (.ref fNoNumber)))
    (fcl_NoNumber : PySem.W.findIn K (.ref cNoNumber) "__class__" = some (some (.builtin "object.__class__")))
    (tf_NoNumber : PySem.W.typeIn K (.ref fNoNumber) = some (.type "function"))
    (t_NoNumber : PySem.W.typeIn K (.ref cNoNumber) = some (.type "type"))
    (k_NoNumber : PySem.W.keepIn K (.ref cNoNumber) = true)
    (e_NoNumber : PySem.W.subIn K (.ref cNoNumber) (.type "BaseException") = some true)
    (s_NoNumber : PySem.W.subIn K (.ref cNoNumber) (.ref cNoNumber) = some true)
    (h_NoNumber : PySem.W.hasDictIn K cNoNumber = true)
    (m_NoNumber : PySem.W.mroIn K cNoNumber (.type "object") = some true)
    (lf_NoNumber : K.lookup fNoNumber = some ⟨ocINoNumber, odINoNumber, .func (PySem.W.fnOf "__init__" "NoNumber.__init__" (defArgs s_NoNumber_init) (defBody s_NoNumber_init) (defScope s_NoNumber_init) .none kVINoNumber dcINoNumber pmINoNumber anINoNumber cdINoNumber ctINoNumber), slINoNumber⟩)
    (cf_NoNumber : PySem.W.codeIn K cdINoNumber "NoNumber.__init__" = true)
    (kf_NoNumber : PySem.W.keepIn K (.ref fNoNumber) = true)
    (a_OtherKinds : PySem.W.nsIn K mainGlobals "OtherKinds" = some (some (.ref cOtherKinds)))
    (q_OtherKinds : PySem.W.excIn K cOtherKinds [.type "ValueError", .type "Exception", .type "BaseException", .type "object"] "ValueError.__new__" = true)
    (fga_OtherKinds : PySem.W.findIn K (.ref cOtherKinds) "__getattribute__" = some (some (.builtin "BaseException.__getattribute__")))
    (fgg_OtherKinds : PySem.W.findIn K (.ref cOtherKinds) "__getattr__" = some none)
    (fcl_OtherKinds : PySem.W.findIn K (.ref cOtherKinds) "__class__" = some (some (.builtin "object.__class__")))
    (t_OtherKinds : PySem.W.typeIn K (.ref cOtherKinds) = some (.type "type"))
    (k_OtherKinds : PySem.W.keepIn K (.ref cOtherKinds) = true)
    (e_OtherKinds : PySem.W.subIn K (.ref cOtherKinds) (.type "BaseException") = some true)
    (s_OtherKinds : PySem.W.subIn K (.ref cOtherKinds) (.ref cOtherKinds) = some true)
    (h_OtherKinds : PySem.W.hasDictIn K cOtherKinds = true)
    (m_OtherKinds : PySem.W.mroIn K cOtherKinds (.type "object") = some true)
    (isub_NotEnough_ChangeError : PySem.W.subIn K (.ref cNotEnough) (.ref cChangeError) = some true)
    (isub_NoNumber_ChangeError : PySem.W.subIn K (.ref cNoNumber) (.ref cChangeError) = some true)
    (isub_OtherKinds_ChangeError : PySem.W.subIn K (.ref cOtherKinds) (.ref cChangeError) = some true)
    (a_Purse : PySem.W.nsIn K mainGlobals "Purse" = some (some (.ref cPurse)))
    (pg_Purse : PySem.W.plainGet K cPurse Str.empty = true)
    (hd_Purse : PySem.W.hasDictIn K cPurse = true)
    (po_Purse : PySem.W.plainOver K cPurse = true)
    (sa_Purse : PySem.W.findIn K (.ref cPurse) "__setattr__" = some (some (.builtin "object.__setattr__")))
    (mk_Purse : PySem.W.makesIn K cPurse = true)
    (kp_Purse : PySem.W.keepIn K (.ref cPurse) = true)
    (ha_Purse : PySem.W.findIn K (.ref cPurse) "__class__" = some (some (.builtin "object.__class__")))
    (hm_Purse : PySem.W.mroIn K cPurse (.type "object") = some true)
    (na_Purse_amounts : PySem.W.findIn K (.ref cPurse) "amounts" = some none)
    (at_Purse_init : PySem.W.findIn K (.ref cPurse) "__init__" = some (some (.ref fPurse_init)))
    (fn_Purse_init : PySem.W.isFn K (.ref fPurse_init) = true)
    (kf_Purse_init : PySem.W.keepIn K (.ref fPurse_init) = true)
    (lf_Purse_init : K.lookup fPurse_init = some ⟨ocPurse_init, odPurse_init, .func (PySem.W.fnOf "__init__" "Purse.__init__" (defArgs s_Purse_init) (defBody s_Purse_init) (defScope s_Purse_init) .none kVPurse_init dcPurse_init pmPurse_init anPurse_init cdPurse_init ctPurse_init), slPurse_init⟩)
    (cf_Purse_init : PySem.W.codeIn K cdPurse_init "Purse.__init__" = true)
    (at_Purse_add : PySem.W.findIn K (.ref cPurse) "__add__" = some (some (.ref fPurse_add)))
    (fn_Purse_add : PySem.W.isFn K (.ref fPurse_add) = true)
    (kf_Purse_add : PySem.W.keepIn K (.ref fPurse_add) = true)
    (lf_Purse_add : K.lookup fPurse_add = some ⟨ocPurse_add, odPurse_add, .func (PySem.W.fnOf "__add__" "Purse.__add__" (defArgs s_Purse_add) (defBody s_Purse_add) (defScope s_Purse_add) .none kVPurse_add dcPurse_add pmPurse_add anPurse_add cdPurse_add ctPurse_add), slPurse_add⟩)
    (cf_Purse_add : PySem.W.codeIn K cdPurse_add "Purse.__add__" = true)
    (at_Purse_sub : PySem.W.findIn K (.ref cPurse) "__sub__" = some (some (.ref fPurse_sub)))
    (fn_Purse_sub : PySem.W.isFn K (.ref fPurse_sub) = true)
    (kf_Purse_sub : PySem.W.keepIn K (.ref fPurse_sub) = true)
    (lf_Purse_sub : K.lookup fPurse_sub = some ⟨ocPurse_sub, odPurse_sub, .func (PySem.W.fnOf "__sub__" "Purse.__sub__" (defArgs s_Purse_sub) (defBody s_Purse_sub) (defScope s_Purse_sub) .none kVPurse_sub dcPurse_sub pmPurse_sub anPurse_sub cdPurse_sub ctPurse_sub), slPurse_sub⟩)
    (cf_Purse_sub : PySem.W.codeIn K cdPurse_sub "Purse.__sub__" = true)
    (at_Purse_mul : PySem.W.findIn K (.ref cPurse) "__mul__" = some (some (.ref fPurse_mul)))
    (fn_Purse_mul : PySem.W.isFn K (.ref fPurse_mul) = true)
    (kf_Purse_mul : PySem.W.keepIn K (.ref fPurse_mul) = true)
    (lf_Purse_mul : K.lookup fPurse_mul = some ⟨ocPurse_mul, odPurse_mul, .func (PySem.W.fnOf "__mul__" "Purse.__mul__" (defArgs s_Purse_mul) (defBody s_Purse_mul) (defScope s_Purse_mul) .none kVPurse_mul dcPurse_mul pmPurse_mul anPurse_mul cdPurse_mul ctPurse_mul), slPurse_mul⟩)
    (cf_Purse_mul : PySem.W.codeIn K cdPurse_mul "Purse.__mul__" = true)
    (at_Purse_contains : PySem.W.findIn K (.ref cPurse) "__contains__" = some (some (.ref fPurse_contains)))
    (fn_Purse_contains : PySem.W.isFn K (.ref fPurse_contains) = true)
    (kf_Purse_contains : PySem.W.keepIn K (.ref fPurse_contains) = true)
    (lf_Purse_contains : K.lookup fPurse_contains = some ⟨ocPurse_contains, odPurse_contains, .func (PySem.W.fnOf "__contains__" "Purse.__contains__" (defArgs s_Purse_contains) (defBody s_Purse_contains) (defScope s_Purse_contains) .none kVPurse_contains dcPurse_contains pmPurse_contains anPurse_contains cdPurse_contains ctPurse_contains), slPurse_contains⟩)
    (cf_Purse_contains : PySem.W.codeIn K cdPurse_contains "Purse.__contains__" = true)
    (at_Purse_covers : PySem.W.findIn K (.ref cPurse) "covers" = some (some (.ref fPurse_covers)))
    (fn_Purse_covers : PySem.W.isFn K (.ref fPurse_covers) = true)
    (kf_Purse_covers : PySem.W.keepIn K (.ref fPurse_covers) = true)
    (lf_Purse_covers : K.lookup fPurse_covers = some ⟨ocPurse_covers, odPurse_covers, .func (PySem.W.fnOf "covers" "Purse.covers" (defArgs s_Purse_covers) (defBody s_Purse_covers) (defScope s_Purse_covers) .none kVPurse_covers dcPurse_covers pmPurse_covers anPurse_covers cdPurse_covers ctPurse_covers), slPurse_covers⟩)
    (cf_Purse_covers : PySem.W.codeIn K cdPurse_covers "Purse.covers" = true)
    (first_Purse : PySem.W.selfFirst K cPurse = true)
    (rmul_Purse : PySem.W.findIn K (.ref cPurse) "__rmul__" = some none)
    (kd_Purse : kindsOk K cPurse .Mult = true)
    (tsub_Purse_tuple : PySem.W.subIn K (.ref cPurse) (.type "tuple") = some false)
    (l_cL : K.lookup cL = some ⟨eL, ddL, .fields vsL, slL⟩)
    (e_PL : vsL[11]? = some (.ref PL))
    (d_PL : PySem.W.codeHdIn K cL PL = true)
    (n_PL : K.lookup PL = none)
    (r_L : ((recsOf q).any fun e => e.name == "law") = true)
    (z__law_call : PySem.W.nsIn K mainGlobals "_law_call" = some none)
    (z_abs : PySem.W.nsIn K mainGlobals "abs" = some none)
    (z_all : PySem.W.nsIn K mainGlobals "all" = some none)
    (z_bool : PySem.W.nsIn K mainGlobals "bool" = some none)
    (z_enumerate : PySem.W.nsIn K mainGlobals "enumerate" = some none)
    (z_int : PySem.W.nsIn K mainGlobals "int" = some none)
    (z_isinstance : PySem.W.nsIn K mainGlobals "isinstance" = some none)
    (z_iter : PySem.W.nsIn K mainGlobals "iter" = some none)
    (z_len : PySem.W.nsIn K mainGlobals "len" = some none)
    (z_list : PySem.W.nsIn K mainGlobals "list" = some none)
    (z_max : PySem.W.nsIn K mainGlobals "max" = some none)
    (z_range : PySem.W.nsIn K mainGlobals "range" = some none)
    (z_repr : PySem.W.nsIn K mainGlobals "repr" = some none)
    (z_tuple : PySem.W.nsIn K mainGlobals "tuple" = some none)
    (z_zip : PySem.W.nsIn K mainGlobals "zip" = some none)
    {t_MAX_KINDS : Tok} (g_MAX_KINDS : PySem.W.nsIn K mainGlobals "MAX_KINDS" = some (some (.int 4 t_MAX_KINDS)))
    {t_MAX_AMOUNT : Tok} (g_MAX_AMOUNT : PySem.W.nsIn K mainGlobals "MAX_AMOUNT" = some (some (.int 30 t_MAX_AMOUNT))) :
    ∃ (fd : FuncData) (ct : List (Addr × Addr)) (TT : List (Addr × Str)), (∀ t ∈ ct, h.get? t.2 = some (PySem.W.tabObj #[])) ∧ (∀ t ∈ ct, K.lookup t.2 = none) ∧ (∀ t ∈ ct, PySem.W.codeHdIn K t.1 t.2 = true) ∧ TT.map (·.1) = ct.map (·.2) ∧ (∀ (s : Shared) (v : Value), BindsTo s fd ⟨[v], []⟩ [("_law_script", v)]) ∧ ∀ base : Heap, K.In base → base.Ns mainGlobals mg → (∀ t ∈ ct, TabB base mg t.1 t.2) → FnG l.prog w K mg base 12 fa fd ["_law_script"] (sp_law K TT) := by
  have e := hfa.symm.trans (PySem.W.mg_of X G a_law)
  cases e
  have T : Txt mg := ⟨PySem.W.mg_none_of X G z__law_call, PySem.W.mg_none_of X G z_abs, PySem.W.mg_none_of X G z_all, PySem.W.mg_none_of X G z_bool, PySem.W.mg_none_of X G z_enumerate, PySem.W.mg_none_of X G z_int, PySem.W.mg_none_of X G z_isinstance, PySem.W.mg_none_of X G z_iter, PySem.W.mg_none_of X G z_len, PySem.W.mg_none_of X G z_list, PySem.W.mg_none_of X G z_max, PySem.W.mg_none_of X G z_range, PySem.W.mg_none_of X G z_repr, PySem.W.mg_none_of X G z_tuple, PySem.W.mg_none_of X G z_zip, ⟨_, PySem.W.mg_of X G g_MAX_KINDS⟩, ⟨_, PySem.W.mg_of X G g_MAX_AMOUNT⟩⟩
  have XNotEnough : XVal K mg "NotEnough" "kind" cNotEnough fNotEnough :=
    { g := PySem.W.mg_of X G a_NotEnough, oex := ⟨⟨nmNotEnough, qnNotEnough, NnNotEnough, bsNotEnough, _, snNotEnough, subNotEnough, abNotEnough, colNotEnough, ddNotEnough, m0NotEnough, m1NotEnough, m2NotEnough, m3NotEnough, m5NotEnough, x_NotEnough, by rfl⟩, fsa_NotEnough, e_NotEnough, t_NotEnough, k_NotEnough⟩, no := fno_NotEnough, iC := fiC_NotEnough, tI := tf_NotEnough, xf := ⟨fga_NotEnough, fgg_NotEnough, e_NotEnough, h_NotEnough⟩,
      ec := ⟨fga_NotEnough, fgg_NotEnough, e_NotEnough, h_NotEnough, fcl_NotEnough, g_cl, t_cl, m_NotEnough⟩, te := PySem.W.exm_ref e_NotEnough h_NotEnough t_NotEnough s_NotEnough }
  have iNotEnough : IniF K "NotEnough.__init__" "kind" s_NotEnough_init fNotEnough := ⟨_, fun_mk (st := s_NotEnough_init) lf_NotEnough cf_NotEnough kf_NotEnough, (fun_mk (st := s_NotEnough_init) lf_NotEnough cf_NotEnough kf_NotEnough).binds (ps := ["self", "kind"]) fun _ _ _ _ _ _ us hl => match us, hl with | [_, _], _ => rfl⟩
  have XNoNumber : XVal K mg "NoNumber" "value" cNoNumber fNoNumber :=
    { g := PySem.W.mg_of X G a_NoNumber, oex := ⟨⟨nmNoNumber, qnNoNumber, NnNoNumber, bsNoNumber, _, snNoNumber, subNoNumber, abNoNumber, colNoNumber, ddNoNumber, m0NoNumber, m1NoNumber, m2NoNumber, m3NoNumber, m5NoNumber, x_NoNumber, by rfl⟩, fsa_NoNumber, e_NoNumber, t_NoNumber, k_NoNumber⟩, no := fno_NoNumber, iC := fiC_NoNumber, tI := tf_NoNumber, xf := ⟨fga_NoNumber, fgg_NoNumber, e_NoNumber, h_NoNumber⟩,
      ec := ⟨fga_NoNumber, fgg_NoNumber, e_NoNumber, h_NoNumber, fcl_NoNumber, g_cl, t_cl, m_NoNumber⟩, te := PySem.W.exm_ref e_NoNumber h_NoNumber t_NoNumber s_NoNumber }
  have iNoNumber : IniF K "NoNumber.__init__" "value" s_NoNumber_init fNoNumber := ⟨_, fun_mk (st := s_NoNumber_init) lf_NoNumber cf_NoNumber kf_NoNumber, (fun_mk (st := s_NoNumber_init) lf_NoNumber cf_NoNumber kf_NoNumber).binds (ps := ["self", "value"]) fun _ _ _ _ _ _ us hl => match us, hl with | [_, _], _ => rfl⟩
  have XOtherKinds : XPl K mg "OtherKinds" cOtherKinds := ⟨PySem.W.mg_of X G a_OtherKinds, q_OtherKinds, k_OtherKinds, e_OtherKinds, t_OtherKinds, ⟨fga_OtherKinds, fgg_OtherKinds, e_OtherKinds, h_OtherKinds, fcl_OtherKinds, g_cl, t_cl, m_OtherKinds⟩, PySem.W.exm_ref e_OtherKinds h_OtherKinds t_OtherKinds s_OtherKinds⟩
  have k_NotEnough_ChangeError : PySem.W.kitOne K (.ref cNotEnough) (.ref cChangeError) = some true := kit_own i_ChangeError t_ChangeError isub_NotEnough_ChangeError s_NotEnough
  have k_NoNumber_ChangeError : PySem.W.kitOne K (.ref cNoNumber) (.ref cChangeError) = some true := kit_own i_ChangeError t_ChangeError isub_NoNumber_ChangeError s_NoNumber
  have k_OtherKinds_ChangeError : PySem.W.kitOne K (.ref cOtherKinds) (.ref cChangeError) = some true := kit_own i_ChangeError t_ChangeError isub_OtherKinds_ChangeError s_OtherKinds
  have IPurse : InsC K cPurse := ⟨⟨pg_Purse, hd_Purse, po_Purse, sa_Purse⟩, ha_Purse, g_cl, t_cl, hm_Purse⟩
  have fun_Purse_init := fun_mk (st := s_Purse_init) lf_Purse_init cf_Purse_init kf_Purse_init
  have bin_Purse_init := fun_Purse_init.binds (ps := ["self", "amounts"]) fun _ _ _ _ _ _ us hl => match us, hl with | [_, _], _ => rfl
  have mak_Purse : Mk K cPurse fPurse_init := ⟨mk_Purse, at_Purse_init, fn_Purse_init, kp_Purse⟩
  have fun_Purse_add := fun_mk (st := s_Purse_add) lf_Purse_add cf_Purse_add kf_Purse_add
  have bin_Purse_add := fun_Purse_add.binds (ps := ["self", "other"]) fun _ _ _ _ _ _ us hl => match us, hl with | [_, _], _ => rfl
  have met_Purse_add : Meth K cPurse "__add__" fPurse_add := ⟨at_Purse_add, fn_Purse_add, kf_Purse_add⟩
  have fun_Purse_sub := fun_mk (st := s_Purse_sub) lf_Purse_sub cf_Purse_sub kf_Purse_sub
  have bin_Purse_sub := fun_Purse_sub.binds (ps := ["self", "other"]) fun _ _ _ _ _ _ us hl => match us, hl with | [_, _], _ => rfl
  have met_Purse_sub : Meth K cPurse "__sub__" fPurse_sub := ⟨at_Purse_sub, fn_Purse_sub, kf_Purse_sub⟩
  have fun_Purse_mul := fun_mk (st := s_Purse_mul) lf_Purse_mul cf_Purse_mul kf_Purse_mul
  have bin_Purse_mul := fun_Purse_mul.binds (ps := ["self", "other"]) fun _ _ _ _ _ _ us hl => match us, hl with | [_, _], _ => rfl
  have met_Purse_mul : Meth K cPurse "__mul__" fPurse_mul := ⟨at_Purse_mul, fn_Purse_mul, kf_Purse_mul⟩
  have fun_Purse_contains := fun_mk (st := s_Purse_contains) lf_Purse_contains cf_Purse_contains kf_Purse_contains
  have bin_Purse_contains := fun_Purse_contains.binds (ps := ["self", "x"]) fun _ _ _ _ _ _ us hl => match us, hl with | [_, _], _ => rfl
  have met_Purse_contains : Meth K cPurse "__contains__" fPurse_contains := ⟨at_Purse_contains, fn_Purse_contains, kf_Purse_contains⟩
  have fun_Purse_covers := fun_mk (st := s_Purse_covers) lf_Purse_covers cf_Purse_covers kf_Purse_covers
  have bin_Purse_covers := fun_Purse_covers.binds (ps := ["self", "other"]) fun _ _ _ _ _ _ us hl => match us, hl with | [_, _], _ => rfl
  have met_Purse_covers : Meth K cPurse "covers" fPurse_covers := ⟨at_Purse_covers, fn_Purse_covers, kf_Purse_covers⟩
  have OL : h.get? PL = some (PySem.W.tabObj #[]) := own _ _ r_L (PySem.W.mg_of X G a_law) _ _ _ _ _ _ _ _ l_law rfl rfl l_cL e_PL
  have k_Purse_tuple : PySem.W.kitOne K (.ref cPurse) (.type "tuple") = some false := kit_typ (by decide +kernel) tsub_Purse_tuple
  have R : TxP K mg cPurse fPurse_init fPurse_add fPurse_sub fPurse_mul fPurse_contains fPurse_covers := ⟨PySem.W.mg_of X G a_Purse, IPurse, mak_Purse, na_Purse_amounts, first_Purse, ⟨at_Purse_add, fn_Purse_add⟩, ⟨at_Purse_sub, fn_Purse_sub⟩, ⟨at_Purse_mul, fn_Purse_mul⟩, ⟨at_Purse_contains, fn_Purse_contains⟩, met_Purse_covers, rmul_Purse, kd_Purse, k_Purse_tuple⟩
  have D_is_whole : Df K mg "is_whole" s_is_whole ["value"] := ⟨_, _, fun_mk (st := s_is_whole) l_is_whole c_is_whole k_is_whole, PySem.W.mg_of X G a_is_whole, (fun_mk (st := s_is_whole) l_is_whole c_is_whole k_is_whole).binds (ps := ["value"]) fun _ _ _ _ _ _ us hl => match us, hl with | [_], _ => rfl⟩
  have D_is_within : Df K mg "is_within" s_is_within ["value", "low", "high"] := ⟨_, _, fun_mk (st := s_is_within) l_is_within c_is_within k_is_within, PySem.W.mg_of X G a_is_within, (fun_mk (st := s_is_within) l_is_within c_is_within k_is_within).binds (ps := ["value", "low", "high"]) fun _ _ _ _ _ _ us hl => match us, hl with | [_, _, _], _ => rfl⟩
  have D_is_amount : Df K mg "is_amount" s_is_amount ["value"] := ⟨_, _, fun_mk (st := s_is_amount) l_is_amount c_is_amount k_is_amount, PySem.W.mg_of X G a_is_amount, (fun_mk (st := s_is_amount) l_is_amount c_is_amount k_is_amount).binds (ps := ["value"]) fun _ _ _ _ _ _ us hl => match us, hl with | [_], _ => rfl⟩
  have D_is_offer : Df K mg "is_offer" s_is_offer ["kinds", "value"] := ⟨_, _, fun_mk (st := s_is_offer) l_is_offer c_is_offer k_is_offer, PySem.W.mg_of X G a_is_offer, (fun_mk (st := s_is_offer) l_is_offer c_is_offer k_is_offer).binds (ps := ["kinds", "value"]) fun _ _ _ _ _ _ us hl => match us, hl with | [_, _], _ => rfl⟩
  have D_check_kinds : Df K mg "check_kinds" s_check_kinds ["one", "other"] := ⟨_, _, fun_mk (st := s_check_kinds) l_check_kinds c_check_kinds k_check_kinds, PySem.W.mg_of X G a_check_kinds, (fun_mk (st := s_check_kinds) l_check_kinds c_check_kinds k_check_kinds).binds (ps := ["one", "other"]) fun _ _ _ _ _ _ us hl => match us, hl with | [_, _], _ => rfl⟩
  have D_l_deck : Df K mg "_law_deck" s_l_deck ["_law_script"] := ⟨_, _, fun_mk (st := s_l_deck) l_l_deck c_l_deck k_l_deck, PySem.W.mg_of X G a_l_deck, (fun_mk (st := s_l_deck) l_l_deck c_l_deck k_l_deck).binds (ps := ["_law_script"]) fun _ _ _ _ _ _ us hl => match us, hl with | [_], _ => rfl⟩
  have D_l_draw : Df K mg "_law_draw" s_l_draw ["_law_deck_here", "_law_many"] := ⟨_, _, fun_mk (st := s_l_draw) l_l_draw c_l_draw k_l_draw, PySem.W.mg_of X G a_l_draw, (fun_mk (st := s_l_draw) l_l_draw c_l_draw k_l_draw).binds (ps := ["_law_deck_here", "_law_many"]) fun _ _ _ _ _ _ us hl => match us, hl with | [_, _], _ => rfl⟩
  have D_l_one : Df K mg "_law_one" s_l_one ["_law_deck_here", "_law_items"] := ⟨_, _, fun_mk (st := s_l_one) l_l_one c_l_one k_l_one, PySem.W.mg_of X G a_l_one, (fun_mk (st := s_l_one) l_l_one c_l_one k_l_one).binds (ps := ["_law_deck_here", "_law_items"]) fun _ _ _ _ _ _ us hl => match us, hl with | [_, _], _ => rfl⟩
  have D_l_odd : Df K mg "_law_odd" s_l_odd ["_law_deck_here"] := ⟨_, _, fun_mk (st := s_l_odd) l_l_odd c_l_odd k_l_odd, PySem.W.mg_of X G a_l_odd, (fun_mk (st := s_l_odd) l_l_odd c_l_odd k_l_odd).binds (ps := ["_law_deck_here"]) fun _ _ _ _ _ _ us hl => match us, hl with | [_], _ => rfl⟩
  have D_l_amounts : Df K mg "_law_amounts" s_l_amounts ["_law_deck_here", "_law_kinds"] := ⟨_, _, fun_mk (st := s_l_amounts) l_l_amounts c_l_amounts k_l_amounts, PySem.W.mg_of X G a_l_amounts, (fun_mk (st := s_l_amounts) l_l_amounts c_l_amounts k_l_amounts).binds (ps := ["_law_deck_here", "_law_kinds"]) fun _ _ _ _ _ _ us hl => match us, hl with | [_, _], _ => rfl⟩
  have D_l_near : Df K mg "_law_near" s_l_near ["_law_deck_here", "_law_amounts_here"] := ⟨_, _, fun_mk (st := s_l_near) l_l_near c_l_near k_l_near, PySem.W.mg_of X G a_l_near, (fun_mk (st := s_l_near) l_l_near c_l_near k_l_near).binds (ps := ["_law_deck_here", "_law_amounts_here"]) fun _ _ _ _ _ _ us hl => match us, hl with | [_, _], _ => rfl⟩
  have D_l_other_kinds : Df K mg "_law_other_kinds" s_l_other_kinds ["_law_call"] := ⟨_, _, fun_mk (st := s_l_other_kinds) l_l_other_kinds c_l_other_kinds k_l_other_kinds, PySem.W.mg_of X G a_l_other_kinds, (fun_mk (st := s_l_other_kinds) l_l_other_kinds c_l_other_kinds k_l_other_kinds).binds (ps := ["_law_call"]) fun _ _ _ _ _ _ us hl => match us, hl with | [_], _ => rfl⟩
  have D_l_difference : Df K mg "_law_difference" s_l_difference ["_law_one_here", "_law_other", "_law_mine", "_law_others"] := ⟨_, _, fun_mk (st := s_l_difference) l_l_difference c_l_difference k_l_difference, PySem.W.mg_of X G a_l_difference, (fun_mk (st := s_l_difference) l_l_difference c_l_difference k_l_difference).binds (ps := ["_law_one_here", "_law_other", "_law_mine", "_law_others"]) fun _ _ _ _ _ _ us hl => match us, hl with | [_, _, _, _], _ => rfl⟩
  have D_l_pair : Df K mg "_law_pair" s_l_pair ["_law_mine", "_law_others"] := ⟨_, _, fun_mk (st := s_l_pair) l_l_pair c_l_pair k_l_pair, PySem.W.mg_of X G a_l_pair, (fun_mk (st := s_l_pair) l_l_pair c_l_pair k_l_pair).binds (ps := ["_law_mine", "_law_others"]) fun _ _ _ _ _ _ us hl => match us, hl with | [_, _], _ => rfl⟩
  have D_l_times : Df K mg "_law_times" s_l_times ["_law_deck_here", "_law_mine"] := ⟨_, _, fun_mk (st := s_l_times) l_l_times c_l_times k_l_times, PySem.W.mg_of X G a_l_times, (fun_mk (st := s_l_times) l_l_times c_l_times k_l_times).binds (ps := ["_law_deck_here", "_law_mine"]) fun _ _ _ _ _ _ us hl => match us, hl with | [_, _], _ => rfl⟩
  have D_l_offers : Df K mg "_law_offers" s_l_offers ["_law_deck_here", "_law_mine"] := ⟨_, _, fun_mk (st := s_l_offers) l_l_offers c_l_offers k_l_offers, PySem.W.mg_of X G a_l_offers, (fun_mk (st := s_l_offers) l_l_offers c_l_offers k_l_offers).binds (ps := ["_law_deck_here", "_law_mine"]) fun _ _ _ _ _ _ us hl => match us, hl with | [_, _], _ => rfl⟩
  have D_law : Df K mg "law" s_law ["_law_script"] := ⟨_, _, fun_mk (st := s_law) l_law c_law k_law, PySem.W.mg_of X G a_law, (fun_mk (st := s_law) l_law c_law k_law).binds (ps := ["_law_script"]) fun _ _ _ _ _ _ us hl => match us, hl with | [_], _ => rfl⟩
  refine ⟨PySem.W.fnOf "law" "law" (defArgs s_law) (defBody s_law) (defScope s_law) .none kV_law dc_law pm_law an_law (.ref cL) ct_law, [(cL, PL)], [(PL, q_law)], inT1 OL, inT1 n_PL, inT1 d_PL, rfl, fun s v => .of_eq rfl, fun base _ _ TB => ?_⟩
  have TBL : TabB base mg cL PL := TB _ (List.mem_cons_self ..)
  obtain ⟨TT, hTT⟩ : ∃ TT : List (Addr × Str), TT = [(PL, q_law)] := ⟨_, rfl⟩
  rw [← hTT]
  have hmL : (PL, q_law) ∈ TT := by rw [hTT]; exact List.mem_cons_self ..
  have huL : ∀ p ∈ TT, p.1 = PL → p.2 = q_law := by rw [hTT]; exact inT1 (fun _ => rfl)
  have C_is_whole : Cal l.prog w K mg base "is_whole" ["value"] 1 (sp_is_whole K) := ok_is_whole T D_is_whole
  have C_check_kinds : CalX l.prog w K mg base "check_kinds" ["one", "other"] 1 (sp_check cPurse cOtherKinds) := ok_check_kinds T R XOtherKinds D_check_kinds
  have C_l_deck : Cal l.prog w K mg base "_law_deck" ["_law_script"] 1 (sp_l_deck K) := ok_l_deck T D_l_deck
  have C_l_draw : Cal l.prog w K mg base "_law_draw" ["_law_deck_here", "_law_many"] 1 (sp_l_draw K) := ok_l_draw T D_l_draw
  have C_is_within : Cal l.prog w K mg base "is_within" ["value", "low", "high"] 2 (sp_is_within K) := ok_is_within T D_is_within C_is_whole
  have C_is_amount : Cal l.prog w K mg base "is_amount" ["value"] 2 (sp_is_amount K) := ok_is_amount T D_is_amount C_is_whole
  have C_l_one : Cal l.prog w K mg base "_law_one" ["_law_deck_here", "_law_items"] 2 (sp_l_one K) := ok_l_one T D_l_one C_l_draw
  have C_l_near : Cal l.prog w K mg base "_law_near" ["_law_deck_here", "_law_amounts_here"] 2 (sp_l_near K) := ok_l_near T D_l_near C_l_draw
  have C_is_offer : Cal l.prog w K mg base "is_offer" ["kinds", "value"] 3 (sp_is_offer K) := ok_is_offer T D_is_offer C_is_within
  have C_l_odd : Cal l.prog w K mg base "_law_odd" ["_law_deck_here"] 3 (sp_l_odd K) := ok_l_odd T D_l_odd C_l_one
  have C_l_amounts : Cal l.prog w K mg base "_law_amounts" ["_law_deck_here", "_law_kinds"] 3 (sp_l_amounts K) := ok_l_amounts T D_l_amounts C_l_one C_l_draw

  have G_Pinit := ok_Pinit (P := l.prog) (w := w) (base := base) T R C_is_amount fun_Purse_init
  have GX_add := ok_Padd (P := l.prog) (w := w) (base := base) T R C_check_kinds G_Pinit bin_Purse_init fun_Purse_add
  have GX_sub := ok_Psub (P := l.prog) (w := w) (base := base) T R C_check_kinds G_Pinit bin_Purse_init XNotEnough iNotEnough fun_Purse_sub
  have GX_mul := ok_Pmul (P := l.prog) (w := w) (base := base) T R XNoNumber iNoNumber C_is_amount G_Pinit bin_Purse_init fun_Purse_mul
  have GX_cov := ok_Pcov (P := l.prog) (w := w) (base := base) T R C_check_kinds fun_Purse_covers
  have G_in := ok_Pin (P := l.prog) (w := w) (base := base) T R C_is_offer fun_Purse_contains
  have C_is_offerO := ok_is_offerO (P := l.prog) (w := w) (base := base) T R D_is_offer C_is_within
  have G_inO := ok_PinO (P := l.prog) (w := w) (base := base) T R C_is_offerO fun_Purse_contains
  have G_l_difference := ok_l_difference (P := l.prog) (w := w) (base := base) T R XNotEnough ⟨PySem.W.mg_of X G a_ChangeError⟩ k_NotEnough_ChangeError GX_sub bin_Purse_sub (fun_mk (st := s_l_difference) l_l_difference c_l_difference k_l_difference)
  have b_l_difference := (fun_mk (st := s_l_difference) l_l_difference c_l_difference k_l_difference).binds (ps := ["_law_one_here", "_law_other", "_law_mine", "_law_others"]) fun _ _ _ _ _ _ us hl => match us, hl with | [_, _, _, _], _ => rfl
  have G_l_pair := ok_l_pair (P := l.prog) (w := w) (base := base) T R G_Pinit bin_Purse_init (ok_Padd0 GX_add) bin_Purse_add (ok_Pcov0 GX_cov) bin_Purse_covers G_l_difference (PySem.W.mg_of X G a_l_difference) k_l_difference b_l_difference (fun_mk (st := s_l_pair) l_l_pair c_l_pair k_l_pair)
  have b_l_pair := (fun_mk (st := s_l_pair) l_l_pair c_l_pair k_l_pair).binds (ps := ["_law_mine", "_law_others"]) fun _ _ _ _ _ _ us hl => match us, hl with | [_, _], _ => rfl
  have G_l_times := ok_l_times (P := l.prog) (w := w) (base := base) T R XNoNumber ⟨PySem.W.mg_of X G a_ChangeError⟩ k_NoNumber_ChangeError G_Pinit bin_Purse_init (ok_Pmul0 GX_mul) GX_mul bin_Purse_mul C_l_one (fun_mk (st := s_l_times) l_l_times c_l_times k_l_times)
  have b_l_times := (fun_mk (st := s_l_times) l_l_times c_l_times k_l_times).binds (ps := ["_law_deck_here", "_law_mine"]) fun _ _ _ _ _ _ us hl => match us, hl with | [_, _], _ => rfl
  have G_l_offers := ok_l_offers (P := l.prog) (w := w) (base := base) T R G_Pinit bin_Purse_init G_in G_inO bin_Purse_contains C_l_odd C_l_one C_l_draw (fun_mk (st := s_l_offers) l_l_offers c_l_offers k_l_offers)
  have b_l_offers := (fun_mk (st := s_l_offers) l_l_offers c_l_offers k_l_offers).binds (ps := ["_law_deck_here", "_law_mine"]) fun _ _ _ _ _ _ us hl => match us, hl with | [_, _], _ => rfl
  exact ok_law (TT := TT) T R XOtherKinds (PySem.W.mg_of X G a_ChangeError) k_OtherKinds_ChangeError (fun_mk (st := s_law) l_law c_law k_law) rfl TBL hmL huL G_Pinit bin_Purse_init GX_add bin_Purse_add GX_sub bin_Purse_sub GX_cov bin_Purse_covers G_in bin_Purse_contains C_l_deck C_l_draw C_l_amounts C_l_near G_l_pair (PySem.W.mg_of X G a_l_pair) k_l_pair b_l_pair G_l_times (PySem.W.mg_of X G a_l_times) k_l_times b_l_times G_l_offers (PySem.W.mg_of X G a_l_offers) k_l_offers b_l_offers D_l_other_kinds

end Sm
open PySem PySem.W PyProof.Rows in
set_option maxRecDepth 100000 in
set_option maxHeartbeats 0 in
theorem PySem.Challenge.cw_smallchange_k70_purses_added_and_compare_holds : PySem.Challenge.rw_smallchange_k70_purses_added_and_compare.Holds := by
  w_on; o_law; k_head; (case hw => w_witness2)
  k_fill
  refine Sm.walk_at_lawTs (l := PySem.Challenge.rw_smallchange_k70_purses_added_and_compare) (k := 12) (x := "_law_script") (sp := Sm.sp_law) rfl rfl ⟨rfl, by decide, by decide⟩ (fun w h Y => PySem.W.km_in_of Y) ?F (fun _ _ _ a ns hl tb hS => ⟨a, ns, rfl, hS, hl, tb, fun _ => rfl⟩)
  case F =>
    intro w mg fa h KX G hmg own
    refine' Sm.all_mk KX G hmg own ?a_is_whole ?l_is_whole ?c_is_whole ?k_is_whole ?a_is_within ?l_is_within ?c_is_within ?k_is_within ?a_is_amount ?l_is_amount ?c_is_amount ?k_is_amount ?a_is_offer ?l_is_offer ?c_is_offer ?k_is_offer ?a_check_kinds ?l_check_kinds ?c_check_kinds ?k_check_kinds ?a_l_deck ?l_l_deck ?c_l_deck ?k_l_deck ?a_l_draw ?l_l_draw ?c_l_draw ?k_l_draw ?a_l_one ?l_l_one ?c_l_one ?k_l_one ?a_l_odd ?l_l_odd ?c_l_odd ?k_l_odd ?a_l_amounts ?l_l_amounts ?c_l_amounts ?k_l_amounts ?a_l_near ?l_l_near ?c_l_near ?k_l_near ?a_l_other_kinds ?l_l_other_kinds ?c_l_other_kinds ?k_l_other_kinds ?a_l_difference ?l_l_difference ?c_l_difference ?k_l_difference ?a_l_pair ?l_l_pair ?c_l_pair ?k_l_pair ?a_l_times ?l_l_times ?c_l_times ?k_l_times ?a_l_offers ?l_l_offers ?c_l_offers ?k_l_offers ?a_law ?l_law ?c_law ?k_law ?a_ChangeError ?e_ChangeError ?h_ChangeError ?t_ChangeError ?i_ChangeError ?g_cl ?t_cl ?a_NotEnough ?x_NotEnough ?fsa_NotEnough ?fga_NotEnough ?fgg_NotEnough ?fno_NotEnough ?fiC_NotEnough ?fcl_NotEnough ?tf_NotEnough ?t_NotEnough ?k_NotEnough ?e_NotEnough ?s_NotEnough ?h_NotEnough ?m_NotEnough ?lf_NotEnough ?cf_NotEnough ?kf_NotEnough ?a_NoNumber ?x_NoNumber ?fsa_NoNumber ?fga_NoNumber ?fgg_NoNumber ?fno_NoNumber ?fiC_NoNumber ?fcl_NoNumber ?tf_NoNumber ?t_NoNumber ?k_NoNumber ?e_NoNumber ?s_NoNumber ?h_NoNumber ?m_NoNumber ?lf_NoNumber ?cf_NoNumber ?kf_NoNumber ?a_OtherKinds ?q_OtherKinds ?fga_OtherKinds ?fgg_OtherKinds ?fcl_OtherKinds ?t_OtherKinds ?k_OtherKinds ?e_OtherKinds ?s_OtherKinds ?h_OtherKinds ?m_OtherKinds ?isub_NotEnough_ChangeError ?isub_NoNumber_ChangeError ?isub_OtherKinds_ChangeError ?a_Purse ?pg_Purse ?hd_Purse ?po_Purse ?sa_Purse ?mk_Purse ?kp_Purse ?ha_Purse ?hm_Purse ?na_Purse_amounts ?at_Purse_init ?fn_Purse_init ?kf_Purse_init ?lf_Purse_init ?cf_Purse_init ?at_Purse_add ?fn_Purse_add ?kf_Purse_add ?lf_Purse_add ?cf_Purse_add ?at_Purse_sub ?fn_Purse_sub ?kf_Purse_sub ?lf_Purse_sub ?cf_Purse_sub ?at_Purse_mul ?fn_Purse_mul ?kf_Purse_mul ?lf_Purse_mul ?cf_Purse_mul ?at_Purse_contains ?fn_Purse_contains ?kf_Purse_contains ?lf_Purse_contains ?cf_Purse_contains ?at_Purse_covers ?fn_Purse_covers ?kf_Purse_covers ?lf_Purse_covers ?cf_Purse_covers ?first_Purse ?rmul_Purse ?kd_Purse ?tsub_Purse_tuple ?l_cL ?e_PL ?d_PL ?n_PL ?r_L ?z__law_call ?z_abs ?z_all ?z_bool ?z_enumerate ?z_int ?z_isinstance ?z_iter ?z_len ?z_list ?z_max ?z_range ?z_repr ?z_tuple ?z_zip ?g_MAX_KINDS ?g_MAX_AMOUNT
    (case a_is_whole => k_is)
    (case l_is_whole => k_is)
    (case c_is_whole => k_is)
    (case k_is_whole => k_is)
    (case a_is_within => k_is)
    (case l_is_within => k_is)
    (case c_is_within => k_is)
    (case k_is_within => k_is)
    (case a_is_amount => k_is)
    (case l_is_amount => k_is)
    (case c_is_amount => k_is)
    (case k_is_amount => k_is)
    (case a_is_offer => k_is)
    (case l_is_offer => k_is)
    (case c_is_offer => k_is)
    (case k_is_offer => k_is)
    (case a_check_kinds => k_is)
    (case l_check_kinds => k_is)
    (case c_check_kinds => k_is)
    (case k_check_kinds => k_is)
    (case a_l_deck => k_is)
    (case l_l_deck => k_is)
    (case c_l_deck => k_is)
    (case k_l_deck => k_is)
    (case a_l_draw => k_is)
    (case l_l_draw => k_is)
    (case c_l_draw => k_is)
    (case k_l_draw => k_is)
    (case a_l_one => k_is)
    (case l_l_one => k_is)
    (case c_l_one => k_is)
    (case k_l_one => k_is)
    (case a_l_odd => k_is)
    (case l_l_odd => k_is)
    (case c_l_odd => k_is)
    (case k_l_odd => k_is)
    (case a_l_amounts => k_is)
    (case l_l_amounts => k_is)
    (case c_l_amounts => k_is)
    (case k_l_amounts => k_is)
    (case a_l_near => k_is)
    (case l_l_near => k_is)
    (case c_l_near => k_is)
    (case k_l_near => k_is)
    (case a_l_other_kinds => k_is)
    (case l_l_other_kinds => k_is)
    (case c_l_other_kinds => k_is)
    (case k_l_other_kinds => k_is)
    (case a_l_difference => k_is)
    (case l_l_difference => k_is)
    (case c_l_difference => k_is)
    (case k_l_difference => k_is)
    (case a_l_pair => k_is)
    (case l_l_pair => k_is)
    (case c_l_pair => k_is)
    (case k_l_pair => k_is)
    (case a_l_times => k_is)
    (case l_l_times => k_is)
    (case c_l_times => k_is)
    (case k_l_times => k_is)
    (case a_l_offers => k_is)
    (case l_l_offers => k_is)
    (case c_l_offers => k_is)
    (case k_l_offers => k_is)
    (case a_law => k_is)
    (case l_law => k_is)
    (case c_law => k_is)
    (case k_law => k_is)
    (case a_ChangeError => first | k_is | rfl | decide +kernel)
    (case e_ChangeError => first | k_is | rfl | decide +kernel)
    (case h_ChangeError => first | k_is | rfl | decide +kernel)
    (case t_ChangeError => first | k_is | rfl | decide +kernel)
    (case i_ChangeError => first | k_is | rfl | decide +kernel)
    (case g_cl => first | k_is | rfl | decide +kernel)
    (case t_cl => first | k_is | rfl | decide +kernel)
    (case a_NotEnough => first | k_is | rfl | decide +kernel)
    (case x_NotEnough => first | k_is | rfl | decide +kernel)
    (case fsa_NotEnough => first | k_is | rfl | decide +kernel)
    (case fga_NotEnough => first | k_is | rfl | decide +kernel)
    (case fgg_NotEnough => first | k_is | rfl | decide +kernel)
    (case fno_NotEnough => first | k_is | rfl | decide +kernel)
    (case fiC_NotEnough => first | k_is | rfl | decide +kernel)
    (case fcl_NotEnough => first | k_is | rfl | decide +kernel)
    (case tf_NotEnough => first | k_is | rfl | decide +kernel)
    (case t_NotEnough => first | k_is | rfl | decide +kernel)
    (case k_NotEnough => first | k_is | rfl | decide +kernel)
    (case e_NotEnough => first | k_is | rfl | decide +kernel)
    (case s_NotEnough => first | k_is | rfl | decide +kernel)
    (case h_NotEnough => first | k_is | rfl | decide +kernel)
    (case m_NotEnough => first | k_is | rfl | decide +kernel)
    (case lf_NotEnough => first | k_is | rfl | decide +kernel)
    (case cf_NotEnough => first | k_is | rfl | decide +kernel)
    (case kf_NotEnough => first | k_is | rfl | decide +kernel)
    (case a_NoNumber => first | k_is | rfl | decide +kernel)
    (case x_NoNumber => first | k_is | rfl | decide +kernel)
    (case fsa_NoNumber => first | k_is | rfl | decide +kernel)
    (case fga_NoNumber => first | k_is | rfl | decide +kernel)
    (case fgg_NoNumber => first | k_is | rfl | decide +kernel)
    (case fno_NoNumber => first | k_is | rfl | decide +kernel)
    (case fiC_NoNumber => first | k_is | rfl | decide +kernel)
    (case fcl_NoNumber => first | k_is | rfl | decide +kernel)
    (case tf_NoNumber => first | k_is | rfl | decide +kernel)
    (case t_NoNumber => first | k_is | rfl | decide +kernel)
    (case k_NoNumber => first | k_is | rfl | decide +kernel)
    (case e_NoNumber => first | k_is | rfl | decide +kernel)
    (case s_NoNumber => first | k_is | rfl | decide +kernel)
    (case h_NoNumber => first | k_is | rfl | decide +kernel)
    (case m_NoNumber => first | k_is | rfl | decide +kernel)
    (case lf_NoNumber => first | k_is | rfl | decide +kernel)
    (case cf_NoNumber => first | k_is | rfl | decide +kernel)
    (case kf_NoNumber => first | k_is | rfl | decide +kernel)
    (case a_OtherKinds => first | k_is | rfl | decide +kernel)
    (case q_OtherKinds => k_exc)
    (case fga_OtherKinds => first | k_is | rfl | decide +kernel)
    (case fgg_OtherKinds => first | k_is | rfl | decide +kernel)
    (case fcl_OtherKinds => first | k_is | rfl | decide +kernel)
    (case t_OtherKinds => first | k_is | rfl | decide +kernel)
    (case k_OtherKinds => first | k_is | rfl | decide +kernel)
    (case e_OtherKinds => first | k_is | rfl | decide +kernel)
    (case s_OtherKinds => first | k_is | rfl | decide +kernel)
    (case h_OtherKinds => first | k_is | rfl | decide +kernel)
    (case m_OtherKinds => first | k_is | rfl | decide +kernel)
    (case isub_NotEnough_ChangeError => first | k_is | rfl | decide +kernel)
    (case isub_NoNumber_ChangeError => first | k_is | rfl | decide +kernel)
    (case isub_OtherKinds_ChangeError => first | k_is | rfl | decide +kernel)
    (case a_Purse => first | k_is | rfl | decide +kernel)
    (case pg_Purse => first | k_is | rfl | decide +kernel)
    (case hd_Purse => first | k_is | rfl | decide +kernel)
    (case po_Purse => first | k_is | rfl | decide +kernel)
    (case sa_Purse => first | k_is | rfl | decide +kernel)
    (case mk_Purse => first | k_is | rfl | decide +kernel)
    (case kp_Purse => first | k_is | rfl | decide +kernel)
    (case ha_Purse => first | k_is | rfl | decide +kernel)
    (case hm_Purse => first | k_is | rfl | decide +kernel)
    (case na_Purse_amounts => first | k_is | rfl | decide +kernel)
    (case at_Purse_init => first | k_is | rfl | decide +kernel)
    (case fn_Purse_init => first | k_is | rfl | decide +kernel)
    (case kf_Purse_init => first | k_is | rfl | decide +kernel)
    (case lf_Purse_init => first | k_is | rfl | decide +kernel)
    (case cf_Purse_init => first | k_is | rfl | decide +kernel)
    (case at_Purse_add => first | k_is | rfl | decide +kernel)
    (case fn_Purse_add => first | k_is | rfl | decide +kernel)
    (case kf_Purse_add => first | k_is | rfl | decide +kernel)
    (case lf_Purse_add => first | k_is | rfl | decide +kernel)
    (case cf_Purse_add => first | k_is | rfl | decide +kernel)
    (case at_Purse_sub => first | k_is | rfl | decide +kernel)
    (case fn_Purse_sub => first | k_is | rfl | decide +kernel)
    (case kf_Purse_sub => first | k_is | rfl | decide +kernel)
    (case lf_Purse_sub => first | k_is | rfl | decide +kernel)
    (case cf_Purse_sub => first | k_is | rfl | decide +kernel)
    (case at_Purse_mul => first | k_is | rfl | decide +kernel)
    (case fn_Purse_mul => first | k_is | rfl | decide +kernel)
    (case kf_Purse_mul => first | k_is | rfl | decide +kernel)
    (case lf_Purse_mul => first | k_is | rfl | decide +kernel)
    (case cf_Purse_mul => first | k_is | rfl | decide +kernel)
    (case at_Purse_contains => first | k_is | rfl | decide +kernel)
    (case fn_Purse_contains => first | k_is | rfl | decide +kernel)
    (case kf_Purse_contains => first | k_is | rfl | decide +kernel)
    (case lf_Purse_contains => first | k_is | rfl | decide +kernel)
    (case cf_Purse_contains => first | k_is | rfl | decide +kernel)
    (case at_Purse_covers => first | k_is | rfl | decide +kernel)
    (case fn_Purse_covers => first | k_is | rfl | decide +kernel)
    (case kf_Purse_covers => first | k_is | rfl | decide +kernel)
    (case lf_Purse_covers => first | k_is | rfl | decide +kernel)
    (case cf_Purse_covers => first | k_is | rfl | decide +kernel)
    (case first_Purse => first | k_is | rfl | decide +kernel)
    (case rmul_Purse => first | k_is | rfl | decide +kernel)
    (case kd_Purse => first | k_is | rfl | decide +kernel)
    (case tsub_Purse_tuple => first | k_is | rfl | decide +kernel)
    (case l_cL => first | k_is | rfl | decide +kernel)
    (case e_PL => first | k_is | rfl | decide +kernel)
    (case d_PL => first | k_is | rfl | decide +kernel)
    (case n_PL => first | k_is | rfl | decide +kernel)
    (case r_L => decide +kernel)
    (case z__law_call => k_is)
    (case z_abs => k_is)
    (case z_all => k_is)
    (case z_bool => k_is)
    (case z_enumerate => k_is)
    (case z_int => k_is)
    (case z_isinstance => k_is)
    (case z_iter => k_is)
    (case z_len => k_is)
    (case z_list => k_is)
    (case z_max => k_is)
    (case z_range => k_is)
    (case z_repr => k_is)
    (case z_tuple => k_is)
    (case z_zip => k_is)
    (case g_MAX_KINDS => k_is)
    (case g_MAX_AMOUNT => k_is)
