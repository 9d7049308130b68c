import PyProof.Rows.All
import Wide.All
import OpenK.AllK
import Wide.FinOn
import HandS.ForMost
import HandS.Wide
import HandS.Codes
import PyProof.ReprRoads
import PyProof.LongRange
import PyProof.SumWalkG
import PyProof.WalksMore
import HandS.Sort
import HandS.TupMul
import HandS.Conv
import HandS.IsInst
import HandS.Style
import HandS.TupAny
import HandS.ForExc
import HandS.ExcIs
import HandS.ExcInit
import HandS.ExcField
import HandS.ExcOwn
import KE.KExcIs
import HandS.Walk
import KE.GoesEnum
import HandS.Zip
import PyProof.WalkInts
import HandS.List
import KE.DataEq
import HandS.TupSets
import PySem.Challenge.RW_smallchange_k25_ways_walked
set_option Elab.async false
set_option linter.all false
set_option maxRecDepth 100000
set_option maxHeartbeats 4000000
namespace Sm
open PySem PySem.Spec PyProof.Rows L2
/-! ### promises of defs where no repr is under way: as FnOk, with A's guards empty -/
structure FnG (P : Program) (w : World) (K : PySem.W.Frag) (mg : Str → Option Value) (base : Heap) (k : Nat) (f : Addr) (fd : FuncData) (ps : List Str) (sp : Sp) : Prop where
  len : ∀ vs H Q E, sp vs H Q E → vs.length = ps.length
  run : ∀ (A : Around) (outer : List Env) (s : Shared) (H : Hp) (args : Args) (us : List Value) (vs : List V) (Q : VK) (E : XK), A.guards = some [] → Room k A →
    Env0 P w K mg base A outer s H → BindsTo s fd args (ps.zip us) → Vals vs us → sp vs H Q E → codeAny (model P w) A (.call (.ref f) args) (CR CX0 outer P w H s Q E) s
section
variable {P : Program} {w : World} {K : PySem.W.Frag} {mg : Str → Option Value} {base : Heap} {k : Nat} {f : Addr} {fd : FuncData} {ps : List Str} {sp : Sp}
theorem FnG.of (F : FnOk P w K mg base CX0 k f fd ps sp) : FnG P w K mg base k f fd ps sp :=
  ⟨F.len, fun A outer s H args us vs Q E _ hr e b v h => F.run A outer s H args us vs Q E hr e b v h⟩
theorem FnG.body {x : Str} {st : Stmt} {N : List Str} (F : Fun K x x st f fd) (S : FnScope N ps (defScope st)) (len : ∀ vs H Q E, sp vs H Q E → vs.length = ps.length)
    (hb : ∀ (cdv : Value) (A : Around) (outer : List Env) (s : Shared) (H : Hp) (vs : List V) (Q : VK) (E : XK), A.guards = some [] → Room k (A.deeper (envOfC x (defScope st) s.heap.objs.size f cdv)) → sp vs H Q E →
      ∃ t, PSs (cxOf CX0 P w K mg base N x (defScope st) f cdv A outer s H E).nox (defBody st) t ∧ t { nx := fun _ H' => Q .non H', rt := Q } (start N vs) H) : FnG P w K mg base (k + 1) f fd ps sp := by
  obtain ⟨oc, od, kV, doc, pm, an, cdv, ct, osl, efd, look, code⟩ := F.ex
  subst efd
  constructor
  · exact len
  intro A outer s H args us vs Q E guard room e0 bind rel want
  have inn : K.In s.heap := e0.mod.kin.keeps fun b o e => (e0.bs b o e).1
  have nolim : s.heap.NoLimit := e0.mod.nolimit.keeps fun b o e => (e0.bs b o e).1
  refine codeAny_call_function room.depth (inn _ _ look) rfl S.co S.gen rfl (PySem.W.codeRec_of inn code) (bind _ _ _ _ ?_)
  refine wpAny_newFunctionEnv_cells S.kind ?_ ?_
  · rintro ⟨n, v⟩ there
    have := S.par n (List.of_mem_zip there).1
    cases this with
    | inl q => exact .inl q
    | inr q => exact .inr ⟨q, PySem.W.cellsFrom_some _ _ _ (.inl q)⟩
  · intro env eenv s1 laid
    subst eenv
    refine ⟨nolim.keeps laid.toInCall.keep, codeAny_func ?_⟩
    obtain ⟨t, der, goal⟩ := hb cdv A outer s H vs Q E guard (room.deeper _) want
    have I := inv_start (CX := CX0) (E := E) S room.hd e0 (len _ _ _ _ want) rel laid
    refine wpAny_mono (der.nox.run [] s1 (start N vs) H _ I goal) (fun out s' got => ?_) fun e s' got => got
    match out, got with
    | .ret u, ⟨v, σ', H', J, rv, q⟩ => exact ⟨v, H', J.os, J.bare, J.base, J.hok, rv, q⟩
    | .next, ⟨σ', H', J, q⟩ => exact ⟨V.non, H', J.os, J.bare, J.base, J.hok, rfl, q⟩
    | .brk, ⟨_, _, _, q⟩ => exact q.elim
    | .cont, ⟨_, _, _, q⟩ => exact q.elim
end
section
variable {X : Cx} {k : Nat} {f : Addr} {fd : FuncData} {ps : List Str} {sp : Sp} {x : Str} {p pos : Pos} {e : Expr} {es : List Expr} {t : TA}
theorem pe_callG (F : FnG X.prog X.w X.K X.mg X.base k f fd ps sp) (gu : X.A.guards = some []) (hr : Room k X.A) (hg : Gl X x) (hm : X.mg x = some (.ref f)) (hk : PySem.W.keepIn X.K (.ref f) = true) (hb : Binds X.K fd ps [])
    (ha : PA X (e :: es) t) (hdb : (x == ("__debug__" : Str)) = false := by decide) (he : starEach (e :: es) X.env = (false, eval e X.env) :: starEach es X.env := by rfl) (hpl : (backTo pos (starEach es X.env)).any (·.1) = false := by rfl) :
    PE X (.Call (.Name x p) (e :: es) [] pos) (tCall sp [] E0 t) := by
  constructor
  intro pins s σ H Q I want
  refine wpAny_Call_Name_kw (ld_glob I hg hm ?_ hdb)
  refine PySem.W.callWith_K (h₀ := X.base) I.ok.mod.kin hk (thn (ha.run pos pins s σ H _ I want) ?_) he hpl
  rintro us s1 ⟨vs, H1, I1, rel, q⟩
  refine ⟨I1.kIn, ?_⟩
  have q : sp vs H1 Q E0 := by
    have q : sp (vs ++ []) H1 Q E0 := q
    rw [List.append_nil] at q
    exact q
  have b := hb s1 us I1.kIn (by rw [List.append_nil, ← rel.length]; exact F.len _ _ _ _ q)
  rw [List.append_nil] at b
  refine wpAny_call (codeAny_mono (F.run X.A X.stack s1 H1 ⟨us, []⟩ us vs Q E0 gu hr I1.env0 b rel q) ?_)
  rintro (e | out) s' got
  · exact got.elim
  · match out, got with
    | .ret u, got => exact I1.after got
    | .next, got => exact got.elim
    | .brk, got => exact got.elim
    | .cont, got => exact got.elim
/-- repr of data at any depth -/
theorem call_repr_data (gu : X.A.guards = some []) (room : ∃ k, Room k X.A) : CallR X (.builtin "repr") (fun xs H Q => ∃ a d, xs = [.ref a] ∧ Dp X.K H (.ref a) d ∧ PyData.showable d = true ∧ PyData.hasDict d = false ∧ d.depth ≤ 60 ∧ d.shown.length ≤ sizeLine ∧ Q (.str d.shown) H) := by
  intro pins s σ H xs us Q I rel want
  obtain ⟨a, d, rfl, data, sh, nd, dep, len, q⟩ := want
  obtain ⟨u, rfl, ru⟩ := vals1 rel
  obtain ⟨as, reads⟩ := Dp.reads I d _ u data ru
  cases ru
  obtain ⟨k, room⟩ := room
  have un := room.un
  exact repr_of_reads' reads sh (PyData.noDict_hsm nd) gu (by omega) (fun _ _ e => e) (fun h' v tk keep => ⟨.str d.shown, H, I.kept keep, ⟨_, rfl⟩, q⟩) len
end
/-! ### the law's own call, at the caller's place -/
theorem law_at {P : Program} {w : World} {K : PySem.W.Frag} {mg mb : Str → Option Value} {k : Nat} {fa a : Addr} {fd : FuncData} {x : Str} {sp : Sp} {s₁ : Shared} {vs : List Value} {ns : List Int}
    (KX : K.In s₁.heap) (hns : s₁.heap.Ns mainGlobals mg) (hb : s₁.heap.Ns builtinsNs mb) (hbb : ∀ x : Str, x ≠ "__name__" → mb x = bootBuiltins x) (hlim : s₁.heap.NoLimit) (hg : s₁.gens = #[])
    (ha : s₁.heap.get? a = some { cls := .type "list", data := .seq vs.toArray }) (hi : IntsAre vs ns) (hl : ns.length ≤ sizeLine) (hr : Room k callerA)
    (F : ∀ base : Heap, K.In base → base.Ns mainGlobals mg → FnG P w K mg base k fa fd [x] sp) (hbind : ∀ (s : Shared) (u : Value), BindsTo s fd ⟨[u], []⟩ [(x, u)])
    (hsp : ∀ H : Hp, SqL K H a (ns.map V.int) → sp [.ref a] H (fun v _ => v = .bl true) E0) :
    codeAny (model P w) callerA (.call (.ref fa) ⟨[.ref a], []⟩) (fun r s' => r = .ok (.ret (.bool true)) ∧ OldK s₁.heap s'.heap ∧ s'.os = s₁.os ∧ AllBare s'.gens) s₁ := by
  have ivs := vals_ints hi
  -- what is tracked: the script, if the module does not hold it itself
  obtain ⟨H, seq, ok, only, free⟩ : ∃ H : Hp, SqL K H a (ns.map V.int) ∧ HOk P w H s₁.heap ∧ (∀ b u, H b = some u → b = a ∧ u = .frz { cls := .type "list", data := .seq vs.toArray } (.lst (ns.map V.int))) ∧ ∀ b u, H b = some u → K.lookup b = none := by
    cases look : K.lookup a with
    | some o =>
      have same := KX a o look
      rw [ha] at same
      injection same with same
      subst same
      have empty : ∀ {u : HO}, (none : Option HO) = some u → False := fun z => nomatch z
      refine ⟨fun _ => none, .inr ⟨_, vs.toArray, _, look, rfl, rfl, rfl, ?_, ?_⟩, fun b u z => (empty z).elim, fun b u z => (empty z).elim, fun b u z => (empty z).elim⟩
      · rw [List.size_toArray, hi.length]
        exact hl
      · simpa using ivs
    | none =>
      have at_a : ∀ b u, (fun b => if b = a then some (HO.frz { cls := .type "list", data := .seq vs.toArray } (.lst (ns.map V.int))) else none : Hp) b = some u → b = a ∧ u = .frz { cls := .type "list", data := .seq vs.toArray } (.lst (ns.map V.int)) := by
        intro b u z
        by_cases e : b = a
        · have z := (if_pos e).symm.trans z
          exact ⟨e, (Option.some.inj z).symm⟩
        · exact nomatch (if_neg e).symm.trans z
      refine ⟨_, .inl (.inr ⟨_, if_pos rfl⟩), fun b u z => ?_, at_a, fun b u z => ?_⟩
      · obtain ⟨rfl, rfl⟩ := at_a b u z
        exact ⟨ha, by rw [List.length_map]; exact hl, vs, _, ivs, ha⟩
      · rw [(at_a b u z).1]
        exact look
  have stays : ∀ {b : Addr} {o : Obj}, s₁.heap.get? b = some o → (∀ u, H b ≠ some u) → (hidT s₁.heap H).get? b = some o := fun {b o} e no => hidT_get e (by
    cases z : H b with
    | none => rfl
    | some u => exact (no u z).elim)
  have spaces : ∀ {b : Addr} {m : Str → Option Value}, s₁.heap.Ns b m → (hidT s₁.heap H).Ns b m := by
    rintro b m ⟨o, es, ep, there, data, rest⟩
    refine ⟨o, es, ep, stays there fun u z => ?_, data, rest⟩
    rw [(only b u z).1, ha] at there
    injection there with there
    subst there
    exact nomatch data
  have inn : K.In (hidT s₁.heap H) := fun b o e => stays (KX b o e) fun u z => by
    rw [free b u z] at e
    exact nomatch e
  have mod : Mod K mg (hidT s₁.heap H) := by
    obtain ⟨mc, c1, c2⟩ := hlim
    exact ⟨inn, spaces hns, ⟨mb, spaces hb, hbb⟩, mc, spaces c1, c2⟩
  have e0 : Env0 P w K mg (hidT s₁.heap H) callerA [] s₁ H := by
    refine ⟨rfl, mod, fun b o e => of_hidT e, Nat.le_of_eq (hidT_size _ _), trivial, ?_, ok, .of_eq hg⟩
    intro b q
    exact absurd q (List.not_mem_nil (a := b))
  refine codeAny_mono ((F _ inn (spaces hns)).run callerA [] s₁ H ⟨[.ref a], []⟩ [.ref a] [.ref a] _ _ rfl hr e0 (hbind s₁ (.ref a)) (.cons rfl .nil) (hsp H seq)) ?_
  rintro (e | out) s' got
  · exact got.elim
  · match out, got with
    | .next, got => exact got.elim
    | .brk, got => exact got.elim
    | .cont, got => exact got.elim
    | .ret u, ⟨v, H', os, bare, un, ok', rel, q⟩ =>
      have q : v = V.bl true := q
      subst q
      have rel : u = Value.bool true := rel
      subst rel
      refine ⟨rfl, .of_keep fun b o e => ?_, os, bare⟩
      cases z : H b with
      | none => exact un.keep b o e z (List.not_mem_nil (a := b)) (List.not_mem_nil (a := b))
      | some u =>
        obtain ⟨rfl, rfl⟩ := only b u z
        have now := (ok' _ _ (un.frzs _ _ _ z)).1
        rw [ha] at e
        injection e with e
        rw [← e]
        exact now
theorem walk_at_law {l : PySem.W.OpenLaw} {k : Nat} {q : Program} {loose : List Str} {XP : (Str → Option Value) → Heap → Prop} {YP : World → Heap → Prop} {d : DefRec} {K : Params → PySem.W.Frag} {sp : PySem.W.Frag → Sp} {x : Str}
    (hn : l.most = some 63) (hdf : d.params.defaults = []) (hr : Room k callerA) (hY : ∀ (w : World) (h : Heap), YP w h → (K w.params).In h)
    (F : ∀ (w : World) (mg : Str → Option Value) (fa : Addr) (h : Heap), (K w.params).In h → h.Ns mainGlobals mg → mg d.name = some (.ref fa) →
      ∃ fd : FuncData, (∀ (s : Shared) (u : Value), BindsTo s fd ⟨[u], []⟩ [(x, u)]) ∧ ∀ base : Heap, (K w.params).In base → base.Ns mainGlobals mg → FnG l.prog w (K w.params) mg base k fa fd [x] (sp (K w.params)))
    (hsp : ∀ (K : PySem.W.Frag) (H : Hp) (a : Addr) (ns : List Int), ns.length ≤ 63 → SqL K H a (ns.map V.int) → sp K [.ref a] H (fun v _ => v = .bl true) E0) :
    PySem.W.WalkO q loose XP YP l.row.toRowW d [] (fun f vs => PySem.call f vs) := by
  refine Att.attach_call hn hdf ?_
  intro w s₀ s₁ mg mb fa o pm cd doc a vs ns G Y ho hd hcd hmg hobj hints hlen hg
  obtain ⟨fd, bind, each⟩ := F w mg fa _ (hY w _ Y) G.T.g hmg
  exact law_at (hY w _ Y) G.T.g G.T.b G.T.builtins G.T.nolimit hg hobj hints (Nat.le_trans hlen (by decide)) hr each bind fun H sq => hsp (K w.params) H a ns hlen sq
end Sm

set_option Elab.async false
set_option linter.all false
set_option maxRecDepth 100000
set_option maxHeartbeats 4000000
namespace Sm
open PySem PySem.Spec PyProof.Rows L2
section
variable {P : Program} {w : World} {K : PySem.W.Frag} {mg : Str → Option Value} {base : Heap}
def Df (K : PySem.W.Frag) (mg : Str → Option Value) (x : Str) (st : Stmt) (ps : List Str) : Prop :=
  ∃ (f : Addr) (fd : FuncData), Fun K x x st f fd ∧ mg x = some (.ref f) ∧ Binds K fd ps []
def Cal (P : Program) (w : World) (K : PySem.W.Frag) (mg : Str → Option Value) (base : Heap) (x : Str) (ps : List Str) (k : Nat) (sp : Sp) : Prop :=
  ∃ (f : Addr) (fd : FuncData), FnOk P w K mg base CX0 k f fd ps sp ∧ mg x = some (.ref f) ∧ PySem.W.keepIn K (.ref f) = true ∧ Binds K fd ps []
theorem Df.cal {x : Str} {st : Stmt} {N ps : List Str} {k : Nat} {sp : Sp} (D : Df K mg x st ps) (S : FnScope N ps (defScope st)) (len : ∀ vs H Q E, sp vs H Q E → vs.length = ps.length)
    (hbody : ∀ (f : Addr) (cdv : Value) (A : Around) (outer : List Env) (s : Shared) (H : Hp) (vs : List V) (Q : VK) (E : XK), Room k (A.deeper (envOfC x (defScope st) s.heap.objs.size f cdv)) → sp vs H Q E →
      ∃ t, PSs (cxOf CX0 P w K mg base N x (defScope st) f cdv A outer s H E).nox (defBody st) t ∧ t { nx := fun _ H' => Q .non H', rt := Q } (start N vs) H) : Cal P w K mg base x ps (k + 1) sp := by
  obtain ⟨f, fd, F, m, b⟩ := D
  exact ⟨f, fd, F.ok S len (fun cdv A outer s H vs Q E hr h => hbody f cdv A outer s H vs Q E hr h), m, F.kp, b⟩
theorem same_upd {H : Hp} {p : Addr} {o : HO} (h : H p = none) : Same H (upd H p o) := fun b x e => by
  rw [upd_ne (ne_of_none e h)]
  exact e
theorem iteP {p A B : Prop} [Decidable p] (h : p) (a : A) : if decide p = true then A else B := by
  rw [decide_eq_true h]
  exact iteT a
theorem iteN {p A B : Prop} [Decidable p] (h : ¬ p) (b : B) : if decide p = true then A else B := by
  rw [decide_eq_false h]
  exact iteF b
theorem iteNP {p A B : Prop} [Decidable p] (h : p) (b : B) : if (!decide p) = true then A else B := by
  rw [decide_eq_true h]
  exact iteF b
theorem iteNN {p A B : Prop} [Decidable p] (h : ¬ p) (a : A) : if (!decide p) = true then A else B := by
  rw [decide_eq_false h]
  exact iteT a
theorem ite3 {p A B : Prop} [Decidable p] (h1 : p → A) (h2 : ¬ p → B) : if decide p = true then A else B := by
  by_cases h : p
  · exact iteP h (h1 h)
  · exact iteN h (h2 h)
theorem fmod_pos {a b : Int} (h : 0 < b) : a.fmod b = a % b := Int.fmod_eq_emod_of_nonneg a (by omega)
end
/-! ### the deck -/
structure Deck (H : Hp) (p l : Addr) (n : Int) : Prop where
  hp : H p = some (.lst [.ref l, .int n])
  hl : ∃ cells : List Int, H l = some (.lst (cells.map V.int)) ∧ (∀ c ∈ cells, 0 ≤ c) ∧ cells.length ≤ 63
theorem deck_ne {l : Addr} {n : Int} {cells : List Int} : HO.lst [.ref l, .int n] ≠ HO.lst (cells.map V.int) := by
  intro q
  injection q with q
  cases cells with
  | nil => cases q
  | cons c r => cases (List.cons.inj q).1
/-- all but the deck is as it was -/
def Fr (p l : Addr) (H H' : Hp) : Prop := ∀ b o, b ≠ p → b ≠ l → H b = some o → H' b = some o
theorem Fr.trans {p l : Addr} {H H1 H2 : Hp} (a : Fr p l H H1) (b : Fr p l H1 H2) : Fr p l H H2 := fun c o h1 h2 h => b c o h1 h2 (a c o h1 h2 h)
theorem Same.fr {p l : Addr} {H H' : Hp} (s : Same H H') : Fr p l H H' := fun b o _ _ h => s b o h
theorem Deck.same {H H' : Hp} {p l : Addr} {n : Int} (D : Deck H p l n) (s : Same H H') : Deck H' p l n := by
  obtain ⟨cells, hl, hc⟩ := D.hl
  exact ⟨s _ _ D.hp, cells, s _ _ hl, hc⟩
theorem Fr.tup {H H' : Hp} {p l b : Addr} {n : Int} {xs : List V} (f : Fr p l H H') (D : Deck H p l n) (h : H b = some (.tup xs)) : H' b = some (.tup xs) := by
  obtain ⟨cells, hl, hc⟩ := D.hl
  exact f b _ (ne_of h D.hp (by intro q; cases q)) (ne_of h hl (by intro q; cases q)) h
def sp_l_deck (K : PySem.W.Frag) : Sp := fun vs H Q _ => ∃ (a : Addr) (ns : List Int), vs = [.ref a] ∧ SqL K H a (ns.map V.int) ∧ ns.length ≤ 63 ∧ ∀ H' p l, Same H H' → Deck H' p l 0 → Q (.ref p) H'
def sp_l_draw (K : PySem.W.Frag) : Sp := fun vs H Q _ => ∃ (p l : Addr) (n m : Int), vs = [.ref p, .int m] ∧ Deck H p l n ∧ 0 ≤ n ∧ n ≤ 1000000 ∧ 0 < m ∧ m ≤ 1000000000000000000000000000000000000000000000000000000000000 ∧
  ∀ r H', 0 ≤ r → r < m → Fr p l H H' → Deck H' p l (n + 1) → Q (.int r) H'
def sp_l_one (K : PySem.W.Frag) : Sp := fun vs H Q _ => ∃ (p l b : Addr) (n : Int) (xs : List V), vs = [.ref p, .ref b] ∧ Deck H p l n ∧ 0 ≤ n ∧ n ≤ 1000000 ∧ H b = some (.lst xs) ∧ b ≠ p ∧ b ≠ l ∧ 0 < xs.length ∧ xs.length ≤ 1000 ∧
  ∀ x H', x ∈ xs → Fr p l H H' → Deck H' p l (n + 1) → Q x H'
theorem cut63 {ns : List Int} (h : ns.length ≤ 63) : cutV (ns.map V.int) none (some 63) = ns.map V.int := by
  unfold cutV
  rw [HT.sIx_none, show HT.sIx (ns.map V.int).length (ns.map V.int).length (some 63) = min 63 (ns.map V.int).length from HT.sIx_nat _ _ 63]
  rw [List.length_map, Nat.min_eq_right h, List.drop_zero]
  exact List.take_of_length_le (by rw [List.length_map]; omega)
def absI (n : Int) : Int := if n < 0 then -n else n
theorem absI_pos (n : Int) : 0 ≤ absI n := by
  unfold absI
  split <;> omega
theorem div_draw {c m : Int} (h0 : 0 < m) (h : m ≤ 1000000000000000000000000000000000000000000000000000000000000) : CDivW c m :=
  wide_div (b := 300) h0 (by omega) (by decide) (by decide)
theorem cut_all {xs : List V} {n : Nat} : cutV xs none (some (n : Int)) = xs.take n := by
  unfold cutV
  rw [HT.sIx_none, HT.sIx_nat, List.drop_zero, Nat.sub_zero]
  rcases Nat.le_total n xs.length with h | h
  · rw [Nat.min_eq_left h]
  · rw [Nat.min_eq_right h, List.take_length, List.take_of_length_le h]
theorem ne_new {H : Hp} {p b : Addr} {o : HO} (h : H p = some o) (n : H b = none) : b ≠ p := (ne_of_none h n).symm
/-- what the deck's second list is not -/
theorem Deck.lne {H : Hp} {p l b : Addr} {n : Int} (D : Deck H p l n) (h : H b = none) : b ≠ p ∧ b ≠ l := by
  obtain ⟨cells, hl, hc⟩ := D.hl
  exact ⟨ne_new D.hp h, ne_new hl h⟩
section
variable {X : Cx}
/-- repr of an int or None -/
theorem call_repr_some : CallR X (.builtin "repr") (fun xs H Q => (∃ i, xs = [.int i] ∧ i.natAbs.log2 < 1920 ∧ Q (.str (toString i)) H) ∨ (xs = [.non] ∧ Q (.str "None") H)) := by
  intro pins s σ H xs us Q I r h
  rcases h with ⟨i, rfl, hz, q⟩ | ⟨rfl, q⟩
  · obtain ⟨u, rfl, t, rfl⟩ := vals1 r
    exact PySem.P.repr_of_int hz ⟨.str _, H, I.tok _, ⟨_, rfl⟩, q⟩
  · obtain ⟨u, rfl, rfl⟩ := vals1 r
    exact PySem.P.repr_of_none ⟨.str _, H, I.tok _, ⟨_, rfl⟩, q⟩
def dataI (ns : List Int) : PyData := .list (ns.map PyData.int)
theorem dp_ints {K : PySem.W.Frag} {H : Hp} : ∀ ns : List Int, DpAll K H (ns.map V.int) (ns.map PyData.int)
  | [] => .nil
  | n :: ns => .cons (.int n) (dp_ints ns)
theorem showable_ints : ∀ {ns : List Int}, (∀ n ∈ ns, n.natAbs.log2 < 1920) → PyData.showableAll (ns.map PyData.int) = true
  | [], _ => rfl
  | n :: ns, h => by
    have a := h n (List.mem_cons_self ..)
    have b := showable_ints (ns := ns) fun m hm => h m (List.mem_cons_of_mem _ hm)
    simp only [List.map_cons, PyData.showableAll, PyData.showable, decide_eq_true a, b, Bool.and_self]
theorem hasDict_ints : ∀ ns : List Int, PyData.hasDictAll (ns.map PyData.int) = false
  | [] => rfl
  | n :: ns => by
    simp only [List.map_cons, PyData.hasDictAll, PyData.hasDict, hasDict_ints ns, Bool.or_self]
theorem depth_ints : ∀ ns : List Int, PyData.depthAll (ns.map PyData.int) ≤ 1
  | [] => by simp [PyData.depthAll]
  | n :: ns => by
    have := depth_ints ns
    simp only [List.map_cons, PyData.depthAll, PyData.depth]
    omega
theorem shown_ints : ∀ {ns : List Int}, (∀ n ∈ ns, n.natAbs.log2 < 1920) → ((PyData.shownAll (ns.map PyData.int)).map (·.length)).sum ≤ 1921 * ns.length ∧ (PyData.shownAll (ns.map PyData.int)).length = ns.length
  | [], _ => by simp [PyData.shownAll]
  | n :: ns, h => by
    have a := PyProof.Rows.int_text_len_1921 (h n (List.mem_cons_self ..))
    obtain ⟨b, c⟩ := shown_ints (ns := ns) fun m hm => h m (List.mem_cons_of_mem _ hm)
    simp only [List.map_cons, PyData.shownAll, PyData.shown, List.sum_cons, List.length_cons]
    omega
/-- repr of a list of ints -/
theorem call_repr_ints (gu : X.A.guards = some []) (room : ∃ k, Room k X.A) : CallR X (.builtin "repr") (fun xs H Q => ∃ a ns, xs = [.ref a] ∧ SqL X.K H a (ns.map V.int) ∧ ns.length ≤ 5000 ∧ (∀ n ∈ ns, n.natAbs.log2 < 1920) ∧ Q (.str (dataI ns).shown) H) := by
  intro pins s σ H xs us Q I r h
  obtain ⟨a, ns, rfl, hS, len, small, q⟩ := h
  refine call_repr_data gu room pins s σ H _ us Q I r ⟨a, dataI ns, rfl, .lst hS (dp_ints ns), ?_, ?_, ?_, ?_, q⟩
  · unfold dataI
    simp only [PyData.showable, showable_ints small]
  · unfold dataI
    simp only [PyData.hasDict, hasDict_ints]
  · have := depth_ints ns
    unfold dataI
    simp only [PyData.depth]
    omega
  · obtain ⟨s1, s2⟩ := shown_ints small
    have := listText_len_le (PyData.shownAll (ns.map PyData.int))
    unfold dataI
    simp only [PyData.shown]
    rw [sizeLine_eq]
    omega
end
end Sm

set_option maxHeartbeats 4000000
namespace Sm
/-! offers, boards, and what leads where -/
structure Of where
  a : Nat
  x : Int
  b : Nat
  y : Int
def Of.ns (o : Of) : List Int := [(o.a : Int), o.x, (o.b : Int), o.y]
structure OfOk (k : Nat) (o : Of) : Prop where
  a : o.a < k
  b : o.b < k
  ne : o.a ≠ o.b
  x0 : 1 ≤ o.x
  x1 : o.x ≤ 30
  y0 : 0 ≤ o.y
  y1 : o.y ≤ 30
def Edge (L : List Of) (a b : Nat) : Prop := ∃ o ∈ L, o.a = a ∧ o.b = b ∧ 0 < o.y
def Rn (L : List Of) (s : Nat) : Nat → Nat → Prop
  | 0, c => c = s
  | n + 1, c => Rn L s n c ∨ ∃ b, Rn L s n b ∧ Edge L b c
def Lead (L : List Of) (s c : Nat) : Prop := ∃ n, Rn L s n c
section
variable {L : List Of} {s c d k : Nat}
theorem Rn.up {n m : Nat} (h : n ≤ m) (r : Rn L s n c) : Rn L s m c := by
  induction m with
  | zero => rw [show n = 0 by omega] at r; exact r
  | succ m ih =>
    by_cases q : n = m + 1
    · rw [← q]; exact r
    · exact .inl (ih (by omega))
theorem Lead.self : Lead L s s := ⟨0, rfl⟩
theorem Lead.step (h : Lead L s c) (e : Edge L c d) : Lead L s d := by
  obtain ⟨n, r⟩ := h
  exact ⟨n + 1, .inr ⟨c, r, e⟩⟩
theorem Lead.closed {S : Nat → Prop} (h0 : S s) (hs : ∀ a b, S a → Edge L a b → S b) (h : Lead L s c) : S c := by
  obtain ⟨n, r⟩ := h
  induction n generalizing c with
  | zero => rw [show c = s from r]; exact h0
  | succ n ih =>
    rcases r with r | ⟨b, r, e⟩
    · exact ih r
    · exact hs _ _ (ih r) e
theorem Lead.trans (h1 : Lead L s c) (h2 : Lead L c d) : Lead L s d := h2.closed (S := fun x => Lead L s x) h1 fun _ _ h e => h.step e
theorem filter_less {α : Type} {p q : α → Bool} : ∀ {l : List α}, (∀ x ∈ l, p x = true → q x = true) → (∃ x ∈ l, q x = true ∧ p x = false) → (l.filter p).length + 1 ≤ (l.filter q).length
  | [], _, h => by obtain ⟨_, h, _⟩ := h; cases h
  | a :: l, h, ⟨x, hx, h1, h2⟩ => by
    have le : (l.filter p).length ≤ (l.filter q).length := by
      clear hx h1 h2
      induction l with
      | nil => exact Nat.le_refl _
      | cons b l ih =>
        have i := ih fun x hx => by
          rcases List.mem_cons.mp hx with e | e
          · exact h x (by rw [e]; exact List.mem_cons_self)
          · exact h x (List.mem_cons_of_mem _ (List.mem_cons_of_mem _ e))
        have hb := h b (List.mem_cons_of_mem _ List.mem_cons_self)
        rw [List.filter_cons, List.filter_cons]
        cases e : p b with
        | true => rw [if_pos rfl, if_pos (hb e)]; simp; exact i
        | false =>
          rw [if_neg Bool.false_ne_true]
          split
          · simp; omega
          · exact i
    rw [List.filter_cons, List.filter_cons]
    rcases List.mem_cons.mp hx with e | e
    · subst e
      rw [h1, h2, if_neg Bool.false_ne_true, if_pos rfl]
      simp
      exact le
    · have i := filter_less (fun x hx => h x (List.mem_cons_of_mem _ hx)) ⟨x, e, h1, h2⟩
      have ha := h a List.mem_cons_self
      cases e : p a with
      | true => rw [if_pos rfl, if_pos (ha e)]; simp; omega
      | false =>
        rw [if_neg Bool.false_ne_true]
        split
        · simp; omega
        · exact i
noncomputable def cnt (L : List Of) (s k n : Nat) : Nat := ((List.range k).filter fun c => @decide (Rn L s n c) (Classical.propDecidable _)).length
theorem cdec {p : Prop} : (@decide p (Classical.propDecidable _)) = true ↔ p := @decide_eq_true_iff p (Classical.propDecidable _)
theorem cdecf {p : Prop} : (@decide p (Classical.propDecidable _)) = false ↔ ¬ p := @decide_eq_false_iff_not p (Classical.propDecidable _)
theorem Rn.lt {n : Nat} (hL : ∀ o ∈ L, OfOk k o) (hs : s < k) (r : Rn L s n c) : c < k := by
  induction n generalizing c with
  | zero => rw [show c = s from r]; exact hs
  | succ n ih =>
    rcases r with r | ⟨b, r, o, ho, _, e, _⟩
    · exact ih r
    · rw [← e]; exact (hL o ho).b
theorem Lead.lt (hL : ∀ o ∈ L, OfOk k o) (hs : s < k) (h : Lead L s c) : c < k := by
  obtain ⟨n, r⟩ := h
  exact r.lt hL hs
theorem Lead.to (hL : ∀ o ∈ L, OfOk k o) (hs : s < k) (h : Lead L s c) : Rn L s k c := by
  have key : ∀ n, (∃ m, m ≤ n ∧ ∀ c, Rn L s (m + 1) c → Rn L s m c) ∨ n + 1 ≤ cnt L s k n := by
    intro n
    induction n with
    | zero =>
      right
      have : 0 < cnt L s k 0 := List.length_pos_of_mem (a := s) (List.mem_filter.mpr ⟨List.mem_range.mpr hs, cdec.mpr rfl⟩)
      omega
    | succ n ih =>
      rcases ih with ⟨m, h1, h2⟩ | ih
      · exact .inl ⟨m, by omega, h2⟩
      · rcases Classical.em (∀ c, Rn L s (n + 1) c → Rn L s n c) with q | q
        · exact .inl ⟨n, by omega, q⟩
        · right
          obtain ⟨c, hc⟩ := Classical.not_forall.mp q
          obtain ⟨h1, h2⟩ := Classical.not_imp.mp hc
          have := filter_less (l := List.range k) (p := fun c => @decide (Rn L s n c) (Classical.propDecidable _)) (q := fun c => @decide (Rn L s (n + 1) c) (Classical.propDecidable _))
            (fun x _ hx => cdec.mpr (.inl (cdec.mp hx))) ⟨c, List.mem_range.mpr (h1.lt hL hs), cdec.mpr h1, cdecf.mpr h2⟩
          unfold cnt at ih ⊢
          omega
  rcases key k with ⟨m, h1, h2⟩ | q
  · refine Rn.up h1 ?_
    exact h.closed (S := fun x => Rn L s m x) (Rn.up (Nat.zero_le _) rfl) fun a b ha e => h2 b (.inr ⟨a, ha, e⟩)
  · have : cnt L s k k ≤ k := by
      unfold cnt
      exact Nat.le_trans (List.length_filter_le ..) (by rw [List.length_range]; exact Nat.le_refl _)
    omega
end
/-! sorted lists -/
theorem srt_eq {α : Type} {lt : α → α → Prop} (irr : ∀ x, ¬ lt x x) (tr : ∀ x y z, lt x y → lt y z → lt x z) : ∀ {l m : List α}, l.Pairwise lt → m.Pairwise lt → (∀ x, x ∈ l ↔ x ∈ m) → l = m
  | [], [], _, _, _ => rfl
  | [], b :: m, _, _, h => by have := (h b).mpr List.mem_cons_self; cases this
  | a :: l, [], _, _, h => by have := (h a).mp List.mem_cons_self; cases this
  | a :: l, b :: m, h1, h2, h => by
    obtain ⟨p1, q1⟩ := List.pairwise_cons.mp h1
    obtain ⟨p2, q2⟩ := List.pairwise_cons.mp h2
    have e : a = b := by
      rcases List.mem_cons.mp ((h a).mp List.mem_cons_self) with e | e
      · exact e
      · rcases List.mem_cons.mp ((h b).mpr List.mem_cons_self) with f | f
        · exact f.symm
        · exact (irr a (tr _ _ _ (p1 b f) (p2 a e))).elim
    subst e
    rw [srt_eq irr tr q1 q2 fun x => ⟨fun hx => ?_, fun hx => ?_⟩]
    · rcases List.mem_cons.mp ((h x).mp (List.mem_cons_of_mem _ hx)) with e | e
      · subst e; exact (irr _ (p1 _ hx)).elim
      · exact e
    · rcases List.mem_cons.mp ((h x).mpr (List.mem_cons_of_mem _ hx)) with e | e
      · subst e; exact (irr _ (p2 _ hx)).elim
      · exact e
theorem range_lt (k : Nat) : (List.range k).Pairwise (· < ·) := List.pairwise_lt_range
noncomputable def leadsL (L : List Of) (k s : Nat) : List Nat := (List.range k).filter fun c => @decide (Lead L s c) (Classical.propDecidable _)
noncomputable def backs (L : List Of) (k s : Nat) : List Nat := (List.range k).filter fun c => @decide (Lead L s c ∧ Lead L c s) (Classical.propDecidable _)
theorem mem_leads {L : List Of} {k s c : Nat} : c ∈ leadsL L k s ↔ c < k ∧ Lead L s c := by
  unfold leadsL
  rw [List.mem_filter, List.mem_range, cdec]
theorem mem_backs {L : List Of} {k s c : Nat} : c ∈ backs L k s ↔ c < k ∧ Lead L s c ∧ Lead L c s := by
  unfold backs
  rw [List.mem_filter, List.mem_range, cdec]
theorem backs_same {L : List Of} {k s c : Nat} (h : c ∈ backs L k s) : backs L k c = backs L k s := by
  obtain ⟨h0, h1, h2⟩ := mem_backs.mp h
  unfold backs
  refine List.filter_congr fun x _ => ?_
  have : (Lead L c x ∧ Lead L x c) ↔ (Lead L s x ∧ Lead L x s) := ⟨fun ⟨a, b⟩ => ⟨h1.trans a, b.trans h2⟩, fun ⟨a, b⟩ => ⟨h2.trans a, b.trans h1⟩⟩
  rw [Bool.eq_iff_iff, cdec, cdec]
  exact this
theorem backs_self {L : List Of} {k s : Nat} (h : s < k) : s ∈ backs L k s := mem_backs.mpr ⟨h, .self, .self⟩
theorem leads_lt (L : List Of) (k s : Nat) : (leadsL L k s).Pairwise (· < ·) := (range_lt k).filter _
theorem backs_lt (L : List Of) (k s : Nat) : (backs L k s).Pairwise (· < ·) := (range_lt k).filter _
theorem backs_len (L : List Of) (k s : Nat) : (backs L k s).length ≤ k := Nat.le_trans (List.length_filter_le ..) (by rw [List.length_range]; exact Nat.le_refl _)
theorem leads_len (L : List Of) (k s : Nat) : (leadsL L k s).length ≤ k := Nat.le_trans (List.length_filter_le ..) (by rw [List.length_range]; exact Nat.le_refl _)
theorem backs_filter (L : List Of) (k s : Nat) : (leadsL L k s).filter (fun c => @decide (Lead L c s) (Classical.propDecidable _)) = backs L k s := by
  unfold leadsL backs
  rw [List.filter_filter]
  refine List.filter_congr fun x _ => ?_
  rw [Bool.eq_iff_iff, Bool.and_eq_true, cdec, cdec, cdec]
  exact ⟨fun ⟨a, b⟩ => ⟨b, a⟩, fun ⟨a, b⟩ => ⟨b, a⟩⟩
theorem nd_len {α : Type} [DecidableEq α] : ∀ {l m : List α}, l.Nodup → (∀ x, x ∈ l → x ∈ m) → l.length ≤ m.length
  | [], _, _, _ => Nat.zero_le _
  | a :: l, m, hn, hs => by
    have hm : a ∈ m := hs a List.mem_cons_self
    obtain ⟨n1, n2⟩ := List.nodup_cons.mp hn
    have ih := nd_len (m := m.erase a) n2 fun x hx => (List.mem_erase_of_ne (by rintro rfl; exact n1 hx)).mpr (hs x (List.mem_cons_of_mem _ hx))
    rw [List.length_erase_of_mem hm] at ih
    have := List.length_pos_of_mem hm
    simp only [List.length_cons]
    omega
/-- numbers as integers -/
abbrev ni (l : List Nat) : List Int := l.map fun (c : Nat) => (c : Int)
theorem mem_ni {l : List Nat} {c : Nat} : (c : Int) ∈ ni l ↔ c ∈ l := by
  constructor
  · intro h
    obtain ⟨d, hd, e⟩ := List.mem_map.mp h
    rw [← Int.ofNat.inj e]
    exact hd
  · intro h
    exact List.mem_map.mpr ⟨c, h, rfl⟩
theorem ni_sorted {l : List Nat} (h : l.Pairwise (· < ·)) : (ni l).Pairwise (· < ·) := by
  rw [List.pairwise_map]
  exact h.imp fun q => Int.ofNat_lt.mpr q
theorem ni_nodup {l : List Nat} (h : l.Nodup) : (ni l).Nodup := by
  unfold List.Nodup at h ⊢
  rw [List.pairwise_map]
  exact h.imp fun q e => q (Int.ofNat.inj e)
/-- a sorted arrangement of given numbers -/
theorem ni_sort {F l : List Nat} {ys : List Int} (pm : ys.Perm (ni F)) (le : ys.Pairwise (· ≤ ·)) (nd : F.Nodup) (up : l.Pairwise (· < ·)) (h : ∀ c, c ∈ F ↔ c ∈ l) : ys = ni l := by
  have ny : ys.Nodup := (pm.nodup_iff).mpr (ni_nodup nd)
  have lt : ys.Pairwise (· < ·) := by
    have both := List.Pairwise.and le ny
    exact both.imp fun ⟨a, b⟩ => by omega
  refine srt_eq (lt := fun a b : Int => a < b) (fun x => Int.lt_irrefl x) (fun x y z => Int.lt_trans) lt (ni_sorted up) fun x => ?_
  rw [pm.mem_iff]
  constructor
  · intro hx
    obtain ⟨c, hc, rfl⟩ := List.mem_map.mp hx
    exact mem_ni.mpr ((h c).mp hc)
  · intro hx
    obtain ⟨c, hc, rfl⟩ := List.mem_map.mp hx
    exact mem_ni.mpr ((h c).mpr hc)
end Sm

set_option Elab.async false
set_option linter.all false
set_option maxRecDepth 100000
set_option maxHeartbeats 4000000
namespace Sm
open PySem PySem.Spec PyProof.Rows L2
/-! ### ranges of great ints; the sum of a tuple -/
theorem turn_long {P : Program} {w : World} {K : PySem.W.Frag} {tg : Expr} (it : Addr) (lo : Int) (n : Nat) : Turn P w K tg (Itr lo n) [it] it (fun i h => IsLongIter h it (lo + (i : Nat) * 1) ((n : Int) - (i : Nat)) 1) where
  mem := List.mem_singleton.mpr rfl
  obj := by
    intro i h st b hb
    rw [List.mem_singleton.mp hb]
    exact ⟨_, st, fun v z => nomatch z⟩
  keep := fun i h h' st k => k it (List.mem_singleton.mpr rfl) _ st
  item := by
    rintro X rfl rfl rfl hc i pins s σ H E I hf st hg
    obtain ⟨g0, g1, g2, g3, g4, g5⟩ := hf it (List.mem_singleton.mpr rfl)
    refine (Walks.longrange (prog := X.prog) (w := X.w) (I.ok.hd hc) it lo 1 n).item i s _ _ hg st ?_
    rintro v h' tk ⟨t, rfl⟩ st' same
    have J : Inv X pins σ H { s with heap := h', toks := tk } := I.turned (fun b o hb e => same b o (by simpa using hb) e) g0 g1 g3 g4 g5
    refine ⟨_, rfl, go_of (s := { s with heap := h', toks := tk }) (n := "longrange_iterator") st' rfl rfl (by decide) ⟨.int (lo + i), H, J, ⟨t, ?_⟩, ⟨rfl, rfl⟩, st', fun b hb => (hf b hb).1⟩⟩
    rw [Int.mul_one]
  done := by
    rintro X rfl rfl rfl hc i pins s σ H E I hf st hg
    obtain ⟨g0, g1, g2, g3, g4, g5⟩ := hf it (List.mem_singleton.mpr rfl)
    refine wpAny_pyNext_long_end (I.ok.hd hc) st (by have : n ≤ i := hg; omega) ?_
    intro h' eb
    exact ⟨rfl, I.turned (t' := s.toks) (fun b o hb e => eb b o hb e) g0 g1 g3 g4 g5⟩
  self := fun _ _ _ _ _ st h => wpAny_pyIter_longiter st h
section
variable {X : Cx} {tg : Expr}
def iRngW (ta : TA) : TI := fun σ H R => ta σ H fun vs H1 => ∃ i j : Int, vs = [.int i, .int j] ∧ R (Itr i (j - i).toNat) H1
theorem range_any {pins : List (Addr × Obj)} {σ : L2.St} {H : Hp} {s : Shared} {R : It → Hp → Prop} {E : Value → Shared → Prop} {lo hi : Int} {t u v : Tok} {tk : Nat} (I : Inv X pins σ H s)
    (q : R (Itr lo (hi - lo).toNat) H) : wpAny (model X.prog X.w) X.A (pyIter (.ref s.heap.objs.size)) (PIE X pins σ tg R) E { s with heap := s.heap.push { cls := .type "range", data := .fields #[.int lo t, .int hi u, .int 1 v] }, toks := tk } := by
  have J : Inv X pins σ H { s with heap := s.heap.push { cls := .type "range", data := .fields #[.int lo t, .int hi u, .int 1 v] }, toks := tk } := I.kept fun b o e => Heap.get?_push_of_some _ e
  have size : (((hi - lo).toNat : Nat) : Int) - ((0 : Nat) : Int) = Builtin.Range.rangeSize lo hi 1 := by
    rw [rangeSize_one]
    split <;> omega
  have first : lo + ((0 : Nat) : Int) * 1 = lo := by omega
  have fresh : ∀ b ∈ [(s.heap.push { cls := .type "range", data := .fields #[.int lo t, .int hi u, .int 1 v] }).objs.size], FpOk X pins H b := by
    intro b hb
    rw [List.mem_singleton.mp hb]
    exact J.fpOk (Nat.le_refl _) (J.hok.fresh (Nat.le_refl _))
  cases sm : Builtin.Range.small lo hi 1 with
  | true =>
    refine wpAny_pyIter_range (IsRange.new ..) sm ⟨_, [_], _, _, H, rfl, J.kept (t' := tk) fun b o e => Heap.get?_push_of_some _ e, turn_range _ lo (hi - lo).toNat, ?_, fresh, q⟩
    show IsRangeIter _ _ (lo + ((0 : Nat) : Int) * 1) ((((hi - lo).toNat : Nat) : Int) - ((0 : Nat) : Int)) 1
    rw [first, size]
    exact Heap.get?_push_size _ rfl
  | false =>
    refine wpAny_pyIter_longrange (IsRange.new ..) sm ⟨_, [_], _, _, H, rfl, J.kept (t' := tk) fun b o e => Heap.get?_push_of_some _ e, turn_long _ lo (hi - lo).toNat, ?_, fresh, q⟩
    show IsLongIter _ _ (lo + ((0 : Nat) : Int) * 1) ((((hi - lo).toNat : Nat) : Int) - ((0 : Nat) : Int)) 1
    rw [first, size]
    exact Heap.get?_push_size _ rfl
theorem pi_range2W {a b : Expr} {ta : TA} {p pos : Pos} (hg : Gl X "range") (hm : X.mg "range" = none) (ha : PA X [a, b] ta) (hs : starEach [a, b] X.env = [(false, eval a X.env), (false, eval b X.env)] := by rfl) (hs2 : starEach [b] X.env = [(false, eval b X.env)] := by rfl) :
    PI X tg (.Call (.Name "range" p) [a, b] [] pos) (iRngW ta) := by
  constructor
  intro pins s σ H R I want
  refine Call_ (ld_blt I hg hm boot_range (PyProof.Rows.callWith_type1 (thn (ha.run pos pins s σ H _ I want) ?_) (by rw [hs, hs2]) (by rw [hs2]; rfl)))
  rintro us s1 ⟨vs, H1, I1, rel, i, j, rfl, q⟩
  obtain ⟨u1, u2, rfl, ⟨t, rfl⟩, ⟨t', rfl⟩⟩ := vals2 rel
  exact call_range_2 (range_any I1 q)
theorem preSum_list (ns : List Int) : ∀ n, n ≤ ns.length → preSum (fun i => ns.getD i 0) n = (ns.take n).sum
  | 0, _ => by simp [preSum]
  | n + 1, h => by
    have ih := preSum_list ns n (by omega)
    rw [take_sum_succ ns n (by omega), ← ih]
    rfl
theorem cr_sumT (hc : X.calm = true) : CallR X (.builtin "sum") (fun vs H Q => ∃ (a : Addr) (ns : List Int), vs = [.ref a] ∧ SqT X.K H a (ns.map V.int) ∧ Q (.int ns.sum) H) := by
  intro pins s σ H vs us Q I rel want
  obtain ⟨a, ns, rfl, hs, q⟩ := want
  obtain ⟨its, rv, tup, _⟩ := I.tuple hs
  rw [Vals.ref1 rel]
  have tup : s.heap.IsTuple a its.toArray := tup
  have len : ns.length = its.length := by rw [← rv.length, List.length_map]
  have ne : a ≠ s.heap.objs.size := Nat.ne_of_lt (Heap.lt_size tup.choose_spec.1)
  refine call_sum_walkG (wpAny_pyIter_tuple tup ?_)
  refine ⟨s.heap.objs.size, _, _, _, _, _, fun i => ns.getD i 0, rfl, Walks.tuple (A := X.A.in1) (I.ok.hd hc) _ a ne its.toArray, ⟨?_, ?_⟩, ?_, ?_, ?_⟩
  · exact ⟨_, Heap.get?_push_size _ rfl, rfl, rfl⟩
  · exact tup.at fun o e => Heap.get?_push_of_some _ e
  · intro b hb
    show b < (s.heap.push _).objs.size
    rw [Heap.size_push]
    rcases List.mem_cons.mp hb with rfl | hb
    · exact Nat.lt_succ_self _
    · rw [List.mem_singleton.mp hb]
      exact Nat.lt_succ_of_lt (Heap.lt_size tup.choose_spec.1)
  · intro i v hv
    have hv : its[i]? = some v := by simpa using hv
    have hi : i < its.length := (List.getElem?_eq_some_iff.mp hv).1
    have g : (ns.map V.int)[i]? = some (.int (ns.getD i 0)) := by
      rw [List.getElem?_map, List.getElem?_eq_getElem (by omega), List.getD_eq_getElem?_getD, List.getElem?_eq_getElem (by omega)]
      rfl
    obtain ⟨u, hu, ru⟩ := rv.get g
    rw [hv] at hu
    injection hu with hu
    subst hu
    exact ru
  · intro h' tk t' keep
    have e : preSum (fun i => ns.getD i 0) its.toArray.size = ns.sum := by
      rw [List.size_toArray, ← len, preSum_list ns _ (Nat.le_refl _), List.take_length]
    rw [e]
    refine ⟨.int _, H, ?_, ⟨_, rfl⟩, q⟩
    refine I.kept fun b o z => keep b o (fun hb => ?_) (Heap.get?_push_of_some _ z)
    have := Heap.lt_size z
    rw [List.mem_singleton.mp hb] at this
    exact absurd this (Nat.lt_irrefl _)
end
end Sm

set_option Elab.async false
set_option linter.all false
set_option maxRecDepth 100000
set_option maxHeartbeats 4000000
namespace Sm
open PySem PySem.Spec PyProof.Rows L2
/-! ### a range kept in a variable -/
section
variable {X : Cx} {tg e : Expr} {te : TE}
theorem cr_range1 : CallR X (.type "range") (fun vs H Q => ∃ j : Int, vs = [V.int j] ∧ ∀ p, H p = none → Q (.ref p) (upd H p (.rng 0 j))) := by
  rintro pins s σ H vs us Q I r ⟨j, rfl, q⟩
  obtain ⟨u, rfl, t, rfl⟩ := vals1 r
  have fresh := I.hok.fresh (Nat.le_refl s.heap.objs.size)
  exact call_range_1 ⟨.ref s.heap.objs.size, _, I.laid (t' := s.toks + 1 + 1) (o := .rng 0 j) (fun _ _ z => Heap.get?_push_of_some _ z) (Nat.le_refl _) ⟨_, _, _, Heap.get?_push_size _ rfl⟩, rfl, q _ fresh⟩
theorem range_at {pins : List (Addr × Obj)} {σ : L2.St} {H : Hp} {s : Shared} {R : It → Hp → Prop} {E : Value → Shared → Prop} {lo hi : Int} {a : Addr} (I : Inv X pins σ H s) (ha : H a = some (.rng lo hi))
    (q : R (Itr lo (hi - lo).toNat) H) : wpAny (model X.prog X.w) X.A (pyIter (.ref a)) (PIE X pins σ tg R) E s := by
  obtain ⟨t, u, v, ho⟩ := I.hok a _ ha
  have size : (((hi - lo).toNat : Nat) : Int) - ((0 : Nat) : Int) = Builtin.Range.rangeSize lo hi 1 := by
    rw [rangeSize_one]
    split <;> omega
  have first : lo + ((0 : Nat) : Int) * 1 = lo := by omega
  have fresh : ∀ b ∈ [s.heap.objs.size], FpOk X pins H b := by
    intro b hb
    rw [List.mem_singleton.mp hb]
    exact I.fpOk (Nat.le_refl _) (I.hok.fresh (Nat.le_refl _))
  cases sm : Builtin.Range.small lo hi 1 with
  | true =>
    refine wpAny_pyIter_range ho sm ⟨_, [_], _, _, H, rfl, I.kept (t' := s.toks) fun b o e => Heap.get?_push_of_some _ e, turn_range _ lo (hi - lo).toNat, ?_, fresh, q⟩
    show IsRangeIter _ _ (lo + ((0 : Nat) : Int) * 1) ((((hi - lo).toNat : Nat) : Int) - ((0 : Nat) : Int)) 1
    rw [first, size]
    exact Heap.get?_push_size _ rfl
  | false =>
    refine wpAny_pyIter_longrange ho sm ⟨_, [_], _, _, H, rfl, I.kept (t' := s.toks) fun b o e => Heap.get?_push_of_some _ e, turn_long _ lo (hi - lo).toNat, ?_, fresh, q⟩
    show IsLongIter _ _ (lo + ((0 : Nat) : Int) * 1) ((((hi - lo).toNat : Nat) : Int) - ((0 : Nat) : Int)) 1
    rw [first, size]
    exact Heap.get?_push_size _ rfl
/-- for x in r, r a range that a variable holds -/
def iRngV (te : TE) : TI := fun σ H R => te σ H fun x H1 => ∃ (a : Addr) (lo hi : Int), x = .ref a ∧ H1 a = some (.rng lo hi) ∧ R (Itr lo (hi - lo).toNat) H1
theorem pi_rng (he : PE X e te) : PI X tg e (iRngV te) := by
  refine ⟨fun pins s σ H R I h => thn (he.run pins s σ H _ I h) ?_⟩
  rintro u s1 ⟨x, H1, I1, rx, a, lo, hi, rfl, ha, q⟩
  obtain rfl : u = Value.ref a := rx
  exact range_at I1 ha q
end
end Sm

set_option maxHeartbeats 4000000
namespace Sm
/-! ways: what they need and change -/
structure Tl where
  n : Nat → Int
  c : Nat → Int
def Tl.zero : Tl := ⟨fun _ => 0, fun _ => 0⟩
def Tl.seq (t u : Tl) : Tl := ⟨fun k => max (t.n k) (u.n k - t.c k), fun k => t.c k + u.c k⟩
def Tl.rnd (t : Tl) (m : Int) : Tl := ⟨fun k => max (t.n k) (t.n k - (m - 1) * t.c k), fun k => m * t.c k⟩
def n1 (o : Of) (k : Nat) : Int := if k = o.a then o.x else 0
def c1 (o : Of) (k : Nat) : Int := if k = o.b then o.y else if k = o.a then -o.x else 0
def runT (o : Of) (m : Int) : Tl := ⟨fun k => if k = o.a then m * o.x else 0, fun k => if k = o.b then m * o.y else if k = o.a then -m * o.x else 0⟩
def ofI (L : List Of) (i : Nat) : Of := L.getD i ⟨0, 0, 0, 0⟩
theorem ofI_at {L : List Of} {i : Nat} {o : Of} (h : L[i]? = some o) : ofI L i = o := by
  unfold ofI
  rw [List.getD_eq_getElem?_getD, h]
  rfl
theorem ofI_mem {L : List Of} {i : Nat} (h : i < L.length) : ofI L i ∈ L := by
  unfold ofI
  rw [List.getD_eq_getElem?_getD, List.getElem?_eq_getElem h]
  exact List.getElem_mem h
inductive St where
  | run (i : Nat) (m : Int)
  | rnd (rs : List (Nat × Int)) (m : Int)
def runsT (L : List Of) (rs : List (Nat × Int)) : Tl := rs.foldl (fun t r => t.seq (runT (ofI L r.1) r.2)) Tl.zero
def stT (L : List Of) : St → Tl
  | .run i m => runT (ofI L i) m
  | .rnd rs m => (runsT L rs).rnd m
def wayT (L : List Of) (ss : List St) : Tl := ss.foldl (fun t s => t.seq (stT L s)) Tl.zero
/-- a list of runs as a way -/
def asWay (rs : List (Nat × Int)) : List St := rs.map fun r => .run r.1 r.2
theorem asWay_T (L : List Of) (rs : List (Nat × Int)) : wayT L (asWay rs) = runsT L rs := by
  unfold wayT asWay runsT
  rw [List.foldl_map]
  rfl
theorem wayT_take {L : List Of} {ss : List St} {j : Nat} {s : St} (h : ss[j]? = some s) : wayT L (ss.take (j + 1)) = (wayT L (ss.take j)).seq (stT L s) := by
  unfold wayT
  rw [List.take_add_one, h, List.foldl_append]
  rfl
/-! uses, one after another -/
def bn : List Of → Nat → Int
  | [], _ => 0
  | o :: U, k => max (n1 o k) (bn U k - c1 o k)
def bc : List Of → Nat → Int
  | [], _ => 0
  | o :: U, k => c1 o k + bc U k
theorem bn_pos (U : List Of) (h : ∀ o ∈ U, 0 ≤ o.x) (k : Nat) : 0 ≤ bn U k := by
  cases U with
  | nil => exact Int.le_refl _
  | cons o U =>
    have := h o List.mem_cons_self
    unfold bn n1
    split <;> omega
theorem bc_app (U W : List Of) (k : Nat) : bc (U ++ W) k = bc U k + bc W k := by
  induction U with
  | nil => show bc W k = 0 + bc W k; omega
  | cons o U ih =>
    show c1 o k + bc (U ++ W) k = c1 o k + bc U k + bc W k
    omega
theorem bn_app {U W : List Of} (hW : ∀ o ∈ W, 0 ≤ o.x) (k : Nat) : bn (U ++ W) k = max (bn U k) (bn W k - bc U k) := by
  induction U with
  | nil =>
    have := bn_pos W hW k
    show bn W k = max 0 (bn W k - 0)
    omega
  | cons o U ih =>
    show max (n1 o k) (bn (U ++ W) k - c1 o k) = max (max (n1 o k) (bn U k - c1 o k)) (bn W k - (c1 o k + bc U k))
    rw [ih]
    omega
def reps (m : Nat) (U : List Of) : List Of := (List.replicate m U).flatten
theorem reps_x {m : Nat} {U : List Of} (h : ∀ o ∈ U, 0 ≤ o.x) : ∀ o ∈ reps m U, 0 ≤ o.x := fun o ho => by
  obtain ⟨l, hl, hl2⟩ := List.mem_flatten.mp ho
  rw [List.eq_of_mem_replicate hl] at hl2
  exact h o hl2
theorem reps_succ (m : Nat) (U : List Of) : reps (m + 1) U = U ++ reps m U := by
  unfold reps
  rw [List.replicate_succ, List.flatten_cons]
theorem bc_reps (m : Nat) (U : List Of) (k : Nat) : bc (reps m U) k = (m : Int) * bc U k := by
  induction m with
  | zero => simp [reps, bc]
  | succ m ih =>
    rw [reps_succ, bc_app, ih, Int.natCast_add, Int.add_mul]
    simp
    omega
theorem bn_reps {U : List Of} (h : ∀ o ∈ U, 0 ≤ o.x) (m : Nat) (k : Nat) : bn (reps (m + 1) U) k = max (bn U k) (bn U k - (m : Int) * bc U k) := by
  induction m with
  | zero =>
    rw [reps_succ]
    show bn (U ++ reps 0 U) k = _
    rw [show reps 0 U = [] from rfl, List.append_nil]
    simp
  | succ m ih =>
    rw [reps_succ, bn_app (reps_x h), ih]
    have p := bn_pos U h k
    have e : ((m + 1 : Nat) : Int) * bc U k = (m : Int) * bc U k + bc U k := by
      rw [Int.natCast_add, Int.add_mul]
      simp
    rw [e]
    rcases Int.le_total 0 (bc U k) with q | q
    · have : 0 ≤ (m : Int) * bc U k := Int.mul_nonneg (by omega) q
      omega
    · have : (m : Int) * bc U k ≤ 0 := Int.mul_nonpos_of_nonneg_of_nonpos (by omega) q
      omega
/-- what a list of uses needs and changes -/
def useT (U : List Of) : Tl := ⟨bn U, bc U⟩
theorem useT_app {U W : List Of} (hW : ∀ o ∈ W, 0 ≤ o.x) : useT (U ++ W) = (useT U).seq (useT W) := by
  unfold useT Tl.seq
  congr 1
  · exact funext fun k => bn_app hW k
  · exact funext fun k => bc_app U W k
theorem useT_reps {U : List Of} (h : ∀ o ∈ U, 0 ≤ o.x) {m : Nat} (m1 : 1 ≤ m) : useT (reps m U) = (useT U).rnd (m : Int) := by
  obtain ⟨j, rfl⟩ : ∃ j, m = j + 1 := ⟨m - 1, by omega⟩
  unfold useT Tl.rnd
  congr 1
  · refine funext fun k => ?_
    rw [bn_reps h, show ((j + 1 : Nat) : Int) - 1 = (j : Int) by omega]
  · exact funext fun k => bc_reps (j + 1) U k
theorem useT_run {o : Of} (x0 : 0 ≤ o.x) (y0 : 0 ≤ o.y) (ne : o.a ≠ o.b) {m : Nat} (m1 : 1 ≤ m) : useT (reps m [o]) = runT o (m : Int) := by
  rw [useT_reps (fun o' h => by rw [List.mem_singleton.mp h]; exact x0) m1]
  unfold useT Tl.rnd runT
  congr 1
  · refine funext fun k => ?_
    show max (max (n1 o k) (0 - c1 o k)) (max (n1 o k) (0 - c1 o k) - ((m : Int) - 1) * (c1 o k + 0)) = if k = o.a then (m : Int) * o.x else 0
    unfold n1 c1
    by_cases ha : k = o.a
    · have hb : k ≠ o.b := by rw [ha]; exact ne
      rw [if_pos ha, if_neg hb, if_pos ha, if_pos ha, Int.add_zero, Int.mul_neg, Int.sub_mul, Int.one_mul]
      have : o.x ≤ (m : Int) * o.x := by
        have := Int.mul_le_mul_of_nonneg_right (show (1 : Int) ≤ (m : Int) by omega) x0
        omega
      omega
    · by_cases hb : k = o.b
      · rw [if_neg ha, if_pos hb, if_neg ha, Int.add_zero]
        have : 0 ≤ ((m : Int) - 1) * o.y := Int.mul_nonneg (by omega) y0
        omega
      · rw [if_neg ha, if_neg hb, if_neg ha, if_neg ha]
        simp
  · refine funext fun k => ?_
    show (m : Int) * (c1 o k + 0) = if k = o.b then (m : Int) * o.y else if k = o.a then -(m : Int) * o.x else 0
    unfold c1
    rw [Int.add_zero]
    by_cases hb : k = o.b
    · rw [if_pos hb, if_pos hb]
    · rw [if_neg hb, if_neg hb]
      by_cases ha : k = o.a
      · rw [if_pos ha, if_pos ha, Int.mul_neg, Int.neg_mul]
      · rw [if_neg ha, if_neg ha, Int.mul_zero]
/-! the uses of a way -/
def runI (r : Nat × Int) : List Nat := List.replicate r.2.toNat r.1
def runsI (rs : List (Nat × Int)) : List Nat := rs.flatMap runI
def stI : St → List Nat
  | .run i m => runI (i, m)
  | .rnd rs m => (List.replicate m.toNat (runsI rs)).flatten
def wayI (ss : List St) : List Nat := ss.flatMap stI
def us (L : List Of) (I : List Nat) : List Of := I.map (ofI L)
/-- a run, a step, within the board -/
def RunOk (L : List Of) (r : Nat × Int) : Prop := r.1 < L.length ∧ 1 ≤ r.2
def StOk (L : List Of) : St → Prop
  | .run i m => RunOk L (i, m)
  | .rnd rs m => (∀ r ∈ rs, RunOk L r) ∧ 1 ≤ m
section
variable {k : Nat} {L : List Of} (ok : ∀ o ∈ L, OfOk k o)
include ok
theorem us_x {I : List Nat} (h : ∀ i ∈ I, i < L.length) : ∀ o ∈ us L I, 0 ≤ o.x := fun o ho => by
  obtain ⟨i, hi, rfl⟩ := List.mem_map.mp ho
  have := (ok _ (ofI_mem (h i hi))).x0
  omega
theorem us_run {r : Nat × Int} (h : RunOk L r) : useT (us L (runI r)) = runT (ofI L r.1) r.2 ∧ ∀ i ∈ runI r, i < L.length := by
  have o := ok _ (ofI_mem h.1)
  have x0 := o.x0
  have m1 := h.2
  refine ⟨?_, fun i hi => by rw [List.eq_of_mem_replicate hi]; exact h.1⟩
  have e : us L (runI r) = reps r.2.toNat [ofI L r.1] := by
    unfold us runI reps
    rw [List.map_replicate, List.flatten_replicate_singleton]
  rw [e, useT_run (by omega) o.y0 o.ne (show 1 ≤ r.2.toNat by omega), Int.toNat_of_nonneg (by omega)]
theorem us_runs : ∀ {rs : List (Nat × Int)}, (∀ r ∈ rs, RunOk L r) → useT (us L (runsI rs)) = runsT L rs ∧ ∀ i ∈ runsI rs, i < L.length := by
  suffices h : ∀ (rs : List (Nat × Int)) (I : List Nat) (t : Tl), (∀ r ∈ rs, RunOk L r) → useT (us L I) = t → (∀ i ∈ I, i < L.length) → useT (us L (I ++ runsI rs)) = rs.foldl (fun t r => t.seq (runT (ofI L r.1) r.2)) t ∧ ∀ i ∈ I ++ runsI rs, i < L.length by
    intro rs hr
    exact h rs [] Tl.zero hr rfl fun i hi => nomatch hi
  intro rs
  induction rs with
  | nil =>
    intro I t _ e hI
    refine ⟨?_, fun i hi => ?_⟩
    · show useT (us L (I ++ [])) = t
      rw [List.append_nil]
      exact e
    · rw [show runsI [] = [] from rfl, List.append_nil] at hi
      exact hI i hi
  | cons r rs ih =>
    intro I t hr e hI
    obtain ⟨e1, h1⟩ := us_run ok (hr r List.mem_cons_self)
    have step := ih (I ++ runI r) (t.seq (runT (ofI L r.1) r.2)) (fun r' h => hr r' (List.mem_cons_of_mem _ h)) (by
      rw [show us L (I ++ runI r) = us L I ++ us L (runI r) from List.map_append, useT_app (us_x ok h1), e, e1]) (fun i hi => by
      rcases List.mem_append.mp hi with hi | hi
      · exact hI i hi
      · exact h1 i hi)
    rw [List.append_assoc] at step
    exact step
theorem us_st {s : St} (h : StOk L s) : useT (us L (stI s)) = stT L s ∧ ∀ i ∈ stI s, i < L.length := by
  match s, h with
  | .run i m, h => exact us_run ok h
  | .rnd rs m, ⟨h, m1⟩ =>
    obtain ⟨e, hi⟩ := us_runs ok h
    refine ⟨?_, fun i hi' => ?_⟩
    · have e2 : us L (stI (.rnd rs m)) = reps m.toNat (us L (runsI rs)) := by
        show ((List.replicate m.toNat (runsI rs)).flatten).map (ofI L) = _
        rw [List.map_flatten, List.map_replicate]
        rfl
      rw [e2, useT_reps (us_x ok hi) (show 1 ≤ m.toNat by omega), e, Int.toNat_of_nonneg (by omega)]
      rfl
    · obtain ⟨l, hl, hl2⟩ := List.mem_flatten.mp hi'
      rw [List.eq_of_mem_replicate hl] at hl2
      exact hi i hl2
theorem us_way : ∀ {ss : List St}, (∀ s ∈ ss, StOk L s) → useT (us L (wayI ss)) = wayT L ss ∧ ∀ i ∈ wayI ss, i < L.length := by
  suffices h : ∀ (ss : List St) (I : List Nat) (t : Tl), (∀ s ∈ ss, StOk L s) → useT (us L I) = t → (∀ i ∈ I, i < L.length) → useT (us L (I ++ wayI ss)) = ss.foldl (fun t s => t.seq (stT L s)) t ∧ ∀ i ∈ I ++ wayI ss, i < L.length by
    intro ss hr
    exact h ss [] Tl.zero hr rfl fun i hi => nomatch hi
  intro ss
  induction ss with
  | nil =>
    intro I t _ e hI
    refine ⟨?_, fun i hi => ?_⟩
    · show useT (us L (I ++ [])) = t
      rw [List.append_nil]
      exact e
    · rw [show wayI [] = [] from rfl, List.append_nil] at hi
      exact hI i hi
  | cons s ss ih =>
    intro I t hr e hI
    obtain ⟨e1, h1⟩ := us_st ok (hr s List.mem_cons_self)
    have step := ih (I ++ stI s) (t.seq (stT L s)) (fun r' h => hr r' (List.mem_cons_of_mem _ h)) (by
      rw [show us L (I ++ stI s) = us L I ++ us L (stI s) from List.map_append, useT_app (us_x ok h1), e, e1]) (fun i hi => by
      rcases List.mem_append.mp hi with hi | hi
      · exact hI i hi
      · exact h1 i hi)
    rw [List.append_assoc] at step
    exact step
end
/-- amounts of the kinds as a list -/
def vec (k : Nat) (f : Nat → Int) : List Int := (List.range k).map f
theorem vec_len (k : Nat) (f : Nat → Int) : (vec k f).length = k := by
  unfold vec
  rw [List.length_map, List.length_range]
theorem vec_get {k i : Nat} {f : Nat → Int} (h : i < k) : (vec k f)[i]? = some (f i) := by
  unfold vec
  rw [List.getElem?_map, List.getElem?_range h]
  rfl
theorem vec_set {k i : Nat} {f g : Nat → Int} {v : Int} (h : g i = v) (hg : ∀ j, j ≠ i → g j = f j) : (vec k f).set i v = vec k g := by
  refine List.ext_getElem? fun j => ?_
  rw [List.getElem?_set]
  by_cases e : i = j
  · subst e
    rw [if_pos rfl]
    by_cases l : i < k
    · rw [vec_len, if_pos l, vec_get l, h]
    · rw [vec_len, if_neg l, List.getElem?_eq_none (by rw [vec_len]; omega)]
  · rw [if_neg e]
    by_cases l : j < k
    · rw [vec_get l, vec_get l, hg j (Ne.symm e)]
    · rw [List.getElem?_eq_none (by rw [vec_len]; omega), List.getElem?_eq_none (by rw [vec_len]; omega)]
theorem vec_rep (k : Nat) : List.replicate k (0 : Int) = vec k fun _ => 0 := by
  refine List.ext_getElem? fun j => ?_
  by_cases l : j < k
  · rw [vec_get l, List.getElem?_replicate, if_pos l]
  · rw [List.getElem?_eq_none (by rw [List.length_replicate]; omega), List.getElem?_eq_none (by rw [vec_len]; omega)]
theorem vec_succ (k : Nat) (f : Nat → Int) : vec (k + 1) f = vec k f ++ [f k] := by
  unfold vec
  rw [List.range_succ, List.map_append]
  rfl
end Sm

set_option Elab.async false
set_option linter.all false
set_option maxRecDepth 100000
set_option maxHeartbeats 4000000
namespace Sm
open PySem PySem.Spec PyProof.Rows L2
/-! ### a tuple taken once, or no times -/
theorem tuple_once (l : Addr) (items : Array Value) (n : Nat) (dd : Option Addr) (sl : Array (Option Value)) (u : Tok) :
    Meets (Builtin.«tuple.__mul__» ⟨[.ref l, .int 1 u], []⟩) (fun _ R s => s.heap.get? l = some { cls := .type "tuple", dict := dd, data := .seq items n, slots := sl } ∧ R (.ok (.ret (Value.ref l))) s) :=
  .of_wp fun prog w A R s h => by
    obtain ⟨hp, g, d, tk, os⟩ := s
    obtain ⟨hl, h⟩ := h
    have f1 := AutoSeq1.idx_int
    have c0 : (decide ((1 : Int) < -(2 ^ 63)) || decide ((1 : Int) ≥ 2 ^ 63)) = false := by decide
    wp_walk using wpAny_loadPart' hl
    exact ⟨_, rfl, h⟩
theorem tuple_zero (l : Addr) (items : Array Value) (n : Nat) (dd : Option Addr) (sl : Array (Option Value)) (u : Tok) (hi : items.isEmpty = false) :
    Meets (Builtin.«tuple.__mul__» ⟨[.ref l, .int 0 u], []⟩) (fun _ R s => s.heap.get? l = some { cls := .type "tuple", dict := dd, data := .seq items n, slots := sl } ∧ R (.ok (.ret (Value.ref s.heap.objs.size))) { s with heap := s.heap.push { cls := Value.type "tuple", data := Data.seq #[] } }) :=
  .of_wp fun prog w A R s h => by
    obtain ⟨hp, g, d, tk, os⟩ := s
    obtain ⟨hl, h⟩ := h
    have f1 := AutoSeq1.idx_int
    wp_walk using wpAny_loadPart' hl
    exact ⟨_, rfl, h⟩
section
variable {X : Cx}
/-- tuple * int, the int from 0 on -/
theorem op_rep0 : OpR X (binaryOp .Mult) (fun x y H Q => ∃ (l : Addr) (k : Int) (xs : List V), x = .ref l ∧ y = .int k ∧ H l = some (.tup xs) ∧ xs ≠ [] ∧ 0 ≤ k ∧ k ≤ 1000 ∧ xs.length ≤ 1000 ∧
    ∀ H' q, Same H H' → H' q = some (.tup (List.replicate k.toNat xs).flatten) → Q (.ref q) H') := by
  intro pins s σ H x y v u Q I rx ry want
  obtain ⟨l, k, xs, rfl, rfl, hT, hne, h0, h1, hz, q⟩ := want
  by_cases big : 2 ≤ k
  · exact op_repT pins s σ H _ _ v u Q I rx ry ⟨l, k, xs, rfl, rfl, SqT.of hT, hne, big, h1, hz, fun p np => q _ p (fun b o e => by rw [upd_ne (ne_of_none e np)]; exact e) upd_same⟩
  cases rx
  obtain ⟨t, rfl⟩ := ry
  obtain ⟨its, r, ⟨⟨cls, dd, data, sl⟩, ho, hc, n, hd⟩, hs⟩ := I.tuple (SqT.of hT)
  simp only at hc hd
  subst hc hd
  have hi : its.toArray.isEmpty = false := by
    cases its with
    | nil =>
      have := r.length
      exact absurd (List.eq_nil_of_length_eq_zero this) hne
    | cons a b => rfl
  by_cases one : k = 1
  · subst one
    refine wpAny_binaryOp_repeat_ref (T := "tuple") (U := "int") (by decide) ⟨_, ho, rfl⟩ (fun s' => typeIs_int s' 1 t) noFill_tuple_mul F.fills_int_mul F.slot_int_rmul repeat_tuple F.slot_int_index.lookup
      (call_meets F.slot_int_rmul (typeIs_int s 1 t) F.entry_int_rmul (F.args_int_rmul_2 _ _) (int_rmul_tuple 1 t l its.toArray n dd sl) ⟨ho, rfl, ⟨_, ho, rfl⟩, ?_⟩)
    refine call_meets F.slot_tuple_mul ⟨_, ho, rfl⟩ F.entry_tuple_mul (F.args_tuple_mul_2 _ _) (tuple_once l its.toArray n dd sl t) ⟨ho, ?_⟩
    refine ⟨.ref l, H, I, rfl, q H l (Same.refl H) ?_⟩
    rw [hT]
    simp
  · have zero : k = 0 := by omega
    subst zero
    refine wpAny_binaryOp_repeat_ref (T := "tuple") (U := "int") (by decide) ⟨_, ho, rfl⟩ (fun s' => typeIs_int s' 0 t) noFill_tuple_mul F.fills_int_mul F.slot_int_rmul repeat_tuple F.slot_int_index.lookup
      (call_meets F.slot_int_rmul (typeIs_int s 0 t) F.entry_int_rmul (F.args_int_rmul_2 _ _) (int_rmul_tuple 0 t l its.toArray n dd sl) ⟨ho, rfl, ⟨_, ho, rfl⟩, ?_⟩)
    refine call_meets F.slot_tuple_mul ⟨_, ho, rfl⟩ F.entry_tuple_mul (F.args_tuple_mul_2 _ _) (tuple_zero l its.toArray n dd sl t hi) ⟨ho, ?_⟩
    have fresh := I.hok.fresh (Nat.le_refl s.heap.objs.size)
    refine ⟨.ref s.heap.objs.size, upd H s.heap.objs.size (.tup []), I.laid (t' := s.toks) (fun b ob e => Heap.get?_push_of_some _ e) (Nat.le_refl _) ?_, rfl, q _ _ (fun b o e => by rw [upd_ne (ne_of_none e fresh)]; exact e) upd_same⟩
    exact ⟨Nat.zero_le _, [], .nil, IsTup.new _ _⟩
end
end Sm

set_option Elab.async false
set_option linter.all false
set_option maxRecDepth 100000
set_option maxHeartbeats 4000000
namespace Sm
open PySem PySem.Spec PyProof.Rows L2
/-- isinstance of the exception that the suite holds, with its dict: one class, or a tuple of classes just laid -/
def rIsX (K : PySem.W.Frag) (cls : Value) (d : Option Addr) (a : Addr) : List V → Hp → VK → Prop := fun xs H Q => ∃ (D dd : Addr) (fs : List (Str × V)), cls = .ref D ∧ d = some dd ∧ H dd = some (.xd fs) ∧ ExcC K D ∧
  ((∃ (c : V) (cv : Value) (b : Bool), xs = [.ref a, c] ∧ ClsV c cv ∧ PySem.W.kitOne K (.ref D) cv = some b ∧ Q (.bl b) H) ∨
   ∃ (tp : Addr) (cs : List V) (us : List Value) (b : Bool), xs = [.ref a, .ref tp] ∧ H tp = some (.tup cs) ∧ Paired ClsV cs us ∧ PySem.W.kitAny K (.ref D) us = some b ∧ Q (.bl b) H)
theorem call_isX {X : Cx} {a : Addr} {cls : Value} {d : Option Addr} {oe : Obj} {pn : List (Addr × Obj)} (hz : Zc cls d oe) (hf : ∃ vs, oe.data = .fields vs) : CallR (X.suite a ((a, oe) :: pn)) (.builtin "isinstance") (rIsX X.K cls d a) := by
  intro pins s σ H xs us Q I r h
  obtain ⟨D, dd, fs, rfl, rfl, ea, C, h⟩ := h
  obtain ⟨ha, _⟩ := I.pin (a, oe) (List.mem_append_left _ List.mem_cons_self)
  obtain ⟨vs, hd⟩ := hf
  have hx : ObjOk X.prog X.w H s.heap dd (.xd fs) := I.hok dd _ ea
  obtain ⟨mA, hns, hr⟩ := hx
  obtain ⟨od, ho, hl⟩ := lookIn_ns hns
  have J : PySem.W.InstAt s.heap a oe D (some od) := ⟨ha, hz.1, by unfold PySem.W.notCls; rw [hd] <;> rfl, by rw [hz.2]; exact ho⟩
  obtain ⟨cd, hc, _⟩ := PySem.W.any_some C.hd
  have Z := PySem.W.kitx_exc (x := a) (ox := oe) (od := some od) (by rw [hc]; rfl) C.hg C.hk C.hs C.ha C.hn C.ht C.hm
  rcases h with ⟨c, cv, b, rfl, k, e, q⟩ | ⟨tp, cs, ws, b, rfl, hT, k, e, q⟩
  · obtain ⟨u1, u2, rfl, r1, r2⟩ := vals2 r
    cases (show u1 = Value.ref a from r1)
    cases k.eq r2
    exact PySem.W.kia_one Z I.kIn J e (fun z => nomatch z) fun tk => ⟨.bl b, H, I.kept (t' := tk) fun _ _ z => z, rfl, q⟩
  · obtain ⟨u1, u2, rfl, r1, r2⟩ := vals2 r
    cases (show u1 = Value.ref a from r1)
    cases (show u2 = Value.ref tp from r2)
    obtain ⟨_, its, rv, o, h1, h2, n, h3⟩ := (show ObjOk X.prog X.w H s.heap tp (.tup cs) from I.hok tp _ hT)
    have e3 := ClsV.all k rv
    subst e3
    obtain ⟨oc, od', dt, sl⟩ := o
    simp only at h2 h3
    subst h2 h3
    exact PySem.W.kia_tup Z I.kIn J h1 e (fun z => nomatch z) fun tk => ⟨.bl b, H, I.kept (t' := tk) fun _ _ z => z, rfl, q⟩
theorem kit_own {K : PySem.W.Frag} {D C : Addr} {b : Bool} (h1 : PySem.W.isClsIn K C = true) (h2 : PySem.W.typeIn K (.ref C) = some (.type "type")) (h3 : PySem.W.subIn K (.ref D) (.ref C) = some b) (h4 : PySem.W.subIn K (.ref D) (.ref D) = some true) : PySem.W.kitOne K (.ref D) (.ref C) = some b := by
  unfold PySem.W.kitOne
  by_cases e : D = C
  · subst e
    rw [h4] at h3
    rw [if_pos (beq_self_eq_true _)]
    exact h3
  · rw [if_neg (fun q => e (Value.ref.inj (beq_iff_eq.mp q)))]
    have h1' : (PySem.W.clsIn K C).isSome = true := h1
    have z : ((PySem.W.clsIn K C).isSome && PySem.W.typeIn K (.ref C) == some (.type "type")) = true := by rw [h1', h2] <;> rfl
    show (if ((PySem.W.clsIn K C).isSome && PySem.W.typeIn K (.ref C) == some (.type "type")) = true then PySem.W.subIn K (.ref D) (.ref C) else none) = some b
    rw [if_pos z]
    exact h3
theorem kit_valerr {K : PySem.W.Frag} {D : Addr} {b : Bool} (h : PySem.W.subIn K (.ref D) (.type "ValueError") = some b) : PySem.W.kitOne K (.ref D) (.type "ValueError") = some b := by
  have q : ((Value.ref D) == (Value.type "ValueError")) = false := beq_eq_false_iff_ne.mpr fun z => nomatch z
  unfold PySem.W.kitOne
  rw [if_neg (by rw [q]; exact Bool.false_ne_true)]
  show (if PySem.W.kitMeta "ValueError" = true then PySem.W.subIn K (.ref D) (.type "ValueError") else none) = some b
  rw [if_pos (by decide +kernel)]
  exact h
theorem kit_cons_false {K : PySem.W.Frag} {t c : Value} {cs : List Value} {b : Bool} (h : PySem.W.kitOne K t c = some false) (hr : PySem.W.kitAny K t cs = some b) : PySem.W.kitAny K t (c :: cs) = some b := by
  unfold PySem.W.kitAny
  rw [h]
  exact hr
/-- an own exception class with one field, made by its own __init__ -/
structure XcTxt (K : PySem.W.Frag) (mg : Str → Option Value) (nm fl : Str) (C fI : Addr) : Prop where
  g : mg nm = some (.ref C)
  oex : OexC K C
  no : PySem.W.findIn K (.ref C) fl = some none
  iC : PySem.W.findIn K (.ref C) "__init__" = some (some (.ref fI))
  tI : PySem.W.typeIn K (.ref fI) = some (.type "function")
  xf : XfC K C
  ec : ExcC K C
/-- C(e), told plainly: the new exception's dict holds the field -/
def tMkF (C : Addr) (fl : Str) (ta : TA) : L2.St → Hp → XK → Prop := fun σ H Q => ta σ H fun vs H1 => ∃ v, vs = [v] ∧ ∀ d, H1 d = none → Q (.ref C) (some d) (upd H1 d (.xd [(fl, v)]))
def sp_init (K : PySem.W.Frag) (fl : Str) : Sp := fun vs H Q _ => ∃ (a C : Addr) (v : V), vs = [.ref a, v] ∧ OexC K C ∧ PySem.W.findIn K (.ref C) fl = some none ∧ H a = some (exo a C none) ∧ ∀ dx, H dx = none → dx ≠ a → Q .non (upd (upd H dx (exd dx [(fl, v)])) a (exo a C (some dx)))
theorem xc_mk {C : Addr} {fl : Str} {K : PySem.W.Frag} {ta : TA} {σ : L2.St} {H : Hp} {Q : XK} (T : OexC K C) (no : PySem.W.findIn K (.ref C) fl = some none)
    (h : ta σ H fun vs H1 => ∃ v, vs = [v] ∧ ∀ d H2, Same H1 H2 → H2 d = some (.xd [(fl, v)]) → Q (.ref C) (some d) H2) (mono : ∀ {A B : List V → Hp → Prop}, (∀ vs H1, A vs H1 → B vs H1) → ta σ H A → ta σ H B) : tMkO C (sp_init K fl) [] ta σ H Q := by
  refine mono ?_ h
  rintro vs H1 ⟨v, rfl, k⟩
  refine ⟨by show 1 ≤ 1000; decide, fun a na => ⟨a, C, v, rfl, T, no, upd_same, fun dx nd da => ⟨rfl, dx, [(fl, v)], upd_same, ?_, ?_, ?_⟩⟩⟩
  · rw [upd_ne da, upd_same]
  · rw [upd_ne da] at nd
    exact nd
  · have nd1 : H1 dx = none := by
      rw [upd_ne da] at nd
      exact nd
    refine k dx _ (fun b o hb => ?_) upd_same
    rw [upd_ne (ne_of_none hb nd1), del_ne (ne_of_none hb na), upd_ne (ne_of_none hb na), upd_ne (ne_of_none hb nd1), upd_ne (ne_of_none hb na)]
    exact hb
end Sm

set_option Elab.async false
set_option linter.all false
set_option maxRecDepth 100000
set_option maxHeartbeats 4000000
namespace Sm
open PySem PySem.Spec PyProof.Rows L2
/-! ### enumerate of a tuple -/
def tIt (l : Addr) : Obj := { cls := Value.type "tuple_iterator", data := Data.fields #[Value.ref l, Value.int 0 0] }
def eIt (i : Addr) : Obj := { cls := Value.type "enumerate", data := Data.fields #[Value.none, Value.bool false, Value.ref i, rawInt 0, Value.none, Value.none] }
theorem meets_enumerate_newT (l : Addr) (items : Array Value) : Meets (Builtin.«enumerate.__new__» { pos := [Value.type "enumerate", Value.ref l] }) fun _ R s =>
    s.heap.IsTuple l items ∧ R (Except.ok (Flow.ret (Value.ref (s.heap.push (tIt l)).objs.size))) { heap := (s.heap.push (tIt l)).push (eIt s.heap.objs.size), gens := s.gens, drawn := s.drawn, toks := s.toks, os := s.os } := by
  refine Meets.of_wp fun prog w A R s h => ?_
  obtain ⟨hT, h⟩ := h
  have hsub := sub_enumerate
  unfold Builtin.«enumerate.__new__»
  refine wpAny_bind (wpAny_bind (wpAny_pure (wpAny_ite_false rfl (wpAny_bind (wpAny_of_eq hsub (wpAny_ite_false rfl (wpAny_pure (wpAny_ite_true rfl (wpAny_bind (wpAny_bind (wpAny_stack_any fun st => wpAny_pure ?_)))))))))))
  have tail : wpAny (model prog w) A.in1 (Builtin.SmallTypes.newRecord (Value.type "enumerate") (Builtin.SmallTypes.ownedTupleFields ++ [Value.ref s.heap.objs.size, rawInt 0, Value.none, Value.none]))
      (fun a s' => wpAny (model prog w) A.in1 (ret a) (fun fin s' => ∃ v, fin = Fin.done (Flow.ret v) ∧ R (Except.ok (Flow.ret v)) s') (fun e s' => R (Except.error e) s') s') (fun e s' => R (Except.error e) s')
      { heap := s.heap.push (tIt l), gens := s.gens, drawn := s.drawn, toks := s.toks, os := s.os } := by
    unfold Builtin.SmallTypes.newRecord
    show wpAny (model prog w) A.in1 (newObj (Value.type "enumerate") (Data.fields (Builtin.SmallTypes.ownedTupleFields ++ [Value.ref s.heap.objs.size, rawInt 0, Value.none, Value.none]).toArray)) _ _ _
    unfold newObj
    show wpAny (model prog w) A.in1 (if (Builtin.SmallTypes.ownedTupleFields ++ [Value.ref s.heap.objs.size, rawInt 0, Value.none, Value.none]).toArray.size > sizeLine + 2 then _ else _) _ _ _
    apply wpAny_ite_false
    · exact decide_eq_false (by show ¬ (6 > sizeLine + 2); decide)
    refine wpAny_bind (wpAny_alloc' (wpAny_pure ?_))
    exact wpAny_pure ⟨_, rfl, h⟩
  split
  · rename_i c tl kw snd tl2 eq
    cases c == Value.type "enumerate"
    · exact wpAny_ite_false rfl (wpAny_bind (wpAny_of_eq (a := (Value.ref l, none)) rfl (wpAny_bind (wpAny_pyIter_tuple hT (wpAny_bind tail)))))
    · exact wpAny_ite_true rfl (wpAny_bind (wpAny_pure (wpAny_bind (wpAny_pyIter_tuple hT (wpAny_bind tail)))))
  · exact wpAny_ite_false rfl (wpAny_bind (wpAny_of_eq (a := (Value.ref l, none)) rfl (wpAny_bind (wpAny_pyIter_tuple hT (wpAny_bind tail)))))
theorem call_enumerate_tuple {prog : Program} {w : World} {A : Around} {E : Value → Shared → Prop} {s : Shared} {l : Addr} {items : Array Value} {Q : Value → Shared → Prop} (hT : s.heap.IsTuple l items)
    (h : ∀ h' : Heap, IsEnum h' (s.heap.objs.size + 1) s.heap.objs.size 0 Value.none → h'.IsTupleIter s.heap.objs.size l 0 → h'.objs.size = s.heap.objs.size + 2 → (∀ (b : Addr) (o : Obj), s.heap.get? b = some o → h'.get? b = some o) → Q (Value.ref (s.heap.objs.size + 1)) { s with heap := h' }) :
    wpAny (model prog w) A (call (Value.type "enumerate") [Value.ref l]) Q E s := by
  have hz : (s.heap.push (tIt l)).objs.size = s.heap.objs.size + 1 := Heap.size_push _ _
  refine callType_new F.called_enumerate (by decide) (F.typeCall_enumerate_1 (Value.ref l)) (F.newCall_enumerate_1 (Value.ref l)) (fun obj => F.args_object_init_2 obj (Value.ref l)) F.entry_enumerate_new (meets_enumerate_newT l items) ⟨hT, ?_⟩
  have he : ((s.heap.push (tIt l)).push (eIt s.heap.objs.size)).get? (s.heap.objs.size + 1) = some (eIt s.heap.objs.size) := by
    have := Heap.get?_push_size (s.heap.push (tIt l)) (o := eIt s.heap.objs.size) rfl
    rw [hz] at this
    exact this
  rw [hz]
  refine ⟨⟨_, he, rfl⟩, h _ he ⟨_, Heap.get?_push_of_some _ (Heap.get?_push_size s.heap rfl), rfl, rfl⟩ ?_ fun b o y => Heap.get?_push_of_some _ (Heap.get?_push_of_some _ y)⟩
  rw [Heap.size_push, hz]
def IteT (K : PySem.W.Frag) (a : Addr) : It :=
  { go := fun i H => ∃ xs x, SqT K H a xs ∧ xs[i]? = some x,
    yld := fun i H v H' => ∃ T x, v = V.ref T ∧ H T = none ∧ H' = upd H T (HO.tup [V.int ((i : Nat) : Int), x]) ∧ ∀ xs : List V, SqT K H a xs → xs[i]? = some x,
    stop := fun i H => ∃ xs, SqT K H a xs ∧ xs.length = i }
theorem turn_enumT {P : Program} {w : World} {K : PySem.W.Frag} {elts : List Expr} {kk : Nat} {tpos : Pos} (a e it : Addr) :
    Turn P w K (Expr.Tuple elts kk tpos) (IteT K a) [e, it] e (fun i h => (∃ old, IsEnum h e it ((i : Nat) : Int) old) ∧ h.IsTupleIter it a i ∧ e ≠ it) where
  mem := List.mem_cons_self ..
  obj := by
    rintro i h ⟨⟨old, he⟩, ⟨o, ho, hc, hd⟩, hne⟩ b hb
    rcases List.mem_cons.mp hb with rfl | hb
    · exact ⟨_, he, fun v q => nomatch q⟩
    · rw [List.mem_singleton.mp hb]
      exact ⟨o, ho, fun v q => by rw [hd] at q; cases q⟩
  keep := by
    rintro i h h' ⟨⟨old, he⟩, hit, hne⟩ k
    exact ⟨⟨old, k e (List.mem_cons_self ..) _ he⟩, hit.at fun o q => k it (List.mem_cons_of_mem _ (List.mem_singleton.mpr rfl)) o q, hne⟩
  item := by
    rintro X rfl rfl rfl hc i pins s σ H E I hf ⟨⟨old, he⟩, hit, hne⟩ ⟨xs, x, hq, hx⟩
    obtain ⟨its, rv, p, hz⟩ := I.tuple hq
    obtain ⟨u, hu, ru⟩ := rv.get hx
    have tup : s.heap.IsTuple a its.toArray := p
    have hel := Heap.lt_size he
    have hil : it < s.heap.objs.size := by
      obtain ⟨o, q, _⟩ := hit
      exact Heap.lt_size q
    have hal : a ≠ it := by
      rintro rfl
      obtain ⟨o, q1, q2, _⟩ := hit
      obtain ⟨o', q3, q4, _⟩ := tup
      rw [q1] at q3
      cases q3
      rw [q2] at q4
      exact absurd q4 (by decide)
    have hae : e ≠ a := by
      rintro rfl
      obtain ⟨o', q3, q4, _⟩ := tup
      rw [he] at q3
      cases q3
      exact absurd (show Value.type "enumerate" = Value.type "tuple" from q4) (by decide)
    have hn : i < its.length := (List.getElem?_eq_some_iff.mp hu).1
    refine wpAny_pyNext_enum_itemD (Draws.tuple (A := X.A.in1) (I.ok.hd hc) it a hal its.toArray) he ⟨hit, tup⟩ (by rw [List.size_toArray]; exact hn) hne (by simp [hne, hae]) (fun x' h' tk px ho st' hT hsz hk => ?_)
    have px : x' = u := by
      have px : its[i]? = some x' := by simpa using px
      rw [hu] at px
      exact (Option.some.inj px).symm
    subst px
    refine ⟨_, rfl, wpAny_letOwnedTupleGo_enum ho fun h'' he' sb => ?_⟩
    have hT2 := (sb.2 _ (Nat.ne_of_gt hel)).trans hT
    have new : ObjOk X.prog X.w (upd H s.heap.objs.size (.tup [.int (i : Int), x])) h'' s.heap.objs.size (.tup [.int (i : Int), x]) := ⟨(by show 2 ≤ sizeLine; decide), [Value.int (i : Int) tk, x'], .cons ⟨tk, rfl⟩ (.cons ru .nil), _, hT2, rfl, 0, rfl⟩
    have I1 := Inv.turnedNew (t' := tk + 1) (ch := [e, it]) I (fun b o hb q => (sb.2 b (fun z => hb (by rw [z]; exact List.mem_cons_self ..))).trans (hk b o (fun z => hb (by rw [z]; exact List.mem_cons_self ..)) (fun z => hb (by rw [z]; exact List.mem_cons_of_mem _ (List.mem_singleton.mpr rfl))) q)) hf (Nat.le_refl _) new
    refine ⟨V.ref s.heap.objs.size, _, I1, rfl, ⟨_, x, rfl, I.hok.fresh (Nat.le_refl _), rfl, fun ys hy => by rw [I.tuple_inj hy hq]; exact hx⟩, ⟨⟨x', ?_⟩, st'.1.at fun o q => (sb.2 _ hne.symm).trans q, hne⟩, fun b hb => ?_⟩
    · have e1 : ((i + 1 : Nat) : Int) = (i : Int) + 1 := by omega
      rw [e1]
      exact he'
    · have lt : b < s.heap.objs.size := by
        rcases List.mem_cons.mp hb with rfl | hb
        · exact hel
        · rw [List.mem_singleton.mp hb]
          exact hil
      rw [upd_ne (Nat.ne_of_lt lt)]
      exact (hf b hb).1
  done := by
    rintro X rfl rfl rfl hc i pins s σ H E I hf ⟨⟨old, he⟩, hit, hne⟩ ⟨xs, hq, hx⟩
    obtain ⟨its, rv, p, hz⟩ := I.tuple hq
    have tup : s.heap.IsTuple a its.toArray := p
    have hal : a ≠ it := by
      rintro rfl
      obtain ⟨o, q1, q2, _⟩ := hit
      obtain ⟨o', q3, q4, _⟩ := tup
      rw [q1] at q3
      cases q3
      rw [q2] at q4
      exact absurd q4 (by decide)
    obtain ⟨f0, f1, f2, f3, f4, f5⟩ := hf it (List.mem_cons_of_mem _ (List.mem_singleton.mpr rfl))
    have en : its.toArray.size = i := by rw [List.size_toArray, ← rv.length]; exact hx
    refine wpAny_pyNext_enum_endD (Draws.tuple (A := X.A.in1) (I.ok.hd hc) it a hal its.toArray) he ⟨by rw [en]; exact hit, tup⟩ fun h' eb => ⟨rfl, Inv.turned I (fun b o hb q => eb b o hb q) f0 f1 f3 f4 f5⟩
  self := by
    rintro A i s Q E ⟨⟨old, he⟩, _⟩ h
    exact wpAny_pyIter_enum he h
theorem walk_enumT {K : PySem.W.Frag} {a : Addr} {xs : List V} : Walk (IteT K a) xs.length (fun H => SqT K H a xs) (YPair (fun i => some (V.int ((i : Nat) : Int))) fun i => xs[i]?) where
  goes := fun i H hi q => ⟨xs, xs[i], q, by simp [hi]⟩
  stops := fun H q => ⟨xs, q, rfl⟩
  yields := by
    rintro i H v H' hi q ⟨T, x, h1, h2, h3, h4⟩
    exact ⟨T, _, x, h1, h2, h3, rfl, h4 xs q⟩
section
variable {X : Cx} {tg : Expr}
def iEnumT (K : PySem.W.Frag) (ta : TA) : TI := fun σ H R => ta σ H fun vs H1 => ∃ a xs, vs = [V.ref a] ∧ SqT K H1 a xs ∧ R (IteT K a) H1
theorem pi_enumT {e : Expr} {ta : TA} {p pos tpos : Pos} {elts : List Expr} {kk : Nat} (hg : Gl X "enumerate") (hm : X.mg "enumerate" = none) (ha : PA X [e] ta) (hs : starEach [e] X.env = [(false, eval e X.env)] := by rfl) :
    PI X (Expr.Tuple elts kk tpos) (.Call (.Name "enumerate" p) [e] [] pos) (iEnumT X.K ta) := by
  constructor
  intro pins s σ H R I want
  refine Call_ (ld_blt I hg hm boot_enumerate (PyProof.Rows.callWith_type1 (thn (ha.run pos pins s σ H _ I want) ?_) hs rfl))
  rintro us s1 ⟨vs, H1, I1, rel, a, xs, rfl, hq, q⟩
  obtain ⟨its, rv, p', hz⟩ := I1.tuple hq
  rw [Vals.ref1 rel]
  have tup : s1.heap.IsTuple a its.toArray := p'
  refine call_enumerate_tuple tup fun h' he hit hsz hk => wpAny_pyIter_enum he ?_
  have I2 := I1.kept (t' := s1.toks) hk
  have hne : s1.heap.objs.size + 1 ≠ s1.heap.objs.size := by omega
  refine ⟨s1.heap.objs.size + 1, [s1.heap.objs.size + 1, s1.heap.objs.size], _, IteT X.K a, H1, rfl, I2, turn_enumT a _ _, ⟨⟨_, he⟩, hit, hne⟩, fun b hb => ?_, q⟩
  have ge : s1.heap.objs.size ≤ b := by
    rcases List.mem_cons.mp hb with rfl | hb
    · omega
    · rw [List.mem_singleton.mp hb]
      exact Nat.le_refl _
  have fr := I1.hok.fresh ge
  have f := I1.fpOk ge fr
  exact f
end
end Sm

set_option Elab.async false
set_option linter.all false
set_option maxRecDepth 100000
set_option maxHeartbeats 4000000
namespace Sm
open PySem PySem.Spec PyProof.Rows L2
/-! ### max of a tuple of ints -/
section
variable {prog : Program} {w : World} {A : Around} {E : Value → Shared → Prop} {s : Shared} {l : Addr} {its : List Value} {ns : List Int} {Q : Value → Shared → Prop}
theorem iter_intTup {xs : Array (Int × Tok)} (hl : s.heap.IsTuple l (intItems xs))
    (h : ∀ s₂ : Shared, s₂ = { s with heap := s.heap.push { cls := .type "tuple_iterator", data := .fields #[.ref l, .int 0 0] } } →
      (s₂.heap.IsTupleIter s.heap.objs.size l 0 ∧ s₂.heap.IsTuple l (intItems xs)) → (∀ b ∈ [s.heap.objs.size, l], b < s₂.heap.objs.size) → l ≠ s.heap.objs.size → Q (.ref s.heap.objs.size) s₂) :
    wpAny (model prog w) A (pyIter (.ref l)) Q E s := by
  have hlt : l < s.heap.objs.size := by obtain ⟨_, e, _⟩ := hl; exact Heap.lt_size e
  refine wpAny_pyIter_tuple hl (h _ rfl ⟨⟨_, Heap.get?_push_size _ rfl, rfl, rfl⟩, hl.push _⟩ (fun b hb => ?_) (Nat.ne_of_lt hlt))
  show b < (s.heap.push _).objs.size
  rw [Heap.size_push]
  rcases List.mem_cons.mp hb with rfl | hb
  · exact Nat.lt_succ_self _
  · rcases List.mem_cons.mp hb with rfl | hb
    · exact Nat.lt_succ_of_lt hlt
    · cases hb
theorem old_keptT {h' : Heap} (hk : ∀ b o, b ∉ [s.heap.objs.size] → (s.heap.push { cls := .type "tuple_iterator", data := .fields #[.ref l, .int 0 0] }).get? b = some o → h'.get? b = some o) :
    ∀ b o, s.heap.get? b = some o → h'.get? b = some o := fun b o e => by
  refine hk b o (fun hm => ?_) (Heap.get?_push_of_some _ e)
  rcases List.mem_cons.mp hm with e1 | hm
  · exact absurd (e1 ▸ Heap.lt_size e) (Nat.lt_irrefl _)
  · cases hm
theorem max_intTup {xs : Array (Int × Tok)} (hh : A.handled = none) (hl : s.heap.IsTuple l (intItems xs)) (hne : 0 < xs.size)
    (h : ∀ v h' tk, (intItems xs)[argBest (fun i j => decide (numAt xs i > numAt xs j)) (xs.size - 1)]? = some v → (∀ b o, s.heap.get? b = some o → h'.get? b = some o) → Q v { s with heap := h', toks := tk }) :
    wpAny (model prog w) A (call (.builtin "max") [.ref l]) Q E s := by
  have hlt : l < s.heap.objs.size := by obtain ⟨_, e, _⟩ := hl; exact Heap.lt_size e
  refine call_max_walk (iter_intTup hl fun s₂ e st hfp hlI => ?_)
  subst e
  refine ⟨_, _, _, _, _, _, _, rfl, Walks.tuple (A := A.in1) hh _ l hlI (intItems xs), st, hfp, by simpa [intItems] using hne, CmpOf.ints_gt (numAt xs) (fun _ _ => intItems_at), fun v h' tk hP hk => ?_⟩
  exact h v h' tk (by simpa [intItems] using hP) (old_keptT hk)
theorem max_rawT (hh : A.handled = none) (hl : s.heap.IsTuple l its.toArray) (hi : IntsAre its ns) (hne : 0 < ns.length)
    (h : ∀ h' tk M t', (∀ b o, s.heap.get? b = some o → h'.get? b = some o) → M ∈ ns → (∀ a, a ∈ ns → a ≤ M) → Q (.int M t') { s with heap := h', toks := tk }) : wpAny (model prog w) A (call (.builtin "max") [.ref l]) Q E s := by
  obtain ⟨xs, e⟩ := hi.allInts.items
  have hn : numsOf (intItems xs).toList = ns := by rw [← e]; exact hi.numsOf
  rw [nums_intItems] at hn
  subst hn
  rw [e] at hl
  have hsz : 0 < xs.size := by simpa using hne
  refine max_intTup hh hl hsz fun v h' tk hv hk => ?_
  obtain ⟨t, rfl⟩ := intItems_at hv
  obtain ⟨h1, h2⟩ := argBest_gt (numAt xs) (xs.size - 1)
  refine h h' tk _ t hk ?_ fun a ha => ?_
  · rw [numAt_eq]; exact PySem.getD_mem (by rw [List.length_map, Array.length_toList]; omega)
  · obtain ⟨j, hj, rfl⟩ := mem_getD ha
    rw [List.length_map, Array.length_toList] at hj
    rw [← numAt_eq]; exact h2 j (by omega)
end
section
variable {X : Cx}
def rMaxT (K : PySem.W.Frag) : List V → Hp → VK → Prop := fun vs H Q => ∃ (a : Addr) (ns : List Int), vs = [V.ref a] ∧ SqT K H a (ns.map V.int) ∧ 0 < ns.length ∧ ∀ m, m ∈ ns → (∀ y, y ∈ ns → y ≤ m) → Q (.int m) H
theorem cr_maxT (hc : X.calm = true) : CallR X (.builtin "max") (rMaxT X.K) := by
  intro pins s σ H vs us Q I r h
  obtain ⟨a, ns, rfl, hs, hne, q⟩ := h
  obtain ⟨its, rv, hl, _⟩ := I.tuple hs
  rw [Vals.ref1 r]
  exact max_rawT (I.ok.hd hc) hl (rv.ints) hne fun h' tk m t' hk h1 h2 => ⟨.int _, H, I.kept hk, ⟨_, rfl⟩, q m h1 h2⟩
end
theorem walk_zipT {K : PySem.W.Frag} {a b : Addr} {xs ys : List V} {n : Nat} (h1 : xs.length = n) (h2 : ys.length = n) : Walk (RZ.ItzT K a b) n (fun H => SqT K H a xs ∧ SqT K H b ys) (YPair (fun i => xs[i]?) (fun i => ys[i]?)) := by
  refine ⟨fun i _ hi q => ?_, fun _ q => ⟨xs, ys, q.1, q.2, by omega⟩, fun i H v H' _ q y => ?_⟩
  · have h1 : i < xs.length := by omega
    have h2 : i < ys.length := by omega
    exact ⟨xs, ys, xs[i], ys[i], q.1, q.2, by simp [h1], by simp [h2]⟩
  · obtain ⟨T, x, z, h1, h2, h3, h4, h5⟩ := y
    exact ⟨T, x, z, h1, h2, h3, h4 xs q.1, h5 ys q.2⟩
end Sm

set_option Elab.async false
set_option linter.all false
namespace L2
open PySem PySem.Spec PyProof.Rows
/-! == and != of data without dicts, whatever the signs of its texts -/
def rEqP (K : PySem.W.Frag) : R2 := fun x y H Q => ∃ d e, Dp K H x d ∧ Dp K H y e ∧ d.plain = true ∧ e.plain = true ∧ d.depth ≤ 60 ∧ Q (.bl (PyData.eqv d e)) H
def rNeP (K : PySem.W.Frag) : R2 := fun x y H Q => ∃ d e, Dp K H x d ∧ Dp K H y e ∧ d.plain = true ∧ e.plain = true ∧ d.depth ≤ 60 ∧ Q (.bl (!PyData.eqv d e)) H
section
variable {X : Cx}
theorem op_eqP (hu : X.A.units + 64 < cLine) : OpR X (compareOp .Eq) (rEqP X.K) := by
  intro pins s σ H x y v u Q I rx ry h
  obtain ⟨d, e, hd, he, sd, se, dd, q⟩ := h
  obtain ⟨as, r1⟩ := Dp.reads I d x v hd rx
  obtain ⟨bs, r2⟩ := Dp.reads I e y u he ry
  exact SeqAt.eq_plain r1 r2 sd se (by omega) ⟨.bl _, H, I, rfl, q⟩
theorem op_neP (hu : X.A.units + 64 < cLine) : OpR X (compareOp .NotEq) (rNeP X.K) := by
  intro pins s σ H x y v u Q I rx ry h
  obtain ⟨d, e, hd, he, sd, se, dd, q⟩ := h
  obtain ⟨as, r1⟩ := Dp.reads I d x v hd rx
  obtain ⟨bs, r2⟩ := Dp.reads I e y u he ry
  exact SeqAt.ne_plain r1 r2 sd se (by omega) ⟨.bl _, H, I, rfl, q⟩
end
end L2

set_option Elab.async false
set_option linter.all false
set_option maxRecDepth 100000
set_option maxHeartbeats 8000000
namespace Sm
open PySem PySem.Spec PyProof.Rows L2
open C8 (pss_cut)
def topS (i : Nat) : Stmt := PySem.Challenge.pw_smallchange_k25_ways_walked.main.body.getD i (.Pass ⟨0, 0, 0, 0⟩)
structure Txt (mg : Str → Option Value) : Prop where
  n_LookupError : mg "LookupError" = none
  n_ValueError : mg "ValueError" = none
  n_abs : mg "abs" = none
  n_any : mg "any" = none
  n_enumerate : mg "enumerate" = none
  n_int : mg "int" = none
  n_isinstance : mg "isinstance" = none
  n_len : mg "len" = none
  n_list : mg "list" = none
  n_max : mg "max" = none
  n_range : mg "range" = none
  n_repr : mg "repr" = none
  n_set : mg "set" = none
  n_sorted : mg "sorted" = none
  n_tuple : mg "tuple" = none
theorem get_int {T : List Int} {i : Nat} (h : i < T.length) : (T.map V.int)[i]? = some (.int (T.getD i 0)) := by
  rw [List.getElem?_map, List.getElem?_eq_getElem h, List.getD_eq_getElem?_getD, List.getElem?_eq_getElem h]
  rfl
/-! ### boards in the heap -/
def OffAt (H : Hp) (q : Addr) (o : Of) : Prop := H q = some (.tup (o.ns.map V.int))
/-- the offers of a list, one after another -/
def OffsAt (H : Hp) (qs : List Addr) (L : List Of) : Prop := qs.length = L.length ∧ ∀ (i : Nat) (q : Addr), qs[i]? = some q → ∃ o, L[i]? = some o ∧ OffAt H q o
def BoardAt (H : Hp) (d : Addr) (k : Nat) (L : List Of) : Prop := ∃ (t : Addr) (qs : List Addr), H d = some (.tup [.int (k : Int), .ref t]) ∧ H t = some (.tup (qs.map V.ref)) ∧ OffsAt H qs L
theorem OffsAt.same {H H' : Hp} {qs : List Addr} {L : List Of} (h : OffsAt H qs L) (s : Same H H') : OffsAt H' qs L :=
  ⟨h.1, fun i q e => by obtain ⟨o, h1, h2⟩ := h.2 i q e; exact ⟨o, h1, s _ _ h2⟩⟩
theorem BoardAt.same {H H' : Hp} {d : Addr} {k : Nat} {L : List Of} (h : BoardAt H d k L) (s : Same H H') : BoardAt H' d k L := by
  obtain ⟨t, qs, h1, h2, h3⟩ := h
  exact ⟨t, qs, s _ _ h1, s _ _ h2, h3.same s⟩
theorem OffsAt.fr {H H' : Hp} {a l : Addr} {n : Int} {qs : List Addr} {L : List Of} (h : OffsAt H qs L) (f : Fr a l H H') (D : Deck H a l n) : OffsAt H' qs L :=
  ⟨h.1, fun i q e => by obtain ⟨o, h1, h2⟩ := h.2 i q e; exact ⟨o, h1, f.tup D h2⟩⟩
theorem BoardAt.fr {H H' : Hp} {d a l : Addr} {n : Int} {k : Nat} {L : List Of} (h : BoardAt H d k L) (f : Fr a l H H') (D : Deck H a l n) : BoardAt H' d k L := by
  obtain ⟨t, qs, h1, h2, h3⟩ := h
  exact ⟨t, qs, f.tup D h1, f.tup D h2, h3.fr f D⟩
/-- a list's place rewritten: tuples stay -/
theorem OffsAt.updL {H : Hp} {U : Addr} {xs ys : List V} {qs : List Addr} {L : List Of} (h : OffsAt H qs L) (hU : H U = some (.lst xs)) : OffsAt (upd H U (.lst ys)) qs L :=
  ⟨h.1, fun i q e => by
    obtain ⟨o, h1, h2⟩ := h.2 i q e
    refine ⟨o, h1, ?_⟩
    unfold OffAt
    rw [upd_ne (ne_of h2 hU (by intro q; cases q))]
    exact h2⟩
def sp_l_board (_ : PySem.W.Frag) : Sp := fun vs H Q _ => ∃ (p l : Addr) (n : Int) (k : Nat) (upto top : Int), vs = [.ref p, .int (k : Int), .int upto, .int top] ∧ Deck H p l n ∧ 0 ≤ n ∧ n ≤ 900000 ∧ 1 ≤ k ∧ k ≤ 4 ∧ 0 ≤ upto ∧ upto ≤ 40 ∧ 1 ≤ top ∧ top ≤ 30 ∧
  ∀ H' d L n', Fr p l H H' → Deck H' p l n' → n ≤ n' → n' ≤ n + 200 → BoardAt H' d k L → (∀ o ∈ L, OfOk k o) → L.length < 64 → Q (.ref d) H'
section
variable {P : Program} {w : World} {K : PySem.W.Frag} {mg : Str → Option Value} {base : Heap}
abbrev s_l_deck : Stmt := topS 9
abbrev N_l_deck : List Str := ["_law_script", "_law_cell"]
theorem sc_l_deck : FnScope N_l_deck ["_law_script"] (defScope s_l_deck) := ⟨rfl, rfl, rfl, by decide +kernel, rfl, by decide +kernel, by decide +kernel⟩
theorem ok_l_deck (T : Txt mg) (D : Df K mg "_law_deck" s_l_deck ["_law_script"]) : Cal P w K mg base "_law_deck" ["_law_script"] 1 (sp_l_deck K) := by
  refine D.cal sc_l_deck (fun vs H Q E h => ?_) (fun f cdv A outer s H vs Q E hr h => ?_)
  · obtain ⟨a, ns, rfl, _⟩ := h
    rfl
  obtain ⟨a, ns, rfl, hS, hlen, k⟩ := h
  refine ⟨_, (pss_one (ps_ret (pe_lst (pa_cons (pe_lc (own := [("_law_cell", 1)]) (g := gName 1) (tt := tYes) rfl sc_l_deck.nd (pi_list (pe_slice sl_list (pv 0) po_none (po_some pe_int))) (blkOk_by (own := [("_law_cell", 1)]) (N := N_l_deck) (sc := defScope s_l_deck) (by decide +kernel)) (fun _ _ _ _ _ => pg_name (i := 1) sc_l_deck.nd rfl (Or.inl rfl)) (fun _ _ _ _ _ => pts_nil) (fun _ _ _ _ _ => (pe_callB call_abs (by rfl) T.n_abs (by decide +kernel) (pa_cons (pv 1) pa_nil)))) (pa_cons pe_int pa_nil))))), ?_⟩
  refine ⟨_, rfl, _, rfl, a, _, rfl, hS, fun c nc => ?_⟩
  rw [cut63 hlen]
  have s1 := same_upd (o := .lst (ns.map V.int)) nc
  refine ⟨c, rfl, ⟨_, SqL.of upd_same⟩, fun D nD => ?_⟩
  have s2 := s1.trans (same_upd (o := .lst []) nD)
  have hc2 : upd (upd H c (.lst (ns.map V.int))) D (.lst []) c = some (.lst (ns.map V.int)) := same_upd nD _ _ upd_same
  refine lc_list (K := K) (a := c) (xs := ns.map V.int) (fun i H' => Same H H' ∧ H' c = some (.lst (ns.map V.int)) ∧ c ≠ D ∧ H D = none ∧ H' D = some (.lst (((ns.take i).map absI).map V.int)))
    ⟨s2, hc2, ne_of_none upd_same nD, s1.free nD, upd_same⟩ (fun i H' _ h => SqL.of h.2.1) ?_ ?_
  · rintro i x H' hx ⟨sm, hc, ncD, nD0, hD⟩
    rw [List.getElem?_map] at hx
    cases e : ns[i]? with
    | none => rw [e] at hx; cases hx
    | some y =>
      rw [e] at hx
      have ex : x = .int y := (Option.some.inj hx).symm
      subst ex
      refine ⟨rfl, ?_⟩
      unfold tYes
      refine iteT ?_
      refine ⟨_, rfl, _, rfl, _, hD, ?_, ?_⟩
      · rw [List.length_map, List.length_map, List.length_take]
        exact Nat.lt_of_le_of_lt (Nat.min_le_right _ _) (small1000 (by omega))
      · refine ⟨fun b o e => ?_, ?_, ncD, nD0, ?_⟩
        · rw [upd_ne (ne_of_none e nD0)]
          exact sm _ _ e
        · rw [upd_ne ncD]
          exact hc
        · rw [upd_same, List.take_add_one, e, List.map_append, List.map_append]
          rfl
  · rintro H' ⟨sm, hc, ncD, nD0, hD⟩
    refine ⟨(by show 2 ≤ sizeLine; decide), fun p np => ?_⟩
    have s3 := sm.trans (same_upd (o := .lst [.ref D, .int 0]) np)
    refine k _ p D s3 ⟨upd_same, _, (same_upd np) _ _ hD, fun c hc => ?_, ?_⟩
    · obtain ⟨y, _, rfl⟩ := List.mem_map.mp hc
      exact absI_pos y
    · rw [List.length_map, List.length_take]
      omega
abbrev s_l_draw : Stmt := topS 10
abbrev N_l_draw : List Str := ["_law_deck_here", "_law_many", "_law_place", "_law_cell", "_law_mixed"]
theorem sc_l_draw : FnScope N_l_draw ["_law_deck_here", "_law_many"] (defScope s_l_draw) := ⟨rfl, rfl, rfl, by decide +kernel, rfl, by decide +kernel, by decide +kernel⟩
theorem ok_l_draw (T : Txt mg) (D : Df K mg "_law_draw" s_l_draw ["_law_deck_here", "_law_many"]) : Cal P w K mg base "_law_draw" ["_law_deck_here", "_law_many"] 1 (sp_l_draw K) := by
  refine D.cal sc_l_draw (fun vs H Q E h => ?_) (fun f cdv A outer s H vs Q E hr h => ?_)
  · obtain ⟨p, l, n, m, rfl, _⟩ := h
    rfl
  obtain ⟨p, l, n, m, rfl, D, n0, n1, m0, m1, k⟩ := h
  obtain ⟨cells, hl, hc⟩ := D.hl
  have npl : p ≠ l := ne_of D.hp hl deck_ne
  refine ⟨_, (pss_cons (ps_asg (pe_op op_add (pe_ix ix_list (pv 0) pe_int (fun _ _ => rfl)) pe_int) (pg_sub (pv 0) pe_int set_list))
    (pss_cons (ps_set (i := 2) sc_l_draw.nd rfl (Or.inl rfl) (pe_op op_modN (pe_callTy call_int1 (by rfl) T.n_int (by decide +kernel) (pa_cons (pe_ix ix_list (pv 0) pe_int (fun _ _ => rfl)) pa_nil)) (pe_callB (call_max2 rfl) (by rfl) T.n_max (by decide +kernel) (pa_cons pe_int (pa_cons (pe_callB call_len_seq (by rfl) T.n_len (by decide +kernel) (pa_cons (pe_ix ix_list (pv 0) pe_int (fun _ _ => rfl)) pa_nil)) pa_nil)))))
    (pss_cons (ps_set (i := 3) sc_l_draw.nd rfl (Or.inl rfl) (pe_ix ix_list (pe_op op_cat (pe_ix ix_list (pv 0) pe_int (fun _ _ => rfl)) (pe_lst (pa_cons pe_int pa_nil))) (pv 2) (fun _ _ => rfl)))
    (pss_cons (ps_if (pt_cmpR op_ge (pv 3) (pe_op op_pow pe_int pe_int) (nomark _)) (pss_cons (ps_asg (pe_op op_fdivW (pv 3) (pv 1)) (pg_sub (pe_ix ix_list (pv 0) pe_int (fun _ _ => rfl)) (pv 2) set_list))
    (pss_one (ps_ret (pe_op op_modN (pe_callTy call_int1 (by rfl) T.n_int (by decide +kernel) (pa_cons (pv 3) pa_nil)) (pv 1))))) pss_nil)
    (pss_cons (ps_set (i := 4) sc_l_draw.nd rfl (Or.inl rfl) (pe_op op_pow (pe_op op_add (pe_op op_add (pe_op op_modN (pe_callTy call_int1 (by rfl) T.n_int (by decide +kernel) (pa_cons (pv 3) pa_nil)) pe_int) (pe_op op_mul pe_int (pe_ix ix_list (pv 0) pe_int (fun _ _ => rfl)))) pe_int) pe_int))
    (pss_one (ps_ret (pe_op op_modN (pe_callTy call_int1 (by rfl) T.n_int (by decide +kernel) (pa_cons (pe_op op_modN (pe_callTy call_int1 (by rfl) T.n_int (by decide +kernel) (pa_cons (pv 4) pa_nil)) pe_int) pa_nil)) (pv 1))))))))), ?_⟩
  refine ⟨_, rfl, _, _, _, _, rfl, rfl, SqL.of D.hp, atI_nat (j := 1) rfl, _, _, rfl, rfl, _, rfl, _, _, _, _, rfl, rfl, D.hp, rfl, ?_⟩
  generalize hH0 : upd H p (HO.lst (List.set [V.ref l, V.int n] (Int.toNat 1) ((fun i j => V.int (i + j)) n 1))) = H0
  have hH0 : upd H p (.lst [.ref l, .int (n + 1)]) = H0 := hH0
  have f0 : Fr p l H H0 := fun b o h1 _ h => by rw [← hH0, upd_ne h1]; exact h
  have hl0 : H0 l = some (.lst (cells.map V.int)) := by rw [← hH0, upd_ne npl.symm]; exact hl
  have hp0 : H0 p = some (.lst [.ref l, .int (n + 1)]) := by rw [← hH0, upd_same]
  -- place
  have big : (if ((cells.map V.int).length : Int) > 1 then ((cells.map V.int).length : Int) else 1) = max 1 (cells.length : Int) := by
    rw [List.length_map]
    split <;> omega
  have fm : (n + 1).fmod (max 1 (cells.length : Int)) = (n + 1) % (max 1 (cells.length : Int)) := fmod_pos (by omega)
  have q0 : 0 ≤ (n + 1).fmod (max 1 (cells.length : Int)) := by rw [fm]; exact Int.emod_nonneg _ (by omega)
  have q1 : (n + 1).fmod (max 1 (cells.length : Int)) < max 1 (cells.length : Int) := by rw [fm]; exact Int.emod_lt_of_pos _ (by omega)
  refine ⟨_, rfl, _, _, _, _, rfl, rfl, SqL.of hp0, atI_nat (j := 1) rfl, .inl ⟨_, rfl, _, rfl, _, _, _, _, rfl, rfl, SqL.of hp0, atI_nat (j := 0) rfl, _, _, rfl, .inl (SqL.of hl0), _, _, rfl, _, _, rfl, rfl, (by rw [big]; omega), ?_⟩⟩
  have z : ∀ B : Int → Prop, B ((n + 1).fmod (max 1 (cells.length : Int))) → B ((n + 1).fmod (if ((cells.map V.int).length : Int) > 1 then ((cells.map V.int).length : Int) else 1)) := fun B h => by rw [big]; exact h
  refine z (fun y => gName 2 (.int y) _ _ _) ?_
  clear z
  -- cell
  refine ⟨_, rfl, _, _, _, _, rfl, rfl, SqL.of hp0, atI_nat (j := 0) rfl, (by show 1 ≤ sizeLine; decide), fun t nt => ?_⟩
  have st := same_upd (o := .lst [.int 0]) nt
  have hp1 := st _ _ hp0
  have hl1 := st _ _ hl0
  have f1 := f0.trans (Same.fr (p := p) (l := l) st)
  obtain ⟨hc, h63⟩ := hc
  have ln : (cells.map V.int).length = cells.length := List.length_map ..
  refine ⟨_, _, _, _, rfl, rfl, hl1, upd_same, (by rw [ln]; exact Nat.le_trans (by omega : cells.length + 1 ≤ 64) (by decide)), fun t2 nt2 => ?_⟩
  have st2 := same_upd (o := .lst (cells.map V.int ++ [.int 0])) nt2
  have hp2 := st2 _ _ hp1
  have hl2 := st2 _ _ hl1
  have f2 := f1.trans (Same.fr (p := p) (l := l) st2)
  have ht2 : upd (upd H0 t (.lst [.int 0])) t2 (.lst (cells.map V.int ++ [.int 0])) t2 = some (.lst ((cells ++ [0]).map V.int)) := by rw [upd_same, List.map_append]; rfl
  generalize upd (upd H0 t (HO.lst [V.int 0])) t2 (HO.lst (cells.map V.int ++ [V.int 0])) = H2 at hp2 hl2 f2 ht2 ⊢
  have q2 : ((n + 1).fmod (max 1 (cells.length : Int))).toNat < (cells ++ [0]).length := by rw [List.length_append, List.length_singleton]; omega
  have q3 : (n + 1).fmod (max 1 (cells.length : Int)) = (((n + 1).fmod (max 1 (cells.length : Int))).toNat : Int) := by omega
  generalize (n + 1).fmod (max 1 (cells.length : Int)) = pl at q0 q1 q2 q3 ⊢
  have q4 : ((cells ++ [0]).map V.int)[pl.toNat]? = some (.int (cells ++ [0])[pl.toNat]) := by
    rw [List.getElem?_map, List.getElem?_eq_getElem q2]
    rfl
  have c0 : 0 ≤ (cells ++ [0])[pl.toNat] := by
    rcases List.mem_append.mp (List.getElem_mem q2) with q | q
    · exact hc _ q
    · rw [List.mem_singleton.mp q]
      decide
  have inside : 1000000000000000000 ≤ (cells ++ [0])[pl.toNat] → pl.toNat < cells.length := by
    intro q
    by_cases e : pl.toNat < cells.length
    · exact e
    · rw [List.getElem_append_right (by omega)] at q
      simp at q
  generalize (cells ++ [0])[pl.toNat] = c at q4 c0 inside ⊢
  refine ⟨_, rfl, _, _, _, _, rfl, rfl, SqL.of ht2, at_of q3 q4, ?_⟩
  refine ⟨_, rfl, _, _, rfl, rfl, ⟨by decide, by decide, by decide⟩, _, _, rfl, rfl, _, rfl, ite3 (fun e => ?_) (fun e => ?_)⟩
  · have e : 1000000000000000000 ≤ c := e
    have p1 := inside e
    have ix : ixN (cells.map V.int).length pl = some pl.toNat := by
      unfold ixN
      rw [if_pos q0, if_pos (by omega)]
    refine ⟨_, rfl, _, rfl, _, _, rfl, rfl, div_draw m0 m1, _, rfl, _, _, _, _, rfl, rfl, SqL.of hp2, atI_nat (j := 0) rfl, _, rfl, _, _, _, _, rfl, rfl, hl2, ix, ?_⟩
    refine ⟨_, rfl, .inl ⟨_, rfl, _, rfl, _, _, rfl, rfl, (by omega), ?_⟩⟩
    have fm : c.fmod m = c % m := fmod_pos m0
    refine k _ _ (by rw [fm]; exact Int.emod_nonneg _ (by omega)) (by rw [fm]; exact Int.emod_lt_of_pos _ m0) (f2.trans fun b o _ h2 h => by rw [upd_ne h2]; exact h) ⟨by rw [upd_ne npl]; exact hp2, cells.set pl.toNat (c / m), by rw [upd_same, List.map_set], fun y hy => ?_, by rw [List.length_set]; exact h63⟩
    rcases List.mem_or_eq_of_mem_set hy with q | q
    · exact hc y q
    · rw [q]; exact Int.ediv_nonneg c0 (by omega)
  · refine ⟨_, rfl, .inl ⟨_, rfl, _, _, rfl, rfl, (show (2147483587 : Int) ≠ 0 by decide), _, rfl, _, _, _, _, rfl, rfl, SqL.of hp2, atI_nat (j := 1) rfl, _, _, rfl, rfl, .inl ⟨by decide, by decide⟩, _, _, rfl, rfl, _, _, rfl, rfl, ?_⟩⟩
    have fm : c.fmod 2147483587 = c % 2147483587 := fmod_pos (by decide)
    have h0 := Int.emod_nonneg c (show (2147483587 : Int) ≠ 0 by decide)
    have h1 := Int.emod_lt_of_pos c (show (0 : Int) < 2147483587 by decide)
    refine ⟨_, _, rfl, rfl, ⟨by decide, by decide, by rw [fm]; omega⟩, ?_⟩
    refine ⟨_, rfl, .inl ⟨_, rfl, _, _, rfl, rfl, (show (2147483647 : Int) ≠ 0 by decide), .inl ⟨_, rfl, _, rfl, _, _, rfl, rfl, (by omega), ?_⟩⟩⟩
    refine k _ _ ?_ ?_ f2 ⟨hp2, cells, hl2, hc, h63⟩
    · rw [fmod_pos m0]; exact Int.emod_nonneg _ (by omega)
    · rw [fmod_pos m0]; exact Int.emod_lt_of_pos _ m0
abbrev s_l_one : Stmt := topS 11
abbrev N_l_one : List Str := ["_law_deck_here", "_law_items"]
theorem sc_l_one : FnScope N_l_one ["_law_deck_here", "_law_items"] (defScope s_l_one) := ⟨rfl, rfl, rfl, by decide +kernel, rfl, by decide +kernel, by decide +kernel⟩
theorem ok_l_one (T : Txt mg) (D : Df K mg "_law_one" s_l_one ["_law_deck_here", "_law_items"]) (C_l_draw : Cal P w K mg base "_law_draw" ["_law_deck_here", "_law_many"] 1 (sp_l_draw K)) : Cal P w K mg base "_law_one" ["_law_deck_here", "_law_items"] 2 (sp_l_one K) := by
  obtain ⟨f_l_draw, fd_l_draw, G_l_draw, m_l_draw, k_l_draw, b_l_draw⟩ := C_l_draw
  refine D.cal sc_l_one (fun vs H Q E h => ?_) (fun f cdv A outer s H vs Q E hr h => ?_)
  · obtain ⟨p, l, b, n, xs, rfl, _⟩ := h
    rfl
  obtain ⟨p, l, b, n, xs, rfl, D, n0, n1, hb, bp, bl, x0, x1, k⟩ := h
  refine ⟨_, (pss_one (ps_ret (pe_ix ix_list (pv 1) (pe_call G_l_draw (hr.mono (by decide)) (by rfl) m_l_draw k_l_draw b_l_draw .nil pass0 (pa_cons (pv 0) (pa_cons (pe_callB call_len_seq (by rfl) T.n_len (by decide +kernel) (pa_cons (pv 1) pa_nil)) pa_nil))) (fun _ _ => rfl)))), ?_⟩
  refine ⟨_, rfl, _, rfl, _, rfl, _, _, rfl, .inl (SqL.of hb), p, l, n, _, rfl, D, n0, n1, (by omega), (by omega), fun r H' r0 r1 f D' => ?_⟩
  have q : r.toNat < xs.length := by omega
  refine ⟨_, _, _, _, rfl, rfl, SqL.of (f b _ bp bl hb), at_of (j := r.toNat) (by omega) (List.getElem?_eq_getElem q), ?_⟩
  exact k _ H' (List.getElem_mem q) f D'
end
end Sm

set_option Elab.async false
set_option linter.all false
set_option maxRecDepth 100000
set_option maxHeartbeats 8000000
namespace Sm
open PySem PySem.Spec PyProof.Rows L2
open C8 (pss_cut tCut)
def ofNs : List Int → Of
  | [a, x, b, y] => ⟨a.toNat, x, b.toNat, y⟩
  | _ => ⟨0, 0, 0, 0⟩
theorem ofNs_ns (o : Of) : ofNs o.ns = o := by
  cases o
  rfl
theorem offs_of {H : Hp} (L' : List (Addr × List Int)) (h : ∀ p ∈ L', ∃ o : Of, p.2 = o.ns ∧ OffAt H p.1 o) : OffsAt H (L'.map (·.1)) (L'.map fun p => ofNs p.2) := by
  refine ⟨by rw [List.length_map, List.length_map], fun i q e => ?_⟩
  rw [List.getElem?_map] at e
  cases z : L'[i]? with
  | none => rw [z] at e; cases e
  | some p =>
    rw [z] at e
    have e : p.1 = q := Option.some.inj e
    obtain ⟨o, h1, h2⟩ := h p (List.mem_of_getElem? z)
    refine ⟨o, ?_, by rw [← e]; exact h2⟩
    rw [List.getElem?_map, z]
    show some (ofNs p.2) = some o
    rw [h1, ofNs_ns]
theorem bd_ns {k : Nat} {o : Of} (h : OfOk k o) (k4 : k ≤ 4) : o.ns.length = 4 ∧ TS.Bd 100 o.ns := by
  refine ⟨rfl, fun m hm => ?_⟩
  have h1 := h.a
  have h2 := h.b
  have h3 := h.x0
  have h4 := h.x1
  have h5 := h.y0
  have h6 := h.y1
  simp only [Of.ns, List.mem_cons, List.not_mem_nil, or_false] at hm
  rcases hm with rfl | rfl | rfl | rfl <;> omega
/-- tuple(sorted(set(..))) of offers, told for the list that stands at U -/
theorem set_board {K : PySem.W.Frag} {P : Program} {w : World} {H : Hp} {U : Addr} {ks : List (Addr × Of)} {k : Nat} (hU : H U = some (.lst (ks.map fun e => V.ref e.1))) (hk : ∀ e ∈ ks, OffAt H e.1 e.2 ∧ OfOk k e.2) (k4 : k ≤ 4) (h64 : ks.length < 64)
    {Q : VK} (q : ∀ H' t (qs : List Addr) (L : List Of), Same H H' → H' t = some (.tup (qs.map V.ref)) → OffsAt H' qs L → (∀ o ∈ L, OfOk k o) → L.length < 64 → Q (.ref t) H') :
    rSetOfT K P w [.ref U] H fun x H1 => rSortedT K P w [x] H1 fun y H2 => ∃ (q : Addr) (xs : List V), [y] = [V.ref q] ∧ ((SqL K H2 q xs ∧ ∀ t, H2 t = none → Q (.ref t) (upd H2 t (.tup xs))) ∨ SqT K H2 q xs ∧ Q (.ref q) H2) := by
  have lm : (ks.map fun e => (e.1, e.2.ns)).map (fun p : Addr × List Int => V.ref p.1) = ks.map fun e => V.ref e.1 := by
    rw [List.map_map]
    rfl
  refine ⟨U, ks.map fun e => (e.1, e.2.ns), rfl, ?_, fun p hp => ?_, by rw [List.length_map]; exact h64, fun a L na hL _ => ?_⟩
  · rw [lm]
    exact SqL.of hU
  · obtain ⟨e, he, rfl⟩ := List.mem_map.mp hp
    exact SqT.of (hk e he).1
  have sa := same_upd (o := SetTO P w a L) na
  have own : ∀ p ∈ L, ∃ e ∈ ks, p = (e.1, e.2.ns) := fun p hp => by
    obtain ⟨e, he, h⟩ := List.mem_map.mp (hL p hp)
    exact ⟨e, he, h.symm⟩
  refine ⟨a, L, 4, 100, rfl, upd_same, fun p hp => ?_, by decide, fun p hp => ?_, fun L' r pm nd l64 pw nr => ?_⟩
  · obtain ⟨e, he, rfl⟩ := own p hp
    exact SqT.of (sa _ _ (hk e he).1)
  · obtain ⟨e, he, rfl⟩ := own p hp
    exact bd_ns (hk e he).2 k4
  have sr := same_upd (o := .lst (L'.map fun q => V.ref q.1)) nr
  refine ⟨r, _, rfl, .inl ⟨SqL.of upd_same, fun t nt => ?_⟩⟩
  have st := same_upd (o := .tup (L'.map fun q => V.ref q.1)) nt
  have s := sa.trans (sr.trans st)
  refine q _ t (L'.map (·.1)) (L'.map fun p => ofNs p.2) s (by rw [upd_same, List.map_map]; rfl) (offs_of L' fun p hp => ?_) (fun o ho => ?_) (by rw [List.length_map]; exact l64)
  · obtain ⟨e, he, rfl⟩ := own p (pm.mem_iff.mp hp)
    exact ⟨e.2, rfl, s _ _ (hk e he).1⟩
  · obtain ⟨p, hp, rfl⟩ := List.mem_map.mp ho
    obtain ⟨e, he, rfl⟩ := own p (pm.mem_iff.mp hp)
    show OfOk k (ofNs e.2.ns)
    rw [ofNs_ns]
    exact (hk e he).2
/-- the offers found so far -/
def BW (p l U : Addr) (k : Nat) (upto top n : Int) (H : Hp) (i : Nat) (σ : L2.St) (H' : Hp) : Prop := ∃ (n' : Int) (ks : List (Addr × Of)) (v5 v6 v7 v8 : Option V), σ = [some (.ref p), some (.int (k : Int)), some (.int upto), some (.int top), some (.ref U), v5, v6, v7, v8] ∧ Deck H' p l n' ∧ n ≤ n' ∧ n' ≤ n + 1 + 4 * (i : Int) ∧ Fr p l H H' ∧
      H' U = some (.lst (ks.map fun e => V.ref e.1)) ∧ ks.length = i ∧ ∀ e ∈ ks, OffAt H' e.1 e.2 ∧ OfOk k e.2
theorem BW.more {p l U t : Addr} {k i : Nat} {upto top n n' : Int} {H H7 : Hp} {ks : List (Addr × Of)} {o : Of} {v5 v6 v7 v8 : Option V} (hn : ∀ b o, H b = some o → b ≠ U) (Up : U ≠ p) (Ul : U ≠ l) (D : Deck H7 p l n') (n0 : n ≤ n') (n1 : n' ≤ n + 5 + 4 * (i : Int)) (f : Fr p l H H7)
    (hU : H7 U = some (.lst (ks.map fun e => V.ref e.1))) (kl : ks.length = i) (old : ∀ e ∈ ks, OffAt H7 e.1 e.2 ∧ OfOk k e.2) (ht : OffAt H7 t o) (ho : OfOk k o) :
    BW p l U k upto top n H (i + 1) [some (.ref p), some (.int (k : Int)), some (.int upto), some (.int top), some (.ref U), v5, v6, v7, v8] (upd H7 U (.lst ((ks.map fun e => V.ref e.1) ++ [.ref t]))) := by
  have neU : ∀ b xs, H7 b = some (.tup xs) → b ≠ U := fun b xs hb => ne_of hb hU (by intro q; cases q)
  refine ⟨n', ks ++ [(t, o)], v5, v6, v7, v8, rfl, ⟨by rw [upd_ne Up.symm]; exact D.hp, ?_⟩, n0, by omega, ?_, ?_, ?_, ?_⟩
  · obtain ⟨cells, q1, q2⟩ := D.hl
    exact ⟨cells, by rw [upd_ne Ul.symm]; exact q1, q2⟩
  · intro b o h1 h2 hb
    rw [upd_ne (hn b o hb)]
    exact f b o h1 h2 hb
  · rw [upd_same, List.map_append]
    rfl
  · rw [List.length_append, List.length_singleton, kl]
  · intro e he
    rcases List.mem_append.mp he with he | he
    · refine ⟨?_, (old e he).2⟩
      unfold OffAt
      rw [upd_ne (neU _ _ (old e he).1)]
      exact (old e he).1
    · rw [List.mem_singleton.mp he]
      refine ⟨?_, ho⟩
      unfold OffAt
      rw [upd_ne (neU _ _ ht)]
      exact ht
section
variable {P : Program} {w : World} {K : PySem.W.Frag} {mg : Str → Option Value} {base : Heap}
abbrev s_l_board : Stmt := topS 12
abbrev N_l_board : List Str := ["_law_deck_here", "_law_kinds", "_law_upto", "_law_top", "_law_found", "_law_k", "_law_a", "_law_x", "_law_y"]
theorem sc_l_board : FnScope N_l_board ["_law_deck_here", "_law_kinds", "_law_upto", "_law_top"] (defScope s_l_board) := ⟨rfl, rfl, rfl, by decide +kernel, rfl, by decide +kernel, by decide +kernel⟩
theorem ok_l_board (T : Txt mg) (D : Df K mg "_law_board" s_l_board ["_law_deck_here", "_law_kinds", "_law_upto", "_law_top"]) (C_l_draw : Cal P w K mg base "_law_draw" ["_law_deck_here", "_law_many"] 1 (sp_l_draw K)) : Cal P w K mg base "_law_board" ["_law_deck_here", "_law_kinds", "_law_upto", "_law_top"] 2 (sp_l_board K) := by
  obtain ⟨f_l_draw, fd_l_draw, G_l_draw, m_l_draw, k_l_draw, b_l_draw⟩ := C_l_draw
  refine D.cal sc_l_board (fun vs H Q E h => ?_) (fun f cdv A outer s H vs Q E hr h => ?_)
  · obtain ⟨p, l, n, k, upto, top, rfl, _⟩ := h
    rfl
  obtain ⟨p, l, n, k, upto, top, rfl, D0, n0, n1, k1, k4, u0, u1, t0, t1, kk⟩ := h
  refine ⟨_, (pss_cons (ps_set (i := 4) sc_l_board.nd rfl (Or.inl rfl) (pe_lst pa_nil))
    (pss_cons (ps_for PassesOwn.never rfl (pi_range1 (by rfl) T.n_range (pa_cons (pe_op op_mul (pe_call G_l_draw (hr.mono (by decide)) (by rfl) m_l_draw k_l_draw b_l_draw .nil pass0 (pa_cons (pv 0) (pa_cons (pe_op op_add (pv 2) pe_int) pa_nil))) (pe_callTy call_int1 (by rfl) T.n_int (by decide +kernel) (pa_cons (pe_cmpR op_gt (pv 1) pe_int (nomark _)) pa_nil))) pa_nil)) (pg_name (i := 5) sc_l_board.nd rfl (Or.inl rfl))
      (pss_cons (ps_par3 (i := 6) (j := 7) (l := 8) (by rfl) sc_l_board.nd rfl rfl rfl (by decide) (by decide) (by decide) rfl rfl rfl (pa_cons (pe_call G_l_draw (hr.mono (by decide)) (by rfl) m_l_draw k_l_draw b_l_draw .nil pass0 (pa_cons (pv 0) (pa_cons (pv 1) pa_nil))) (pa_cons (pe_op op_add pe_int (pe_call G_l_draw (hr.mono (by decide)) (by rfl) m_l_draw k_l_draw b_l_draw .nil pass0 (pa_cons (pv 0) (pa_cons (pv 3) pa_nil)))) (pa_cons (pe_call G_l_draw (hr.mono (by decide)) (by rfl) m_l_draw k_l_draw b_l_draw .nil pass0 (pa_cons (pv 0) (pa_cons (pe_op op_add (pv 3) pe_int) pa_nil))) pa_nil))) (by rfl))
    (pss_one (ps_expr (pe_bm PySem.F.plainAttrs_list PySem.F.slot_list_append PySem.F.type_list_append mt_append (pv 4) (pa_cons (pe_tup (pa_cons (pv 6) (pa_cons (pv 7) (pa_cons (pe_op op_modN (pe_callTy call_int1 (by rfl) T.n_int (by decide +kernel) (pa_cons (pe_op op_add (pe_op op_add (pv 6) pe_int) (pe_call G_l_draw (hr.mono (by decide)) (by rfl) m_l_draw k_l_draw b_l_draw .nil pass0 (pa_cons (pv 0) (pa_cons (pe_op op_sub (pv 1) pe_int) pa_nil)))) pa_nil)) (pv 1)) (pa_cons (pv 8) pa_nil))))) pa_nil))))))
    (pss_one (ps_ret (pe_tup (pa_cons (pv 1) (pa_cons (pe_callTy call_tuple_of (by rfl) T.n_tuple (by decide +kernel) (pa_cons (pe_callB (cr_sortedT rfl) (by rfl) T.n_sorted (by decide +kernel) (pa_cons (pe_callTy (cr_setOfT rfl hr.units) (by rfl) T.n_set (by decide +kernel) (pa_cons (pv 4) pa_nil)) pa_nil)) pa_nil)) pa_nil))))))), ?_⟩
  refine ⟨(by show 0 ≤ sizeLine; decide), fun U nU => ?_⟩
  obtain ⟨Up, Ul⟩ := D0.lne nU
  have sU := same_upd (o := .lst []) nU
  refine ⟨_, rfl, _, rfl, _, _, rfl, rfl, p, l, n, _, rfl, D0.same sU, n0, by omega, by omega, by omega, fun r H1 r0 r1 f1 D1 => ?_⟩
  refine ⟨_, rfl, _, _, rfl, rfl, .inr ⟨_, rfl, _, _, rfl, rfl, .inl ⟨by omega, by omega⟩, ?_⟩⟩
  obtain ⟨N, hN, hN2, hN1⟩ : ∃ N : Nat, r * (if decide ((k : Int) > 1) = true then 1 else 0) = (N : Int) ∧ (0 < N → 2 ≤ k) ∧ N ≤ 40 := by
    by_cases q : (k : Int) > 1
    · rw [decide_eq_true q, if_pos rfl, Int.mul_one]
      exact ⟨r.toNat, by omega, by omega, by omega⟩
    · rw [decide_eq_false q, if_neg Bool.false_ne_true, Int.mul_zero]
      exact ⟨0, rfl, by omega, by omega⟩
  refine ⟨r * (if decide ((k : Int) > 1) = true then 1 else 0), rfl, (by rw [hN]; omega), (by rw [hN]; omega), ?_⟩
  have hn : ∀ b o, H b = some o → b ≠ U := fun b o hb => ne_of_none hb nU
  refine for_range (lo := 0) (n := _) (BW p l U k upto top n H)
    ⟨n + 1, [], none, none, none, none, rfl, D1, by omega, by omega, (Same.fr sU).trans f1, f1 U _ Up Ul upd_same, rfl, fun e he => nomatch he⟩ ?_ ?_
  · rintro i σ H2 hi ⟨n', ks, v5, v6, v7, v8, rfl, D2, m0, m1, f2, hU, kl, hk⟩
    have hi : i < (r * (if decide ((k : Int) > 1) = true then 1 else 0)).toNat := hi
    rw [hN] at hi
    have hi : i < N := by omega
    have k2 := hN2 (by omega)
    refine ⟨_, rfl, _, rfl, p, l, n', _, rfl, D2, by omega, by omega, by omega, by omega, fun ra H3 a0 a1 f3 D3 => ?_⟩
    refine ⟨_, rfl, _, rfl, p, l, n' + 1, _, rfl, D3, by omega, by omega, by omega, by omega, fun rx H4 x0 x1 f4 D4 => ?_⟩
    refine ⟨_, _, rfl, rfl, _, rfl, _, rfl, _, _, rfl, rfl, p, l, n' + 1 + 1, _, rfl, D4, by omega, by omega, by omega, by omega, fun ry H5 y0 y1 f5 D5 => ?_⟩
    refine ⟨_, _, _, rfl, ?_⟩
    have hU5 := f5 U _ Up Ul (f4 U _ Up Ul (f3 U _ Up Ul hU))
    refine ⟨_, rfl, .inl ⟨rfl, _, SqL.of hU5⟩, ?_⟩
    refine ⟨_, rfl, _, rfl, _, rfl, _, _, rfl, rfl, _, rfl, _, rfl, _, _, rfl, rfl, p, l, n' + 1 + 1 + 1, _, rfl, D5, by omega, by omega, by omega, by omega, fun rb H6 b0 b1 f6 D6 => ?_⟩
    refine ⟨_, _, rfl, rfl, .inl ⟨_, rfl, _, rfl, _, _, rfl, rfl, (show (k : Int) ≠ 0 by omega), _, rfl, (by show 4 ≤ sizeLine; decide), fun t nt => ?_⟩⟩
    have fm : (ra + 1 + rb).fmod (k : Int) = (ra + 1 + rb) % (k : Int) := fmod_pos (by omega)
    have c0 : 0 ≤ (ra + 1 + rb).fmod (k : Int) := by rw [fm]; exact Int.emod_nonneg _ (by omega)
    have c1 : (ra + 1 + rb).fmod (k : Int) < (k : Int) := by rw [fm]; exact Int.emod_lt_of_pos _ (by omega)
    have cn : (ra + 1 + rb).fmod (k : Int) ≠ ra := by
      rw [fm]
      obtain rfl | rfl | rfl : k = 2 ∨ k = 3 ∨ k = 4 := by omega
      · show (ra + 1 + rb) % 2 ≠ ra
        have b1 : rb < 2 - 1 := b1
        have a1 : ra < 2 := a1
        omega
      · show (ra + 1 + rb) % 3 ≠ ra
        have b1 : rb < 3 - 1 := b1
        have a1 : ra < 3 := a1
        omega
      · show (ra + 1 + rb) % 4 ≠ ra
        have b1 : rb < 4 - 1 := b1
        have a1 : ra < 4 := a1
        omega
    have hU6 := f6 U _ Up Ul hU5
    have ft := f3.trans (f4.trans (f5.trans f6))
    have st := same_upd (o := .tup [.int ra, .int (1 + rx), .int ((ra + 1 + rb).fmod (k : Int)), .int ry]) nt
    refine ⟨U, _, _, rfl, rfl, st _ _ hU6, ?_, ?_⟩
    · rw [List.length_map, kl]
      exact Nat.lt_of_le_of_lt (show i ≤ 40 by omega) (by decide)
    · refine BW.more (n' := n' + 1 + 1 + 1 + 1) (o := ⟨ra.toNat, 1 + rx, ((ra + 1 + rb).fmod (k : Int)).toNat, ry⟩) hn Up Ul (D6.same st) (by omega) (by omega) (f2.trans (ft.trans (Same.fr st))) (st _ _ hU6) kl (fun e he => ⟨st _ _ (ft.tup D2 (hk e he).1), (hk e he).2⟩) ?_ ?_
      · show upd H6 t _ t = some (.tup [.int (ra.toNat : Int), .int (1 + rx), .int (((ra + 1 + rb).fmod (k : Int)).toNat : Int), .int ry])
        rw [Int.toNat_of_nonneg a0, Int.toNat_of_nonneg c0]
        exact upd_same
      · exact ⟨by show ra.toNat < k; omega, by show Int.toNat _ < k; omega, by show ra.toNat ≠ Int.toNat _; omega, by show 1 ≤ 1 + rx; omega, by show 1 + rx ≤ 30; omega, y0, by show ry ≤ 30; omega⟩
  · rintro σ H2 ⟨n', ks, v5, v6, v7, v8, rfl, D2, m0, m1, f2, hU, kl, hk⟩
    rw [hN] at kl m1
    refine ⟨_, rfl, _, rfl, ?_⟩
    refine set_board (K := K) (P := P) (w := w) (Q := fun v H1 => [V.int (k : Int), v].length ≤ sizeLine ∧ ∀ p, H1 p = none → Q (.ref p) (upd H1 p (.tup [.int (k : Int), v]))) hU hk k4 (by omega) fun H3 t qs L s3 ht hL ok l64 => ⟨(by show 2 ≤ sizeLine; decide), fun d nd => ?_⟩
    have sd := same_upd (o := .tup [.int (k : Int), .ref t]) nd
    exact kk _ d L n' (f2.trans (Same.fr (s3.trans sd))) ((D2.same s3).same sd) (by omega) (by omega) ⟨t, qs, upd_same, sd _ _ ht, hL.same sd⟩ ok l64
end
end Sm

set_option Elab.async false
set_option linter.all false
set_option maxRecDepth 100000
set_option maxHeartbeats 8000000
namespace Sm
open PySem PySem.Spec PyProof.Rows L2
open C8 (pss_cut tCut)
theorem ixN_nat {n a : Nat} (h : a < n) : ixN n (a : Int) = some a := by
  unfold ixN
  rw [if_pos (by omega), if_pos (by omega)]
  rfl
theorem vget {k i : Nat} {f : Nat → Int} (h : i < k) : ((vec k f).map V.int)[i]? = some (.int (f i)) := by
  rw [List.getElem?_map, vec_get h]
  rfl
theorem zeros (k : Nat) : (List.replicate ((k : Nat) : Int).toNat [V.int 0]).flatten = (vec k fun _ => 0).map V.int := by
  rw [Int.toNat_natCast, List.flatten_replicate_singleton, ← vec_rep, List.map_replicate]
theorem vset {k i : Nat} {f g : Nat → Int} {v : Int} (h : g i = v) (hg : ∀ j, j ≠ i → g j = f j) : ((vec k f).map V.int).set i (V.int v) = (vec k g).map V.int := by
  rw [← vec_set (k := k) h hg, List.map_set]
/-! ### ways in the heap -/
theorem OffsAt.get {H : Hp} {qs : List Addr} {L : List Of} {i : Nat} (h : OffsAt H qs L) (hi : i < L.length) : ∃ q, (qs.map V.ref)[i]? = some (.ref q) ∧ OffAt H q (ofI L i) := by
  have hl := h.1
  obtain ⟨o, h1, h2⟩ := h.2 i qs[i] (List.getElem?_eq_getElem (by omega))
  refine ⟨qs[i], by rw [List.getElem?_map, List.getElem?_eq_getElem (by omega)]; rfl, ?_⟩
  rw [ofI_at h1]
  exact h2
def RunAt (H : Hp) (q : Addr) (r : Nat × Int) : Prop := H q = some (.tup [.int (r.1 : Int), .int r.2])
def RunsAt (H : Hp) (qs : List Addr) (rs : List (Nat × Int)) : Prop := qs.length = rs.length ∧ ∀ (i : Nat) (q : Addr), qs[i]? = some q → ∃ r, rs[i]? = some r ∧ RunAt H q r
def StAt (H : Hp) (q : Addr) : St → Prop
  | .run i m => RunAt H q (i, m)
  | .rnd rs m => ∃ (t : Addr) (qs : List Addr), H q = some (.tup [.ref t, .int m]) ∧ H t = some (.tup (qs.map V.ref)) ∧ RunsAt H qs rs
def StsAt (H : Hp) (qs : List Addr) (ss : List St) : Prop := qs.length = ss.length ∧ ∀ (i : Nat) (q : Addr), qs[i]? = some q → ∃ s, ss[i]? = some s ∧ StAt H q s
def WayAt (H : Hp) (w : Addr) (ss : List St) : Prop := ∃ qs : List Addr, H w = some (.tup (qs.map V.ref)) ∧ StsAt H qs ss
theorem RunsAt.mono {H H' : Hp} {qs : List Addr} {rs : List (Nat × Int)} (h : RunsAt H qs rs) (s : ∀ b xs, H b = some (.tup xs) → H' b = some (.tup xs)) : RunsAt H' qs rs :=
  ⟨h.1, fun i q e => by obtain ⟨r, h1, h2⟩ := h.2 i q e; exact ⟨r, h1, s _ _ h2⟩⟩
theorem StAt.mono {H H' : Hp} {q : Addr} {s : St} (h : StAt H q s) (k : ∀ b xs, H b = some (.tup xs) → H' b = some (.tup xs)) : StAt H' q s := by
  match s, h with
  | .run i m, h => exact k _ _ h
  | .rnd rs m, ⟨t, qs, h1, h2, h3⟩ => exact ⟨t, qs, k _ _ h1, k _ _ h2, h3.mono k⟩
theorem StsAt.mono {H H' : Hp} {qs : List Addr} {ss : List St} (h : StsAt H qs ss) (k : ∀ b xs, H b = some (.tup xs) → H' b = some (.tup xs)) : StsAt H' qs ss :=
  ⟨h.1, fun i q e => by obtain ⟨r, h1, h2⟩ := h.2 i q e; exact ⟨r, h1, h2.mono k⟩⟩
theorem WayAt.mono {H H' : Hp} {w : Addr} {ss : List St} (h : WayAt H w ss) (k : ∀ b xs, H b = some (.tup xs) → H' b = some (.tup xs)) : WayAt H' w ss := by
  obtain ⟨qs, h1, h2⟩ := h
  exact ⟨qs, k _ _ h1, h2.mono k⟩
theorem WayAt.same {H H' : Hp} {w : Addr} {ss : List St} (h : WayAt H w ss) (s : Same H H') : WayAt H' w ss := h.mono fun b xs e => s _ _ e
theorem WayAt.fr {H H' : Hp} {w a l : Addr} {n : Int} {ss : List St} (h : WayAt H w ss) (f : Fr a l H H') (D : Deck H a l n) : WayAt H' w ss := h.mono fun b xs e => f.tup D e
theorem RunsAt.way {H : Hp} {qs : List Addr} {rs : List (Nat × Int)} (h : RunsAt H qs rs) : StsAt H qs (asWay rs) := by
  refine ⟨by unfold asWay; rw [List.length_map]; exact h.1, fun i q e => ?_⟩
  obtain ⟨r, h1, h2⟩ := h.2 i q e
  refine ⟨.run r.1 r.2, ?_, h2⟩
  unfold asWay
  rw [List.getElem?_map, h1]
  rfl
/-- a need and a change -/
def TlAt (H : Hp) (p : Addr) (k : Nat) (t : Tl) : Prop := ∃ n c : Addr, H p = some (.tup [.ref n, .ref c]) ∧ H n = some (.tup ((vec k t.n).map V.int)) ∧ H c = some (.tup ((vec k t.c).map V.int))
def sp_run_tally (_ : PySem.W.Frag) : Sp := fun vs H Q _ => ∃ (d q : Addr) (k : Nat) (L : List Of) (r : Nat × Int), vs = [.ref d, .ref q] ∧ BoardAt H d k L ∧ (∀ o ∈ L, OfOk k o) ∧ k ≤ 4 ∧ RunAt H q r ∧ r.1 < L.length ∧
  ∀ H' p, Same H H' → TlAt H' p k (runT (ofI L r.1) r.2) → Q (.ref p) H'
/-- a step that a call can walk: depth 0, a run; depth 1, a round as well -/
def StD (L : List Of) : St → Prop
  | .run i _ => i < L.length
  | .rnd rs _ => (∀ r ∈ rs, r.1 < L.length) ∧ ∀ j, -(18446744073709551616) < (runsT L rs).c j ∧ (runsT L rs).c j < 18446744073709551616
def St0 : St → Prop
  | .run _ _ => True
  | .rnd _ _ => False
def sp_stepG (R : St → Prop) : Sp := fun vs H Q _ => ∃ (d q : Addr) (k : Nat) (L : List Of) (s : St), vs = [.ref d, .ref q] ∧ BoardAt H d k L ∧ (∀ o ∈ L, OfOk k o) ∧ k ≤ 4 ∧ StAt H q s ∧ StD L s ∧ R s ∧
  ∀ H' p, Same H H' → TlAt H' p k (stT L s) → Q (.ref p) H'
def sp_wayG (R : St → Prop) : Sp := fun vs H Q _ => ∃ (d w : Addr) (k : Nat) (L : List Of) (ss : List St), vs = [.ref d, .ref w] ∧ BoardAt H d k L ∧ (∀ o ∈ L, OfOk k o) ∧ k ≤ 4 ∧ WayAt H w ss ∧ (∀ s ∈ ss, StD L s ∧ R s) ∧
  ∀ H' p, Same H H' → TlAt H' p k (wayT L ss) → Q (.ref p) H'
def sp_step_tally (_ : PySem.W.Frag) : Sp := sp_stepG fun _ => True
def sp_way_tally (_ : PySem.W.Frag) : Sp := sp_wayG fun _ => True
def sp_need_of (_ : PySem.W.Frag) : Sp := fun vs H Q _ => ∃ (d w : Addr) (k : Nat) (L : List Of) (ss : List St), vs = [.ref d, .ref w] ∧ BoardAt H d k L ∧ (∀ o ∈ L, OfOk k o) ∧ k ≤ 4 ∧ WayAt H w ss ∧ (∀ s ∈ ss, StD L s) ∧
  ∀ H' p, Same H H' → H' p = some (.tup ((vec k (wayT L ss).n).map V.int)) → Q (.ref p) H'
def sp_change_of (_ : PySem.W.Frag) : Sp := fun vs H Q _ => ∃ (d w : Addr) (k : Nat) (L : List Of) (ss : List St), vs = [.ref d, .ref w] ∧ BoardAt H d k L ∧ (∀ o ∈ L, OfOk k o) ∧ k ≤ 4 ∧ WayAt H w ss ∧ (∀ s ∈ ss, StD L s) ∧
  ∀ H' p, Same H H' → H' p = some (.tup ((vec k (wayT L ss).c).map V.int)) → Q (.ref p) H'
def RnW (d q : Addr) (i : Nat) (m : Int) (o : Of) (k : Nat) (H : Hp) (N C : Addr) (f g : Nat → Int) (σ : L2.St) (H' : Hp) : Prop := σ = [some (.ref d), some (.ref q), some (.int (i : Int)), some (.int m), some (.int (o.a : Int)), some (.int o.x), some (.int (o.b : Int)), some (.int o.y), some (.ref N), some (.ref C)] ∧
  Same H H' ∧ H N = none ∧ H C = none ∧ N ≠ C ∧ H' N = some (.lst ((vec k f).map V.int)) ∧ H' C = some (.lst ((vec k g).map V.int))
section
variable {P : Program} {w : World} {K : PySem.W.Frag} {mg : Str → Option Value} {base : Heap}
abbrev s_run_tally : Stmt := topS 7
abbrev N_run_tally : List Str := ["board", "run", "index", "times", "a", "x", "b", "y", "need", "change"]
theorem sc_run_tally : FnScope N_run_tally ["board", "run"] (defScope s_run_tally) := ⟨rfl, rfl, rfl, by decide +kernel, rfl, by decide +kernel, by decide +kernel⟩
theorem ok_run_tally (T : Txt mg) (D : Df K mg "run_tally" s_run_tally ["board", "run"]) : Cal P w K mg base "run_tally" ["board", "run"] 1 (sp_run_tally K) := by
  refine D.cal sc_run_tally (fun vs H Q E h => ?_) (fun f cdv A outer s H vs Q E hr h => ?_)
  · obtain ⟨d, q, k, L, r, rfl, _⟩ := h
    rfl
  obtain ⟨d, q, k, L, ⟨i, m⟩, rfl, B, ok, k4, hq, il, kk⟩ := h
  obtain ⟨t, qs, hd, ht, hL⟩ := id B
  have il : i < L.length := il
  obtain ⟨b, hb, hO⟩ := hL.get il
  have oo := ok _ (ofI_mem il)
  have x0 := oo.x0
  have x1 := oo.x1
  have y0 := oo.y0
  have y1 := oo.y1
  generalize ofI L i = o at *
  have hO : H b = some (.tup [.int (o.a : Int), .int o.x, .int (o.b : Int), .int o.y]) := hO
  refine ⟨_, (pss_cons (ps_asg (pv 1) (pg_tup (by rfl) (pgs_cons (pg_name (i := 2) sc_run_tally.nd rfl (Or.inl rfl)) (pgs_cons (pg_name (i := 3) sc_run_tally.nd rfl (Or.inl rfl)) pgs_nil))))
    (pss_cons (ps_asg (pe_ix ix_tup (pe_ix ix_tup (pv 0) pe_int (fun _ _ => rfl)) (pv 2) (fun _ _ => rfl)) (pg_tup (by rfl) (pgs_cons (pg_name (i := 4) sc_run_tally.nd rfl (Or.inl rfl)) (pgs_cons (pg_name (i := 5) sc_run_tally.nd rfl (Or.inl rfl)) (pgs_cons (pg_name (i := 6) sc_run_tally.nd rfl (Or.inl rfl)) (pgs_cons (pg_name (i := 7) sc_run_tally.nd rfl (Or.inl rfl)) pgs_nil))))))
    (pss_cons (ps_set (i := 8) sc_run_tally.nd rfl (Or.inl rfl) (pe_op op_rep (pe_lst (pa_cons pe_int pa_nil)) (pe_ix ix_tup (pv 0) pe_int (fun _ _ => rfl))))
    (pss_cut (ps_set (i := 9) sc_run_tally.nd rfl (Or.inl rfl) (pe_op op_rep (pe_lst (pa_cons pe_int pa_nil)) (pe_ix ix_tup (pv 0) pe_int (fun _ _ => rfl))))
    (pss_cut (ps_asg (pe_op op_mul (pv 3) (pv 5)) (pg_sub (pv 8) (pv 4) set_list))
    (pss_cut (ps_asg (pe_op op_mul (pe_un un_neg (pv 3)) (pv 5)) (pg_sub (pv 9) (pv 4) set_list))
    (pss_cons (ps_asg (pe_op op_mul (pv 3) (pv 7)) (pg_sub (pv 9) (pv 6) set_list))
    (pss_one (ps_ret (pe_tup (pa_cons (pe_callTy call_tuple_of (by rfl) T.n_tuple (by decide +kernel) (pa_cons (pv 8) pa_nil)) (pa_cons (pe_callTy call_tuple_of (by rfl) T.n_tuple (by decide +kernel) (pa_cons (pv 9) pa_nil)) pa_nil)))))))))))), ?_⟩
  refine ⟨_, rfl, q, _, rfl, SqT.of hq, rfl, _, _, rfl, _, _, rfl, rfl, ?_⟩
  refine ⟨_, rfl, _, _, _, _, rfl, rfl, SqT.of hd, atI_nat (j := 1) rfl, _, rfl, _, _, _, _, rfl, rfl, SqT.of ht, atI_nat (j := i) hb, b, _, rfl, SqT.of hO, rfl, _, _, rfl, _, _, rfl, _, _, rfl, _, _, rfl, rfl, ?_⟩
  refine ⟨(by show 1 ≤ sizeLine; decide), fun z nz => ?_⟩
  have sz := same_upd (o := .lst [.int 0]) nz
  refine ⟨_, rfl, _, _, _, _, rfl, rfl, SqT.of (sz _ _ hd), atI_nat (j := 0) rfl, z, _, _, rfl, rfl, upd_same, by omega, by omega, (by show 1 * ((k : Nat) : Int).toNat ≤ sizeLine; exact Nat.le_trans (by omega : 1 * ((k : Nat) : Int).toNat ≤ 4) (by decide)), fun N nN => ?_⟩
  have sN := same_upd (o := .lst (List.replicate ((k : Nat) : Int).toNat [V.int 0]).flatten) nN
  have hN : upd (upd H z (.lst [.int 0])) N (.lst (List.replicate ((k : Nat) : Int).toNat [V.int 0]).flatten) N = some (.lst ((vec k fun _ => 0).map V.int)) := by rw [upd_same, zeros]
  have sa := sz.trans sN
  have freeN : H N = none := by
    cases e : H N with
    | none => rfl
    | some u =>
      rw [sz _ _ e] at nN
      cases nN
  generalize upd (upd H z (.lst [.int 0])) N (.lst (List.replicate ((k : Nat) : Int).toNat [V.int 0]).flatten) = H1 at hN sa ⊢
  clear sz sN nN nz
  refine ⟨fun σ H' => ∃ C, RnW d q i m o k H N C (fun _ => 0) (fun _ => 0) σ H', ?_, ?_⟩
  · refine ⟨(by show 1 ≤ sizeLine; decide), fun z nz => ?_⟩
    have sz := same_upd (o := .lst [.int 0]) nz
    refine ⟨_, rfl, _, _, _, _, rfl, rfl, SqT.of (sz _ _ (sa _ _ hd)), atI_nat (j := 0) rfl, z, _, _, rfl, rfl, upd_same, by omega, by omega, (by show 1 * ((k : Nat) : Int).toNat ≤ sizeLine; exact Nat.le_trans (by omega : 1 * ((k : Nat) : Int).toNat ≤ 4) (by decide)), fun C nC => ?_⟩
    have sC := same_upd (o := .lst (List.replicate ((k : Nat) : Int).toNat [V.int 0]).flatten) nC
    have freeC : H C = none := by
      cases e : H C with
      | none => rfl
      | some u =>
        rw [sz _ _ (sa _ _ e)] at nC
        cases nC
    refine ⟨C, rfl, sa.trans (sz.trans sC), freeN, freeC, ne_of_none (sz _ _ hN) nC, sC _ _ (sz _ _ hN), ?_⟩
    rw [upd_same, zeros]
  rintro σ H2 ⟨C, rfl, s2, nN, nC, NC, hN2, hC2⟩
  have al : o.a < k := oo.a
  have bl : o.b < k := oo.b
  have ln : ∀ f : Nat → Int, ((vec k f).map V.int).length = k := fun f => by rw [List.length_map, vec_len]
  refine ⟨RnW d q i m o k H N C (fun j => if j = o.a then m * o.x else 0) (fun _ => 0), ?_, ?_⟩
  · refine ⟨_, rfl, _, rfl, _, _, rfl, rfl, .inr ⟨by omega, by omega⟩, _, rfl, _, rfl, _, _, _, _, rfl, rfl, hN2, by rw [ln]; exact ixN_nat al, rfl, fun b' o' e' => ?_, nN, nC, NC, ?_, ?_⟩
    · rw [upd_ne (ne_of_none e' nN)]
      exact s2 _ _ e'
    · rw [upd_same, vset (g := fun j => if j = o.a then m * o.x else 0) (if_pos rfl) fun j hj => if_neg hj]
    · rw [upd_ne NC.symm]
      exact hC2
  rintro σ H3 ⟨rfl, s3, _, _, _, hN3, hC3⟩
  refine ⟨RnW d q i m o k H N C (fun j => if j = o.a then m * o.x else 0) (fun j => if j = o.a then -m * o.x else 0), ?_, ?_⟩
  · refine ⟨_, rfl, _, rfl, _, rfl, _, _, rfl, rfl, .inr ⟨by omega, by omega⟩, _, rfl, _, rfl, _, _, _, _, rfl, rfl, hC3, by rw [ln]; exact ixN_nat al, rfl, fun b' o' e' => ?_, nN, nC, NC, ?_, ?_⟩
    · rw [upd_ne (ne_of_none e' nC)]
      exact s3 _ _ e'
    · rw [upd_ne NC]
      exact hN3
    · rw [upd_same, vset (g := fun j => if j = o.a then -m * o.x else 0) (if_pos rfl) fun j hj => if_neg hj]
  rintro σ H4 ⟨rfl, s4, _, _, _, hN4, hC4⟩
  refine ⟨_, rfl, _, rfl, _, _, rfl, rfl, .inr ⟨by omega, by omega⟩, _, rfl, _, rfl, _, _, _, _, rfl, rfl, hC4, by rw [ln]; exact ixN_nat bl, ?_⟩
  have sT : ∀ b xs, H4 b = some (.tup xs) → upd H4 C (.lst (((vec k fun j => if j = o.a then -m * o.x else 0).map V.int).set o.b (V.int (m * o.y)))) b = some (.tup xs) := fun b xs e => by
    rw [upd_ne (ne_of e hC4 (by intro q; cases q))]
    exact e
  have hN5 : upd H4 C (.lst (((vec k fun j => if j = o.a then -m * o.x else 0).map V.int).set o.b (V.int (m * o.y)))) N = some (.lst ((vec k (runT o m).n).map V.int)) := by
    rw [upd_ne NC]
    exact hN4
  have hC5 : upd H4 C (.lst (((vec k fun j => if j = o.a then -m * o.x else 0).map V.int).set o.b (V.int (m * o.y)))) C = some (.lst ((vec k (runT o m).c).map V.int)) := by
    rw [upd_same, vset (g := (runT o m).c) (if_pos rfl) fun j hj => if_neg hj]
  have s5 : Same H (upd H4 C (.lst (((vec k fun j => if j = o.a then -m * o.x else 0).map V.int).set o.b (V.int (m * o.y))))) := fun b' o' e' => by
    rw [upd_ne (ne_of_none e' nC)]
    exact s4 _ _ e'
  refine ⟨_, rfl, _, _, rfl, .inl ⟨SqL.of hN5, fun n nn => ?_⟩⟩
  have sn := same_upd (o := .tup ((vec k (runT o m).n).map V.int)) nn
  refine ⟨_, rfl, _, _, rfl, .inl ⟨SqL.of (sn _ _ hC5), fun c nc => ?_⟩⟩
  have sc := same_upd (o := .tup ((vec k (runT o m).c).map V.int)) nc
  refine ⟨(by show 2 ≤ sizeLine; decide), fun p np => ?_⟩
  have sp := same_upd (o := .tup [.ref n, .ref c]) np
  exact kk _ p (s5.trans (sn.trans (sc.trans sp))) ⟨n, c, upd_same, sp _ _ (sc _ _ upd_same), sp _ _ upd_same⟩
end
end Sm

set_option Elab.async false
set_option linter.all false
set_option maxRecDepth 100000
set_option maxHeartbeats 8000000
namespace Sm
open PySem PySem.Spec PyProof.Rows L2
open C8 (pss_cut tCut)
theorem max_if (a b : Int) : (if b > a then b else a) = max a b := by
  split <;> omega
theorem ps_no {X : Cx} {st : Stmt} : PS X st (fun _ _ _ => False) := by
  constructor
  intros
  contradiction
section
variable {P : Program} {w : World} {K : PySem.W.Frag} {mg : Str → Option Value} {base : Heap}
abbrev s_way_tally : Stmt := topS 5
abbrev N_way_tally : List Str := ["board", "way", "kinds", "need", "change", "step", "asked", "changed", "kind"]
theorem sc_way_tally : FnScope N_way_tally ["board", "way"] (defScope s_way_tally) := ⟨rfl, rfl, rfl, by decide +kernel, rfl, by decide +kernel, by decide +kernel⟩
theorem ok_wayG {R : St → Prop} {lv : Nat} (T : Txt mg) (D : Df K mg "way_tally" s_way_tally ["board", "way"]) (C_step_tally : Cal P w K mg base "step_tally" ["board", "step"] lv (sp_stepG R)) : Cal P w K mg base "way_tally" ["board", "way"] (lv + 1) (sp_wayG R) := by
  obtain ⟨f_step_tally, fd_step_tally, G_step_tally, m_step_tally, k_step_tally, b_step_tally⟩ := C_step_tally
  refine D.cal sc_way_tally (fun vs H Q E h => ?_) (fun f cdv A outer s H vs Q E hr h => ?_)
  · obtain ⟨d, w, k, L, ss, rfl, _⟩ := h
    rfl
  obtain ⟨d, w, k, L, ss, rfl, B, ok, k4, W, hs, kk⟩ := h
  obtain ⟨t, qs, hd, ht, hL⟩ := id B
  obtain ⟨ws, hw, hS⟩ := id W
  refine ⟨_, (pss_cons (ps_set (i := 2) sc_way_tally.nd rfl (Or.inl rfl) (pe_callTy cr_range1 (by rfl) T.n_range (by decide +kernel) (pa_cons (pe_ix ix_tup (pv 0) pe_int (fun _ _ => rfl)) pa_nil)))
    (pss_cons (ps_set (i := 3) sc_way_tally.nd rfl (Or.inr rfl) (pe_op op_rep0 (pe_tup (pa_cons pe_int pa_nil)) (pe_ix ix_tup (pv 0) pe_int (fun _ _ => rfl))))
    (pss_cons (ps_set (i := 4) sc_way_tally.nd rfl (Or.inr rfl) (pv 3))
    (pss_cut (ps_for PassesOwn.never rfl (pi_tup (pv 1)) (pg_name (i := 5) sc_way_tally.nd rfl (Or.inl rfl))
      (pss_cons (ps_asg (pe_call G_step_tally (hr.mono (Nat.le_refl _)) (by rfl) m_step_tally k_step_tally b_step_tally .nil pass0 (pa_cons (pv 0) (pa_cons (pv 5) pa_nil))) (pg_tup (by rfl) (pgs_cons (pg_name (i := 6) sc_way_tally.nd rfl (Or.inr rfl)) (pgs_cons (pg_name (i := 7) sc_way_tally.nd rfl (Or.inr rfl)) pgs_nil))))
    (pss_cons (ps_set (i := 3) sc_way_tally.nd rfl (Or.inr rfl) (pe_callTy call_tuple_of (by rfl) T.n_tuple (by decide +kernel) (pa_cons (pe_lc (own := [("kind", 8)]) (g := gName 8) (tt := tYes) rfl sc_way_tally.nd (pi_rng (pv 2)) (blkOk_by (own := [("kind", 8)]) (N := N_way_tally) (sc := defScope s_way_tally) (by decide +kernel)) (fun _ _ _ _ _ => pg_name (i := 8) sc_way_tally.nd rfl (Or.inl rfl)) (fun _ _ _ _ _ => pts_nil) (fun _ _ _ _ _ => (pe_callB (call_max2 rfl) (by rfl) T.n_max (by decide +kernel) (pa_cons (pe_ix (show IxR _ (rIxT K) from ix_tup) (pv 3) (pv 8) (fun _ _ => rfl)) (pa_cons (pe_op op_sub (pe_ix (show IxR _ (rIxT K) from ix_tup) (pv 6) (pv 8) (fun _ _ => rfl)) (pe_ix (show IxR _ (rIxT K) from ix_tup) (pv 4) (pv 8) (fun _ _ => rfl))) pa_nil))))) pa_nil)))
    (pss_one (ps_set (i := 4) sc_way_tally.nd rfl (Or.inr rfl) (pe_callTy call_tuple_of (by rfl) T.n_tuple (by decide +kernel) (pa_cons (pe_lc (own := [("kind", 8)]) (g := gName 8) (tt := tYes) rfl sc_way_tally.nd (pi_rng (pv 2)) (blkOk_by (own := [("kind", 8)]) (N := N_way_tally) (sc := defScope s_way_tally) (by decide +kernel)) (fun _ _ _ _ _ => pg_name (i := 8) sc_way_tally.nd rfl (Or.inl rfl)) (fun _ _ _ _ _ => pts_nil) (fun _ _ _ _ _ => (pe_op op_add (pe_ix (show IxR _ (rIxT K) from ix_tup) (pv 4) (pv 8) (fun _ _ => rfl)) (pe_ix (show IxR _ (rIxT K) from ix_tup) (pv 7) (pv 8) (fun _ _ => rfl))))) pa_nil)))))))
    (pss_one (ps_ret (pe_tup (pa_cons (pv 3) (pa_cons (pv 4) pa_nil))))))))), ?_⟩
  refine ⟨_, rfl, _, _, _, _, rfl, rfl, SqT.of hd, atI_nat (j := 0) rfl, _, rfl, fun r nr => ?_⟩
  have s1 := same_upd (o := .rng 0 (k : Int)) nr
  refine ⟨(by show 1 ≤ sizeLine; decide), fun z nz => ?_⟩
  have s2 := same_upd (o := .tup [.int 0]) nz
  refine ⟨_, rfl, _, _, _, _, rfl, rfl, SqT.of (s2 _ _ (s1 _ _ hd)), atI_nat (j := 0) rfl, z, _, _, rfl, rfl, upd_same, (fun q => nomatch q), (by omega), (by omega), (by show 1 ≤ 1000; decide), fun H3 n0 s3 hn0 => ?_⟩
  rw [zeros] at hn0
  have sA := s1.trans (s2.trans s3)
  have hr3 : H3 r = some (.rng 0 (k : Int)) := s3 _ _ (s2 _ _ upd_same)
  clear s1 s2 s3 nr nz
  refine ⟨_, rfl, ?_⟩
  refine ⟨fun σ H' => ∃ (n c : Addr) (v5 v6 v7 : Option V), σ = [some (.ref d), some (.ref w), some (.ref r), some (.ref n), some (.ref c), v5, v6, v7, none] ∧ Same H3 H' ∧ H' n = some (.tup ((vec k (wayT L ss).n).map V.int)) ∧ H' c = some (.tup ((vec k (wayT L ss).c).map V.int)), ?_, ?_⟩
  · refine ⟨_, rfl, w, rfl, ⟨_, SqT.of (sA _ _ hw)⟩, ?_⟩
    refine for_tup (K := K) (a := w) (xs := ws.map V.ref) (fun j σ H' => ∃ (n c : Addr) (v5 v6 v7 : Option V), σ = [some (.ref d), some (.ref w), some (.ref r), some (.ref n), some (.ref c), v5, v6, v7, none] ∧ Same H3 H' ∧ H' n = some (.tup ((vec k (wayT L (ss.take j)).n).map V.int)) ∧ H' c = some (.tup ((vec k (wayT L (ss.take j)).c).map V.int)))
      ⟨n0, n0, none, none, none, rfl, Same.refl _, hn0, hn0⟩ (fun j σ H' _ h => by obtain ⟨_, _, _, _, _, _, s', _⟩ := h; exact SqT.of (s' _ _ (sA _ _ hw))) ?_ ?_
    · rintro j x σ H4 hx ⟨n, c, v5, v6, v7, rfl, s4, hn, hc⟩
      rw [List.getElem?_map] at hx
      cases e : ws[j]? with
      | none => rw [e] at hx; cases hx
      | some q =>
        rw [e] at hx
        have ex : x = .ref q := (Option.some.inj hx).symm
        subst ex
        obtain ⟨st, hst, hq⟩ := hS.2 j q e
        have sB := sA.trans s4
        have hh := hs st (List.mem_of_getElem? hst)
        refine ⟨_, rfl, _, rfl, d, q, k, L, st, rfl, B.same sB, ok, k4, hq.mono fun b xs e => sB _ _ e, hh.1, hh.2, fun H5 p s5 tl => ?_⟩
        obtain ⟨an, ac, hp, han, hac⟩ := tl
        refine ⟨p, _, rfl, SqT.of hp, rfl, _, _, rfl, _, _, rfl, rfl, ?_⟩
        have hn5 := s5 _ _ hn
        have hc5 := s5 _ _ hc
        have hr5 := s5 _ _ (s4 _ _ hr3)
        have cnt : ((k : Int) - 0).toNat = k := by omega
        -- the need
        refine ⟨_, rfl, r, _, _, rfl, hr5, fun U nU => ?_⟩
        have sU := same_upd (o := .lst []) nU
        rw [cnt]
        refine lc_range (lo := 0) (n := k) (fun i H' => Same H5 H' ∧ H' U = some (.lst ((vec i ((wayT L (ss.take j)).seq (stT L st)).n).map V.int))) ⟨sU, upd_same⟩ ?_ ?_
        · rintro i H6 hi ⟨s6, hU⟩
          refine ⟨rfl, ?_⟩
          unfold tYes
          refine iteT ?_
          refine ⟨_, rfl, _, rfl, _, _, _, _, rfl, rfl, SqT.of (s6 _ _ hn5), at_of (j := i) (Int.zero_add _) (vget hi), _, rfl, _, rfl, _, _, _, _, rfl, rfl, SqT.of (s6 _ _ han), at_of (j := i) (Int.zero_add _) (vget hi), _, rfl, _, rfl, _, _, _, _, rfl, rfl, SqT.of (s6 _ _ hc5), at_of (j := i) (Int.zero_add _) (vget hi), _, _, rfl, rfl, _, _, rfl, _, hU, ?_, fun b o e' => ?_, ?_⟩
          · rw [List.length_map, vec_len]
            exact Nat.lt_of_le_of_lt (show i ≤ 4 by omega) (by decide)
          · rw [upd_ne (ne_of_none e' nU)]
            exact s6 _ _ e'
          · rw [upd_same, vec_succ, List.map_append]
            show some (HO.lst (_ ++ [V.int (if _ > _ then _ else _)])) = some (HO.lst (_ ++ [V.int (max _ _)]))
            rw [max_if]
        rintro H6 ⟨s6, hU⟩
        refine ⟨_, _, rfl, .inl ⟨SqL.of hU, fun n' nn' => ?_⟩⟩
        have s7 := same_upd (o := .tup ((vec k ((wayT L (ss.take j)).seq (stT L st)).n).map V.int)) nn'
        have hn7 : upd H6 n' (.tup ((vec k ((wayT L (ss.take j)).seq (stT L st)).n).map V.int)) n' = some (.tup ((vec k ((wayT L (ss.take j)).seq (stT L st)).n).map V.int)) := upd_same
        have s57 := s6.trans s7
        generalize upd H6 n' (.tup ((vec k ((wayT L (ss.take j)).seq (stT L st)).n).map V.int)) = H7 at s57 hn7 ⊢
        clear s6 s7 hU sU nU nn'
        have hc7 := s57 _ _ hc5
        have hac7 := s57 _ _ hac
        -- the change
        refine ⟨_, rfl, r, _, _, rfl, s57 _ _ hr5, fun U nU => ?_⟩
        have sU := same_upd (o := .lst []) nU
        rw [cnt]
        refine lc_range (lo := 0) (n := k) (fun i H' => Same H7 H' ∧ H' U = some (.lst ((vec i ((wayT L (ss.take j)).seq (stT L st)).c).map V.int))) ⟨sU, upd_same⟩ ?_ ?_
        · rintro i H8 hi ⟨s8, hU⟩
          refine ⟨rfl, ?_⟩
          unfold tYes
          refine iteT ?_
          refine ⟨_, rfl, _, rfl, _, _, _, _, rfl, rfl, SqT.of (s8 _ _ hc7), at_of (j := i) (Int.zero_add _) (vget hi), _, rfl, _, rfl, _, _, _, _, rfl, rfl, SqT.of (s8 _ _ hac7), at_of (j := i) (Int.zero_add _) (vget hi), _, _, rfl, rfl, _, hU, ?_, fun b o e' => ?_, ?_⟩
          · rw [List.length_map, vec_len]
            exact Nat.lt_of_le_of_lt (show i ≤ 4 by omega) (by decide)
          · rw [upd_ne (ne_of_none e' nU)]
            exact s8 _ _ e'
          · rw [upd_same, vec_succ, List.map_append]
            rfl
        rintro H8 ⟨s8, hU⟩
        refine ⟨_, _, rfl, .inl ⟨SqL.of hU, fun c' nc' => ?_⟩⟩
        have s9 := same_upd (o := .tup ((vec k ((wayT L (ss.take j)).seq (stT L st)).c).map V.int)) nc'
        refine ⟨n', c', _, _, _, rfl, s4.trans (s5.trans (s57.trans (s8.trans s9))), ?_, ?_⟩
        · rw [wayT_take hst]
          exact s9 _ _ (s8 _ _ hn7)
        · rw [wayT_take hst]
          exact upd_same
    · rintro σ H4 ⟨n, c, v5, v6, v7, rfl, s4, hn, hc⟩
      rw [List.length_map, hS.1, List.take_length] at hn hc
      exact ⟨n, c, _, _, _, rfl, s4, hn, hc⟩
  · rintro σ H4 ⟨n, c, v5, v6, v7, rfl, s4, hn, hc⟩
    refine ⟨_, rfl, _, rfl, (by show 2 ≤ sizeLine; decide), fun p np => ?_⟩
    have sp := same_upd (o := .tup [.ref n, .ref c]) np
    exact kk _ p (sA.trans (s4.trans sp)) ⟨n, c, upd_same, sp _ _ hn, sp _ _ hc⟩
abbrev s_step_tally : Stmt := topS 6
abbrev N_step_tally : List Str := ["board", "step", "runs", "times", "need", "change", "most", "kind", "more"]
theorem sc_step_tally : FnScope N_step_tally ["board", "step"] (defScope s_step_tally) := ⟨rfl, rfl, rfl, by decide +kernel, rfl, by decide +kernel, by decide +kernel⟩
/-- a run alone -/
theorem ok_step0 (T : Txt mg) (D : Df K mg "step_tally" s_step_tally ["board", "step"]) (C_run_tally : Cal P w K mg base "run_tally" ["board", "run"] 1 (sp_run_tally K)) : Cal P w K mg base "step_tally" ["board", "step"] 2 (sp_stepG St0) := by
  obtain ⟨f_run_tally, fd_run_tally, G_run_tally, m_run_tally, k_run_tally, b_run_tally⟩ := C_run_tally
  refine D.cal sc_step_tally (fun vs H Q E h => ?_) (fun f cdv A outer s H vs Q E hr h => ?_)
  · obtain ⟨d, q, k, L, st, rfl, _⟩ := h
    rfl
  obtain ⟨d, q, k, L, st, rfl, B, ok, k4, hq, hd, h0, kk⟩ := h
  obtain ⟨i, m, rfl⟩ : ∃ i m, st = .run i m := by
    cases st with
    | run i m => exact ⟨i, m, rfl⟩
    | rnd rs m => exact h0.elim
  have hq : H q = some (.tup [.int (i : Int), .int m]) := hq
  refine ⟨_, (pss_cons (ps_if (pt_not (pt_val (pe_callB call_isi (by rfl) T.n_isinstance (by decide +kernel) (pa_cons (pe_ix ix_tup (pv 1) pe_int (fun _ _ => rfl)) (pa_cons (pe_bltn (v := .ty "tuple") (by rfl) T.n_tuple (by decide +kernel) rfl) pa_nil))))) (pss_one (ps_ret (pe_call G_run_tally (hr.mono (by decide)) (by rfl) m_run_tally k_run_tally b_run_tally .nil pass0 (pa_cons (pv 0) (pa_cons (pv 1) pa_nil))))) pss_nil)
    (pss_cons ps_no (pss_cons ps_no (pss_cons ps_no (pss_one ps_no))))), ?_⟩
  refine ⟨_, rfl, _, _, _, _, rfl, rfl, SqT.of hq, atI_nat (j := 0) rfl, _, _, _, _, _, rfl, .ty "tuple", .base (.int _), kit_ty (b := "tuple") (r := false) (by decide +kernel), _, rfl, iteT ?_⟩
  exact ⟨_, rfl, _, rfl, d, q, k, L, (i, m), rfl, B, ok, k4, hq, hd, kk⟩
/-- any step -/
theorem ok_step_tally (T : Txt mg) (D : Df K mg "step_tally" s_step_tally ["board", "step"]) (C_run_tally : Cal P w K mg base "run_tally" ["board", "run"] 1 (sp_run_tally K)) (C_way_tally : Cal P w K mg base "way_tally" ["board", "way"] 3 (sp_wayG St0)) : Cal P w K mg base "step_tally" ["board", "step"] 4 (sp_step_tally K) := by
  obtain ⟨f_run_tally, fd_run_tally, G_run_tally, m_run_tally, k_run_tally, b_run_tally⟩ := C_run_tally
  obtain ⟨f_way_tally, fd_way_tally, G_way_tally, m_way_tally, k_way_tally, b_way_tally⟩ := C_way_tally
  refine D.cal sc_step_tally (fun vs H Q E h => ?_) (fun f cdv A outer s H vs Q E hr h => ?_)
  · obtain ⟨d, q, k, L, st, rfl, _⟩ := h
    rfl
  obtain ⟨d, q, k, L, st, rfl, B, ok, k4, hq, hd, h0, kk⟩ := h
  refine ⟨_, (pss_cons (ps_if (pt_not (pt_val (pe_callB call_isi (by rfl) T.n_isinstance (by decide +kernel) (pa_cons (pe_ix ix_tup (pv 1) pe_int (fun _ _ => rfl)) (pa_cons (pe_bltn (v := .ty "tuple") (by rfl) T.n_tuple (by decide +kernel) rfl) pa_nil))))) (pss_one (ps_ret (pe_call G_run_tally (hr.mono (by decide)) (by rfl) m_run_tally k_run_tally b_run_tally .nil pass0 (pa_cons (pv 0) (pa_cons (pv 1) pa_nil))))) pss_nil)
    (pss_cons (ps_asg (pv 1) (pg_tup (by rfl) (pgs_cons (pg_name (i := 2) sc_step_tally.nd rfl (Or.inl rfl)) (pgs_cons (pg_name (i := 3) sc_step_tally.nd rfl (Or.inr rfl)) pgs_nil))))
    (pss_cons (ps_asg (pe_call G_way_tally (hr.mono (by decide)) (by rfl) m_way_tally k_way_tally b_way_tally .nil pass0 (pa_cons (pv 0) (pa_cons (pv 2) pa_nil))) (pg_tup (by rfl) (pgs_cons (pg_name (i := 4) sc_step_tally.nd rfl (Or.inr rfl)) (pgs_cons (pg_name (i := 5) sc_step_tally.nd rfl (Or.inr rfl)) pgs_nil))))
    (pss_cons (ps_setLc (i := 6) (own := [("kind", 7)]) (g := gName 7) (tt := tYes) rfl sc_step_tally.nd rfl rfl (sw_true rfl rfl rfl (by decide +kernel)) (pi_range1 (by rfl) T.n_range (pa_cons (pe_ix ix_tup (pv 0) pe_int (fun _ _ => rfl)) pa_nil)) (blkOk_by (own := [("kind", 7)]) (N := N_step_tally) (sc := defScope s_step_tally) (by decide +kernel)) (fun _ _ _ _ _ => pg_name (i := 7) sc_step_tally.nd rfl (Or.inl rfl)) (fun _ _ _ _ _ => pts_nil) (fun _ _ _ _ _ => (pe_callB (call_max2 rfl) (by rfl) T.n_max (by decide +kernel) (pa_cons (pe_ix (show IxR _ (rIxT K) from ix_tup) (pv 4) (pv 7) (fun _ _ => rfl)) (pa_cons (pe_op op_sub (pe_ix (show IxR _ (rIxT K) from ix_tup) (pv 4) (pv 7) (fun _ _ => rfl)) (pe_op op_mul (pe_op op_sub (pv 3) pe_int) (pe_ix (show IxR _ (rIxT K) from ix_tup) (pv 5) (pv 7) (fun _ _ => rfl)))) pa_nil)))))
    (pss_one (ps_ret (pe_tup (pa_cons (pe_callTy call_tuple_of (by rfl) T.n_tuple (by decide +kernel) (pa_cons (pv 6) pa_nil)) (pa_cons (pe_callTy call_tuple_of (by rfl) T.n_tuple (by decide +kernel) (pa_cons (pe_lc (own := [("more", 8)]) (g := gName 8) (tt := tYes) rfl sc_step_tally.nd (pi_tup (pv 5)) (blkOk_by (own := [("more", 8)]) (N := N_step_tally) (sc := defScope s_step_tally) (by decide +kernel)) (fun _ _ _ _ _ => pg_name (i := 8) sc_step_tally.nd rfl (Or.inl rfl)) (fun _ _ _ _ _ => pts_nil) (fun _ _ _ _ _ => (pe_op op_mul (pv 3) (pv 8)))) pa_nil)) pa_nil))))))))), ?_⟩
  cases st with
  | run i m =>
    have hq : H q = some (.tup [.int (i : Int), .int m]) := hq
    refine ⟨_, rfl, _, _, _, _, rfl, rfl, SqT.of hq, atI_nat (j := 0) rfl, _, _, _, _, _, rfl, .ty "tuple", .base (.int _), kit_ty (b := "tuple") (r := false) (by decide +kernel), _, rfl, iteT ?_⟩
    exact ⟨_, rfl, _, rfl, d, q, k, L, (i, m), rfl, B, ok, k4, hq, hd, kk⟩
  | rnd rs m =>
    obtain ⟨t, qs, hq, ht, hR⟩ := hq
    obtain ⟨hi, hb⟩ := hd
    obtain ⟨tb, qb, hdb, _, _⟩ := id B
    refine ⟨_, rfl, _, _, _, _, rfl, rfl, SqT.of hq, atI_nat (j := 0) rfl, _, _, _, _, _, rfl, .ty "tuple", .base (.tup ht), kit_ty (b := "tuple") (r := true) (by decide +kernel), _, rfl, iteF ?_⟩
    refine ⟨_, rfl, _, _, rfl, SqT.of hq, rfl, _, _, rfl, _, _, rfl, rfl, ?_⟩
    refine ⟨_, rfl, _, rfl, d, t, k, L, asWay rs, rfl, B, ok, k4, ⟨qs, ht, hR.way⟩, fun s hs => ?_, fun H1 p s1 tl => ?_⟩
    · obtain ⟨r, hr', rfl⟩ := List.mem_map.mp hs
      exact ⟨hi r hr', True.intro⟩
    rw [asWay_T] at tl
    obtain ⟨an, ac, hp, han, hac⟩ := tl
    refine ⟨p, _, rfl, SqT.of hp, rfl, _, _, rfl, _, _, rfl, rfl, ?_⟩
    refine ⟨_, rfl, _, _, _, _, rfl, rfl, SqT.of (s1 _ _ hdb), atI_nat (j := 0) rfl, _, rfl, (by omega), (by omega), fun U nU => ?_⟩
    have sU := same_upd (o := .lst []) nU
    refine lc_range (lo := 0) (n := _) (fun i H' => Same H1 H' ∧ H' U = some (.lst ((vec i ((runsT L rs).rnd m).n).map V.int))) ⟨sU, upd_same⟩ ?_ ?_
    · rintro i H2 hi ⟨s2, hU⟩
      have hi : i < ((k : Nat) : Int).toNat := hi
      rw [Int.toNat_natCast] at hi
      refine ⟨rfl, ?_⟩
      unfold tYes
      refine iteT ?_
      have hbi := hb i
      refine ⟨_, rfl, _, rfl, _, _, _, _, rfl, rfl, SqT.of (s2 _ _ han), at_of (j := i) (Int.zero_add _) (vget hi), _, rfl, _, rfl, _, _, _, _, rfl, rfl, SqT.of (s2 _ _ han), at_of (j := i) (Int.zero_add _) (vget hi), _, rfl, _, _, rfl, rfl, _, rfl, _, rfl, _, _, _, _, rfl, rfl, SqT.of (s2 _ _ hac), at_of (j := i) (Int.zero_add _) (vget hi), _, _, rfl, rfl, .inr ⟨by omega, by omega⟩, _, _, rfl, rfl, _, _, rfl, _, hU, ?_, fun b o e' => ?_, ?_⟩
      · rw [List.length_map, vec_len]
        exact Nat.lt_of_le_of_lt (show i ≤ 4 by omega) (by decide)
      · rw [upd_ne (ne_of_none e' nU)]
        exact s2 _ _ e'
      · rw [upd_same, vec_succ, List.map_append]
        show some (HO.lst (_ ++ [V.int (if _ > _ then _ else _)])) = some (HO.lst (_ ++ [V.int (max _ _)]))
        rw [max_if]
    rintro H2 ⟨s2, hU⟩
    rw [Int.toNat_natCast] at hU
    refine ⟨_, rfl, _, _, rfl, .inl ⟨SqL.of hU, fun n nn => ?_⟩⟩
    have sn := same_upd (o := .tup ((vec k ((runsT L rs).rnd m).n).map V.int)) nn
    have hac3 := sn _ _ (s2 _ _ hac)
    have hn3 : upd H2 n (.tup ((vec k ((runsT L rs).rnd m).n).map V.int)) n = some (.tup ((vec k ((runsT L rs).rnd m).n).map V.int)) := upd_same
    have s3 := s1.trans (s2.trans sn)
    generalize upd H2 n (.tup ((vec k ((runsT L rs).rnd m).n).map V.int)) = H3 at hac3 hn3 s3 ⊢
    clear sn s2 hU sU nU nn
    refine ⟨_, rfl, ac, rfl, ⟨_, SqT.of hac3⟩, fun U nU => ?_⟩
    have sU := same_upd (o := .lst []) nU
    refine lc_tup (K := K) (a := ac) (xs := (vec k (runsT L rs).c).map V.int) (fun i H' => Same H3 H' ∧ H' U = some (.lst ((vec i ((runsT L rs).rnd m).c).map V.int))) ⟨sU, upd_same⟩ (fun i H' _ h => SqT.of (h.1 _ _ hac3)) ?_ ?_
    · rintro i x H4 hx ⟨s4, hU⟩
      have hi : i < k := by
        have := (List.getElem?_eq_some_iff.mp hx).1
        rw [List.length_map, vec_len] at this
        exact this
      rw [vget hi] at hx
      have ex := (Option.some.inj hx).symm
      subst ex
      refine ⟨rfl, ?_⟩
      unfold tYes
      refine iteT ?_
      have hbi := hb i
      refine ⟨_, rfl, _, rfl, _, _, rfl, rfl, .inr ⟨by omega, by omega⟩, _, hU, ?_, fun b o e' => ?_, ?_⟩
      · rw [List.length_map, vec_len]
        exact Nat.lt_of_le_of_lt (show i ≤ 4 by omega) (by decide)
      · rw [upd_ne (ne_of_none e' nU)]
        exact s4 _ _ e'
      · rw [upd_same, vec_succ, List.map_append]
        rfl
    rintro H4 ⟨s4, hU⟩
    rw [List.length_map, vec_len] at hU
    refine ⟨_, _, rfl, .inl ⟨SqL.of hU, fun c nc => ?_⟩⟩
    have sc := same_upd (o := .tup ((vec k ((runsT L rs).rnd m).c).map V.int)) nc
    refine ⟨(by show 2 ≤ sizeLine; decide), fun p' np' => ?_⟩
    have sp := same_upd (o := .tup [.ref n, .ref c]) np'
    exact kk _ p' (s3.trans (s4.trans (sc.trans sp))) ⟨n, c, upd_same, sp _ _ (sc _ _ (s4 _ _ hn3)), sp _ _ upd_same⟩
end
end Sm

set_option Elab.async false
set_option linter.all false
set_option maxRecDepth 100000
set_option maxHeartbeats 16000000
namespace Sm
open PySem PySem.Spec PyProof.Rows L2
open C8 (pss_cut tCut)
abbrev s_init : Stmt := inClass (topS 2) 0
abbrev N_init : List Str := ["self", "index"]
theorem sc_init : FnScope N_init ["self", "index"] (defScope s_init) := ⟨rfl, rfl, rfl, by decide +kernel, rfl, by decide +kernel, by decide +kernel⟩
/-- what the written part says of the class Stuck -/
structure Txs (K : PySem.W.Frag) (mg : Str → Option Value) (cChangeError cS fB : Addr) : Prop where
  gChangeError : mg "ChangeError" = some (.ref cChangeError)
  k1 : PySem.W.kitOne K (.ref cS) (.ref cChangeError) = some true
  k2 : PySem.W.kitOne K (.ref cS) (.type "ValueError") = some true
  k3 : PySem.W.kitOne K (.ref cS) (.type "LookupError") = some false
  gStuck : mg "Stuck" = some (.ref cS)
  oex : OexC K cS
  noE : PySem.W.findIn K (.ref cS) "index" = some none
  iC : PySem.W.findIn K (.ref cS) "__init__" = some (some (.ref fB))
  tI : PySem.W.typeIn K (.ref fB) = some (.type "function")
  xf : XfC K cS
  ec : ExcC K cS
  te : PySem.W.exmOne K (.ref cS) (.ref cS) = some true
  fI : ∃ fd, Fun K "__init__" "Stuck.__init__" s_init fB fd ∧ Binds K fd ["self", "index"] []
def CalX (P : Program) (w : World) (K : PySem.W.Frag) (mg : Str → Option Value) (base : Heap) (x : Str) (ps : List Str) (k : Nat) (sp : Sp) : Prop :=
  ∃ (f : Addr) (fd : FuncData), FnOk P w K mg base (L2.CX P w) k f fd ps sp ∧ mg x = some (.ref f) ∧ PySem.W.keepIn K (.ref f) = true ∧ Binds K fd ps []
/-- the purse covers what the first j steps need -/
def Cov (k : Nat) (L : List Of) (ss : List St) (am : Nat → Int) : Prop := ∀ i, i < k → (wayT L ss).n i ≤ am i
def sp_walkX (cS : Addr) : Sp := fun vs H Q E => ∃ (d a w : Addr) (k : Nat) (L : List Of) (ss : List St) (am : Nat → Int), vs = [.ref d, .ref a, .ref w] ∧ BoardAt H d k L ∧ (∀ o ∈ L, OfOk k o) ∧ k ≤ 4 ∧ H a = some (.tup ((vec k am).map V.int)) ∧ WayAt H w ss ∧ (∀ s ∈ ss, StD L s) ∧ ss.length ≤ 1000 ∧ (∀ i, i < k → 0 ≤ am i) ∧
  (∀ (j : Nat) H' x, j < ss.length → Cov k L (ss.take j) am → ¬ Cov k L (ss.take (j + 1)) am → Same H H' → H' x = some (.xd [(("index" : Str), .int (j : Int))]) → E (.ref cS) (some x) H') ∧
  (∀ H' p, Cov k L ss am → Same H H' → H' p = some (.tup ((vec k fun i => am i + (wayT L ss).c i).map V.int)) → Q (.ref p) H')
/-- what a walk answers, as data -/
def Out (k : Nat) (L : List Of) (ss : List St) (am : Nat → Int) (o : PyData) : Prop := (Cov k L ss am ∧ o = .tuple ((vec k fun i => am i + (wayT L ss).c i).map PyData.int)) ∨ ∃ j, j < ss.length ∧ Cov k L (ss.take j) am ∧ ¬ Cov k L (ss.take (j + 1)) am ∧ o = .list [.int (j : Int)]
/-- it stands at p -/
def OAt (H : Hp) (p : Addr) (o : PyData) : Prop := (∃ t : List Int, o = .tuple (t.map PyData.int) ∧ H p = some (.tup (t.map V.int))) ∨ ∃ j : Int, o = .list [.int j] ∧ H p = some (.lst [.int j])
theorem OAt.dp {K : PySem.W.Frag} {H : Hp} {p : Addr} {o : PyData} (h : OAt H p o) : Dp K H (.ref p) o := by
  rcases h with ⟨t, rfl, h⟩ | ⟨j, rfl, h⟩
  · exact .tup (SqT.of h) (dp_ints _)
  · exact .lst (SqL.of h) (.cons (.int _) .nil)
theorem OAt.mono {H H' : Hp} {p : Addr} {o : PyData} (h : OAt H p o) (s : ∀ u, H p = some u → H' p = some u) : OAt H' p o := by
  rcases h with ⟨t, rfl, h⟩ | ⟨j, rfl, h⟩
  · exact .inl ⟨t, rfl, s _ h⟩
  · exact .inr ⟨j, rfl, s _ h⟩
theorem OAt.ne {H : Hp} {p b : Addr} {o : PyData} (h : OAt H p o) (n : H b = none) : p ≠ b := by
  rcases h with ⟨t, rfl, h⟩ | ⟨j, rfl, h⟩ <;> exact ne_of_none h n
def sp_l_told (_ : PySem.W.Frag) : Sp := fun vs H Q _ => ∃ (d a w : Addr) (k : Nat) (L : List Of) (ss : List St) (am : Nat → Int), vs = [.ref d, .ref a, .ref w] ∧ BoardAt H d k L ∧ (∀ o ∈ L, OfOk k o) ∧ k ≤ 4 ∧ H a = some (.tup ((vec k am).map V.int)) ∧ WayAt H w ss ∧ (∀ s ∈ ss, StD L s) ∧ ss.length ≤ 1000 ∧ (∀ i, i < k → 0 ≤ am i) ∧
  ∀ H' p o, Same H H' → Out k L ss am o → OAt H' p o → Q (.ref p) H'
theorem kit_look {K : PySem.W.Frag} {D : Addr} {b : Bool} (h : PySem.W.subIn K (.ref D) (.type "LookupError") = some b) : PySem.W.kitOne K (.ref D) (.type "LookupError") = some b := by
  have q : ((Value.ref D) == (Value.type "LookupError")) = false := beq_eq_false_iff_ne.mpr fun z => nomatch z
  unfold PySem.W.kitOne
  rw [if_neg (by rw [q]; exact Bool.false_ne_true)]
  show (if PySem.W.kitMeta "LookupError" = true then PySem.W.subIn K (.ref D) (.type "LookupError") else none) = some b
  rw [if_pos (by decide +kernel)]
  exact h
theorem cov_step {k : Nat} {L : List Of} {ss : List St} {am : Nat → Int} {j : Nat} {st : St} (h : ss[j]? = some st) (c : Cov k L (ss.take j) am) : Cov k L (ss.take (j + 1)) am ↔ ∀ i, i < k → (stT L st).n i ≤ am i + (wayT L (ss.take j)).c i := by
  unfold Cov
  rw [wayT_take h]
  constructor
  · intro q i hi
    have := q i hi
    have : max ((wayT L (ss.take j)).n i) ((stT L st).n i - (wayT L (ss.take j)).c i) ≤ am i := this
    omega
  · intro q i hi
    have := q i hi
    have := c i hi
    show max ((wayT L (ss.take j)).n i) ((stT L st).n i - (wayT L (ss.take j)).c i) ≤ am i
    omega
theorem cov_take {k : Nat} {L : List Of} {ss : List St} {am : Nat → Int} (c : Cov k L ss am) (j : Nat) : Cov k L (ss.take j) am := by
  intro i hi
  refine Int.le_trans ?_ (c i hi)
  have key : ∀ (zs : List St) (t : Tl), t.n i ≤ (zs.foldl (fun t s => t.seq (stT L s)) t).n i := by
    intro zs
    induction zs with
    | nil => intro t; exact Int.le_refl _
    | cons z zs ih => intro t; exact Int.le_trans (Int.le_max_left _ _) (ih (t.seq (stT L z)))
  have := key (ss.drop j) (wayT L (ss.take j))
  unfold wayT at this ⊢
  rw [← List.foldl_append, List.take_append_drop] at this
  exact this
section
variable {P : Program} {w : World} {K : PySem.W.Frag} {mg : Str → Option Value} {base : Heap} {cChangeError cS fB : Addr}
theorem ok_init {fd : FuncData} (F : Fun K "__init__" "Stuck.__init__" s_init fB fd) : FnOk P w K mg base CX0 1 fB fd ["self", "index"] (sp_init K "index") := by
  refine F.ok sc_init (fun vs H Q E h => ?_) (fun cdv A outer s H vs Q E hr h => ?_)
  · obtain ⟨a, C, v, rfl, _⟩ := h
    rfl
  obtain ⟨a, C, v, rfl, T, no, ha, k⟩ := h
  refine ⟨_, pss_one (ps_ost (pv 0) (pv 1)), ?_⟩
  exact ⟨_, rfl, _, rfl, a, C, rfl, T, no, .inl ⟨ha, k⟩⟩
abbrev s_walk : Stmt := topS 4
abbrev N_walk : List Str := ["board", "purse", "way", "kinds", "amounts", "index", "step", "need", "change", "kind"]
theorem sc_walk : FnScope N_walk ["board", "purse", "way"] (defScope s_walk) := ⟨rfl, rfl, rfl, by decide +kernel, rfl, by decide +kernel, by decide +kernel⟩
theorem ok_walkX (T : Txt mg) (XC : Txs K mg cChangeError cS fB) (D : Df K mg "walk" s_walk ["board", "purse", "way"]) (C_step_tally : Cal P w K mg base "step_tally" ["board", "step"] 4 (sp_step_tally K)) : CalX P w K mg base "walk" ["board", "purse", "way"] 5 (sp_walkX cS) := by
  obtain ⟨f_step_tally, fd_step_tally, G_step_tally, m_step_tally, k_step_tally, b_step_tally⟩ := C_step_tally
  obtain ⟨fdI, FI, b_init⟩ := XC.fI
  have G_init : FnOk P w K mg base CX0 1 fB fdI ["self", "index"] (sp_init K "index") := ok_init FI
  obtain ⟨f, fd, F, m, b⟩ := D
  refine ⟨f, fd, F.okX sc_walk (fun vs H Q E h => ?_) (fun cdv A outer s H vs Q E hr h => ?_), m, F.kp, b⟩
  · obtain ⟨d, a, w, k, L, ss, am, rfl, _⟩ := h
    rfl
  obtain ⟨d, a, w, k, L, ss, am, rfl, B, ok, k4, ha, W, hs, sl, am0, kE, kQ⟩ := h
  obtain ⟨t, qs, hd, ht, hL⟩ := id B
  obtain ⟨ws, hw, hS⟩ := id W
  refine ⟨_, (pss_cons (ps_set (i := 3) sc_walk.nd rfl (Or.inl rfl) (pe_callTy cr_range1 (by rfl) T.n_range (by decide +kernel) (pa_cons (pe_ix ix_tup (pv 0) pe_int (fun _ _ => rfl)) pa_nil)))
    (pss_cons (ps_set (i := 4) sc_walk.nd rfl (Or.inr rfl) (pv 1))
    (pss_cons (ps_for (passes_of rfl) rfl (pi_enumT (by rfl) T.n_enumerate (pa_cons (pv 2) pa_nil)) (pg_tup (by rfl) (pgs_cons (pg_name (i := 5) sc_walk.nd rfl (Or.inl rfl)) (pgs_cons (pg_name (i := 6) sc_walk.nd rfl (Or.inl rfl)) pgs_nil)))
      (pss_cons (ps_asg (pe_call G_step_tally (hr.mono (by decide)) (by rfl) m_step_tally k_step_tally b_step_tally .nil pass0 (pa_cons (pv 0) (pa_cons (pv 6) pa_nil))) (pg_tup (by rfl) (pgs_cons (pg_name (i := 7) sc_walk.nd rfl (Or.inr rfl)) (pgs_cons (pg_name (i := 8) sc_walk.nd rfl (Or.inr rfl)) pgs_nil))))
    (pss_cut (ps_if (pt_val (pe_callB (cr_any rfl) (by rfl) T.n_any (by decide +kernel) (pa_cons (pe_lc (own := [("kind", 9)]) (g := gName 9) (tt := tYes) rfl sc_walk.nd (pi_rng (pv 3)) (blkOk_by (own := [("kind", 9)]) (N := N_walk) (sc := defScope s_walk) (by decide +kernel)) (fun _ _ _ _ _ => pg_name (i := 9) sc_walk.nd rfl (Or.inl rfl)) (fun _ _ _ _ _ => pts_nil) (fun _ _ _ _ _ => (pe_cmpR op_lt (pe_ix (show IxR _ (rIxT K) from ix_tup) (pv 4) (pv 9) (fun _ _ => rfl)) (pe_ix (show IxR _ (rIxT K) from ix_tup) (pv 7) (pv 9) (fun _ _ => rfl)) (nomark _)))) pa_nil))) (pss_one (ps_raise rfl (takes_of rfl rfl rfl rfl) (pmk_oex XC.oex XC.iC XC.tI G_init (hr.mono (by decide)) b_init .nil pass0 (by rfl) XC.gStuck (pa_cons (pv 5) pa_nil)))) pss_nil)
    (pss_one (ps_set (i := 4) sc_walk.nd rfl (Or.inr rfl) (pe_callTy call_tuple_of (by rfl) T.n_tuple (by decide +kernel) (pa_cons (pe_lc (own := [("kind", 9)]) (g := gName 9) (tt := tYes) rfl sc_walk.nd (pi_rng (pv 3)) (blkOk_by (own := [("kind", 9)]) (N := N_walk) (sc := defScope s_walk) (by decide +kernel)) (fun _ _ _ _ _ => pg_name (i := 9) sc_walk.nd rfl (Or.inl rfl)) (fun _ _ _ _ _ => pts_nil) (fun _ _ _ _ _ => (pe_op op_add (pe_ix (show IxR _ (rIxT K) from ix_tup) (pv 4) (pv 9) (fun _ _ => rfl)) (pe_ix (show IxR _ (rIxT K) from ix_tup) (pv 8) (pv 9) (fun _ _ => rfl))))) pa_nil)))))))
    (pss_one (ps_ret (pv 4)))))), ?_⟩
  refine ⟨_, rfl, _, _, _, _, rfl, rfl, SqT.of hd, atI_nat (j := 0) rfl, _, rfl, fun r nr => ?_⟩
  have s1 := same_upd (o := .rng 0 (k : Int)) nr
  have hr1 : upd H r (.rng 0 (k : Int)) r = some (.rng 0 (k : Int)) := upd_same
  generalize upd H r (.rng 0 (k : Int)) = H1 at s1 hr1 ⊢
  clear nr
  have ll : ∀ f : Nat → Int, ((vec k f).map V.int).length = k := fun f => by rw [List.length_map, vec_len]
  have lw : (ws.map V.ref).length = ss.length := by rw [List.length_map, hS.1]
  have cnt : ((k : Int) - 0).toNat = k := by omega
  have ha1 := s1 _ _ ha
  refine ⟨_, rfl, _, rfl, w, _, rfl, SqT.of (s1 _ _ hw), ?_⟩
  refine for_it (walk_enumT (K := K) (a := w) (xs := ws.map V.ref)) (fun j σ H' => ∃ (A' : Addr) (v5 v6 v7 v8 : Option V), σ = [some (.ref d), some (.ref a), some (.ref w), some (.ref r), some (.ref A'), v5, v6, v7, v8, none] ∧ Same H1 H' ∧ H' A' = some (.tup ((vec k fun i => am i + (wayT L (ss.take j)).c i).map V.int)) ∧ Cov k L (ss.take j) am)
    ⟨a, none, none, none, none, rfl, Same.refl _, ?_, fun i hi => am0 i hi⟩ (fun j σ H' _ h => by obtain ⟨_, _, _, _, _, _, s', _⟩ := h; exact SqT.of (s' _ _ (s1 _ _ hw))) ?_ ?_
  · rw [ha1, show (fun i => am i + (wayT L (ss.take 0)).c i) = am from funext fun i => Int.add_zero _]
  · rintro j x σ H2 H2' hj ⟨A', v5, v6, v7, v8, rfl, s2, hA, cv⟩ ⟨T', x1, y, rfl, hT, rfl, hx1, hy⟩
    have hx1 := (Option.some.inj hx1).symm
    subst hx1
    have hy : (ws.map V.ref)[j]? = some y := hy
    rw [List.getElem?_map] at hy
    rw [lw] at hj
    cases e : ws[j]? with
    | none => rw [e] at hy; cases hy
    | some q =>
      rw [e] at hy
      have ey : y = .ref q := (Option.some.inj hy).symm
      subst ey
      obtain ⟨st, hst, hq⟩ := hS.2 j q e
      have sT := same_upd (o := .tup [.int (j : Int), .ref q]) hT
      have sB := s1.trans (s2.trans sT)
      refine ⟨T', _, rfl, SqT.of upd_same, rfl, _, _, rfl, _, _, rfl, rfl, ?_⟩
      have hh := hs st (List.mem_of_getElem? hst)
      refine ⟨_, rfl, _, rfl, d, q, k, L, st, rfl, B.same sB, ok, k4, hq.mono fun b xs e => sB _ _ e, hh, trivial, fun H5 p s5 tl => ?_⟩
      obtain ⟨an, ac, hp, han, hac⟩ := tl
      refine ⟨p, _, rfl, SqT.of hp, rfl, _, _, rfl, _, _, rfl, rfl, ?_⟩
      have s25 := s2.trans (sT.trans s5)
      have hA5 := s5 _ _ (sT _ _ hA)
      have hr5 := s25 _ _ hr1
      have hw5 := s25 _ _ (s1 _ _ hw)
      have cs := cov_step (k := k) (L := L) hst cv
      refine ⟨fun σ H' => Same H5 H' ∧ Cov k L (ss.take (j + 1)) am ∧ σ = [some (.ref d), some (.ref a), some (.ref w), some (.ref r), some (.ref A'), some (.int (j : Int)), some (.ref q), some (.ref an), some (.ref ac), none], ?_, ?_⟩
      · refine ⟨_, rfl, r, _, _, rfl, hr5, fun U nU => ?_⟩
        have sU := same_upd (o := .lst []) nU
        rw [cnt]
        refine lc_range (lo := 0) (n := k) (fun i H' => Same H5 H' ∧ H' U = some (.lst (((List.range i).map fun x => decide (am x + (wayT L (ss.take j)).c x < (stT L st).n x)).map V.bl))) ⟨sU, upd_same⟩ ?_ ?_
        · rintro i H6 hi ⟨s6, hU⟩
          refine ⟨rfl, ?_⟩
          unfold tYes
          refine iteT ?_
          refine ⟨_, rfl, _, rfl, _, _, _, _, rfl, rfl, SqT.of (s6 _ _ hA5), at_of (j := i) (Int.zero_add _) (vget hi), _, rfl, _, rfl, _, _, _, _, rfl, rfl, SqT.of (s6 _ _ han), at_of (j := i) (Int.zero_add _) (vget hi), _, _, rfl, rfl, _, hU, ?_, fun b o e' => ?_, ?_⟩
          · rw [List.length_map, List.length_map, List.length_range]
            exact Nat.lt_of_le_of_lt (show i ≤ 4 by omega) (by decide)
          · rw [upd_ne (ne_of_none e' nU)]
            exact s6 _ _ e'
          · rw [upd_same, List.range_succ, List.map_append, List.map_append]
            rfl
        rintro H6 ⟨s6, hU⟩
        refine ⟨U, _, rfl, SqL.of hU, _, rfl, ?_⟩
        by_cases c : Cov k L (ss.take (j + 1)) am
        · have z : ((List.range k).map fun x => decide (am x + (wayT L (ss.take j)).c x < (stT L st).n x)).any id = false := by
            rw [List.any_eq_false]
            intro b hb
            obtain ⟨i, hi, rfl⟩ := List.mem_map.mp hb
            have := cs.mp c i (List.mem_range.mp hi)
            show ¬ decide _ = true
            rw [decide_eq_true_iff]
            omega
          rw [z]
          exact iteF ⟨s6, c, rfl⟩
        · have z : ((List.range k).map fun x => decide (am x + (wayT L (ss.take j)).c x < (stT L st).n x)).any id = true := by
            rw [List.any_eq_true]
            have nc : ¬ ∀ i, i < k → (stT L st).n i ≤ am i + (wayT L (ss.take j)).c i := fun q => c (cs.mpr q)
            obtain ⟨i, hi⟩ := Classical.not_forall.mp nc
            obtain ⟨hi, hlt⟩ := Classical.not_imp.mp hi
            exact ⟨_, List.mem_map.mpr ⟨i, List.mem_range.mpr hi, rfl⟩, decide_eq_true (by omega)⟩
          rw [z]
          refine iteT ?_
          refine xc_mk XC.oex XC.noE ⟨_, rfl, V.int (j : Int), rfl, fun dx H7 s7 hd => kE j H7 dx hj cv c (s1.trans (s25.trans (s6.trans s7))) hd⟩ (fun h z => ?_)
          obtain ⟨v, e, q⟩ := z
          exact ⟨v, e, h _ _ q⟩
      · rintro σ H6 ⟨s6, c, rfl⟩
        refine ⟨_, rfl, r, _, _, rfl, s6 _ _ hr5, fun U nU => ?_⟩
        have sU := same_upd (o := .lst []) nU
        rw [cnt]
        refine lc_range (lo := 0) (n := k) (fun i H' => Same H6 H' ∧ H' U = some (.lst ((vec i fun x => am x + (wayT L (ss.take (j + 1))).c x).map V.int))) ⟨sU, upd_same⟩ ?_ ?_
        · rintro i H7 hi ⟨s7, hU⟩
          refine ⟨rfl, ?_⟩
          unfold tYes
          refine iteT ?_
          refine ⟨_, rfl, _, rfl, _, _, _, _, rfl, rfl, SqT.of (s7 _ _ (s6 _ _ hA5)), at_of (j := i) (Int.zero_add _) (vget hi), _, rfl, _, rfl, _, _, _, _, rfl, rfl, SqT.of (s7 _ _ (s6 _ _ hac)), at_of (j := i) (Int.zero_add _) (vget hi), _, _, rfl, rfl, _, hU, ?_, fun b o e' => ?_, ?_⟩
          · rw [List.length_map, vec_len]
            exact Nat.lt_of_le_of_lt (show i ≤ 4 by omega) (by decide)
          · rw [upd_ne (ne_of_none e' nU)]
            exact s7 _ _ e'
          · rw [upd_same, vec_succ, List.map_append, wayT_take hst]
            show some (HO.lst (_ ++ [V.int (am i + (wayT L (ss.take j)).c i + (stT L st).c i)])) = some (HO.lst (_ ++ [V.int (am i + ((wayT L (ss.take j)).c i + (stT L st).c i))]))
            rw [Int.add_assoc]
        rintro H7 ⟨s7, hU⟩
        refine ⟨_, _, rfl, .inl ⟨SqL.of hU, fun n' nn' => ?_⟩⟩
        have s8 := same_upd (o := .tup ((vec k fun x => am x + (wayT L (ss.take (j + 1))).c x).map V.int)) nn'
        exact ⟨n', _, _, _, _, rfl, s25.trans (s6.trans (s7.trans s8)), upd_same, c⟩
  · rintro σ H2 ⟨A', v5, v6, v7, v8, rfl, s2, hA, cv⟩
    rw [lw, List.take_length] at hA cv
    exact ⟨_, rfl, kQ H2 A' cv (s1.trans s2) hA⟩
abbrev s_l_told : Stmt := topS 16
abbrev N_l_told : List Str := ["_law_board_here", "_law_purse", "_law_way_here", "error", "_law_good"]
theorem sc_l_told : FnScope N_l_told ["_law_board_here", "_law_purse", "_law_way_here"] (defScope s_l_told) := ⟨rfl, rfl, rfl, by decide +kernel, rfl, by decide +kernel, by decide +kernel⟩
theorem ok_l_told (T : Txt mg) (XC : Txs K mg cChangeError cS fB) (D : Df K mg "_law_told" s_l_told ["_law_board_here", "_law_purse", "_law_way_here"]) (C_walk : CalX P w K mg base "walk" ["board", "purse", "way"] 5 (sp_walkX cS)) : Cal P w K mg base "_law_told" ["_law_board_here", "_law_purse", "_law_way_here"] 6 (sp_l_told K) := by
  obtain ⟨f_walk, fd_walk, G_walk, m_walk, k_walk, b_walk⟩ := C_walk
  refine D.cal sc_l_told (fun vs H Q E h => ?_) (fun f cdv A outer s H vs Q E hr h => ?_)
  · obtain ⟨d, a, w, k, L, ss, am, rfl, _⟩ := h
    rfl
  obtain ⟨d, a, w, k, L, ss, am, rfl, B, ok, k4, ha, W, hs, sl, am0, kk⟩ := h
  refine ⟨_, (pss_one (ps_try_as (i := 3) rfl rfl sc_l_told.nd rfl rfl ⟨rfl, by decide, .inl XC.gStuck⟩ takes0
      (fun W pn xe tk _ => (pss_one (ps_ret (pe_callS G_walk (hr.mono (by decide)) rfl m_walk k_walk b_walk (fun σ => passAt tk σ) (pa_cons (pv 0) (pa_cons (pv 1) (pa_cons (pv 2) pa_nil)))))))
      (fun a oe cls d pn hz hf => (pss_cons (ps_set (i := 4) sc_l_told.nd rfl (Or.inl rfl) (pe_and (pe_callB (call_isX hz hf) (by rfl) T.n_isinstance (by decide +kernel) (pa_cons (pv 3) (pa_cons (pe_glob (v := .ref cChangeError) rfl XC.gChangeError rfl) pa_nil))) (pe_and (pe_callB (call_isX hz hf) (by rfl) T.n_isinstance (by decide +kernel) (pa_cons (pv 3) (pa_cons (pe_bltn (v := .ty "ValueError") (by rfl) T.n_ValueError (by decide +kernel) rfl) pa_nil))) (pe_one (pe_not (pe_callB (call_isX hz hf) (by rfl) T.n_isinstance (by decide +kernel) (pa_cons (pv 3) (pa_cons (pe_bltn (v := .ty "LookupError") (by rfl) T.n_LookupError (by decide +kernel) rfl) pa_nil))))))))
    (pss_one (ps_ret (pe_ifExp (pt_val (pv 4)) (pe_lst (pa_cons (pe_xf XC.xf XC.noE hz hf (pv 3)) pa_nil)) (pe_lst (pa_cons pe_str pa_nil))))))))), ?_⟩
  refine ⟨_, rfl, _, rfl, _, rfl, d, a, w, k, L, ss, am, rfl, B, ok, k4, ha, W, hs, sl, am0, fun j H1 x hj cv nc s1 hx => ?_, fun H1 p c s1 hp => kk H1 p _ s1 (.inl ⟨c, rfl⟩) (.inl ⟨_, rfl, hp⟩)⟩
  refine ⟨true, XC.te, fun _ a0 na => ?_, fun q => nomatch q⟩
  refine ⟨_, rfl, cS, x, _, rfl, rfl, hx, XC.ec, .inl ⟨_, _, true, rfl, .own _, XC.k1, _, rfl, iteT ?_⟩⟩
  refine ⟨_, rfl, cS, x, _, rfl, rfl, hx, XC.ec, .inl ⟨_, _, true, rfl, .ty _, XC.k2, _, rfl, iteT ?_⟩⟩
  refine ⟨_, rfl, cS, x, _, rfl, rfl, hx, XC.ec, .inl ⟨_, _, false, rfl, .ty _, XC.k3, _, rfl, ?_⟩⟩
  refine ⟨_, rfl, _, rfl, iteT ?_⟩
  refine ⟨_, rfl, rfl, rfl, x, _, _, rfl, hx, rfl, (by show 1 ≤ sizeLine; decide), fun q nq => ?_⟩
  exact kk _ q _ (s1.trans (same_upd nq)) (.inr ⟨j, hj, cv, nc, rfl⟩) (.inr ⟨_, rfl, upd_same⟩)
end
end Sm

set_option Elab.async false
set_option linter.all false
set_option maxRecDepth 100000
set_option maxHeartbeats 16000000
namespace Sm
open PySem PySem.Spec PyProof.Rows L2
open C8 (pss_cut tCut)
/-- small numbers of times -/
def StS (M : Int) : St → Prop
  | .run _ m => m ≤ M
  | .rnd rs m => rs.length ≤ 3 ∧ m ≤ M ∧ ∀ r ∈ rs, r.2 ≤ M
def sp_l_way (_ : PySem.W.Frag) : Sp := fun vs H Q _ => ∃ (p l d : Addr) (n : Int) (k : Nat) (L : List Of) (steps times : Int), vs = [.ref p, .ref d, .int steps, .int times] ∧ Deck H p l n ∧ 0 ≤ n ∧ n ≤ 900000 ∧ BoardAt H d k L ∧ L.length < 64 ∧ 0 ≤ steps ∧ steps ≤ 10 ∧ 1 ≤ times ∧ times ≤ 50 ∧
  ∀ H' w ss n', Fr p l H H' → Deck H' p l n' → n ≤ n' → n' ≤ n + 200 → WayAt H' w ss → (∀ s ∈ ss, StOk L s ∧ StS times s) → ss.length ≤ 10 → Q (.ref w) H'
theorem rep_ints (m i : Nat) : (List.replicate m [V.int (i : Int)]).flatten = (ni (List.replicate m i)).map V.int := by
  rw [List.flatten_replicate_singleton]
  unfold ni
  rw [List.map_replicate, List.map_replicate]
theorem rep_list (m : Nat) (I : List Nat) : (List.replicate m ((ni I).map V.int)).flatten = (ni (List.replicate m I).flatten).map V.int := by
  unfold ni
  rw [List.map_flatten, List.map_replicate, List.map_flatten, List.map_replicate]
theorem ni_app (I J : List Nat) : (ni (I ++ J)).map V.int = (ni I).map V.int ++ (ni J).map V.int := by
  unfold ni
  rw [List.map_append, List.map_append]
theorem ni_len (I : List Nat) : ((ni I).map V.int).length = I.length := by rw [List.length_map, List.length_map]
theorem runI_len {L : List Of} {r : Nat × Int} {M : Nat} (h : RunOk L r) (hm : r.2 ≤ (M : Int)) : (runI r).length ≤ M := by
  unfold runI
  rw [List.length_replicate]
  have := h.2
  omega
theorem runsI_len {L : List Of} {M : Nat} : ∀ {rs : List (Nat × Int)}, (∀ r ∈ rs, RunOk L r) → (∀ r ∈ rs, r.2 ≤ (M : Int)) → (runsI rs).length ≤ M * rs.length
  | [], _, _ => Nat.zero_le _
  | r :: rs, h, hm => by
    have a := runI_len (h r List.mem_cons_self) (hm r List.mem_cons_self)
    have b := runsI_len (rs := rs) (fun r' e => h r' (List.mem_cons_of_mem _ e)) (fun r' e => hm r' (List.mem_cons_of_mem _ e))
    show (runI r ++ runsI rs).length ≤ M * (rs.length + 1)
    rw [List.length_append, Nat.mul_add]
    omega
theorem flat_len {m : Nat} {I : List Nat} : (List.replicate m I).flatten.length = m * I.length := by
  rw [List.length_flatten, List.map_replicate, List.sum_replicate_nat]
theorem stI_len {L : List Of} {s : St} (h : StOk L s) (hs : StS 6 s) : (stI s).length ≤ 108 := by
  match s, h, hs with
  | .run i m, h, hs => exact Nat.le_trans (runI_len (M := 6) h hs) (by decide)
  | .rnd rs m, ⟨h, m1⟩, ⟨l3, m6, hr⟩ =>
    have a := runsI_len (M := 6) h hr
    show (List.replicate m.toNat (runsI rs)).flatten.length ≤ 108
    rw [flat_len]
    exact Nat.le_trans (Nat.mul_le_mul (show m.toNat ≤ 6 by omega) (show (runsI rs).length ≤ 18 by omega)) (by decide)
theorem runsI_take {rs : List (Nat × Int)} {j : Nat} {r : Nat × Int} (h : rs[j]? = some r) : runsI (rs.take (j + 1)) = runsI (rs.take j) ++ runI r := by
  unfold runsI
  rw [List.take_add_one, h, List.flatMap_append]
  show _ ++ (runI r ++ []) = _
  rw [List.append_nil]
theorem ok_take {α : Type} {p : α → Prop} {l : List α} (h : ∀ x ∈ l, p x) (j : Nat) : ∀ x ∈ l.take j, p x := fun x hx => h x (List.mem_of_mem_take hx)
theorem c1_bd {k : Nat} {o : Of} (h : OfOk k o) (j : Nat) : -30 ≤ c1 o j ∧ c1 o j ≤ 30 := by
  have h1 := h.x0
  have h2 := h.x1
  have h3 := h.y0
  have h4 := h.y1
  unfold c1
  split
  · omega
  · split <;> omega
theorem n1_bd {k : Nat} {o : Of} (h : OfOk k o) (j : Nat) : 0 ≤ n1 o j ∧ n1 o j ≤ 30 := by
  have h1 := h.x0
  have h2 := h.x1
  unfold n1
  split <;> omega
theorem bc_bd {k : Nat} : ∀ {U : List Of}, (∀ o ∈ U, OfOk k o) → ∀ j : Nat, -(30 * (U.length : Int)) ≤ bc U j ∧ bc U j ≤ 30 * (U.length : Int)
  | [], _, j => by simp [bc]
  | o :: U, h, j => by
    have a := c1_bd (h o List.mem_cons_self) j
    have b := bc_bd (U := U) (fun o' e => h o' (List.mem_cons_of_mem _ e)) j
    show -(30 * ((U.length + 1 : Nat) : Int)) ≤ c1 o j + bc U j ∧ c1 o j + bc U j ≤ 30 * ((U.length + 1 : Nat) : Int)
    omega
theorem us_ok {k : Nat} {L : List Of} (ok : ∀ o ∈ L, OfOk k o) {I : List Nat} (h : ∀ i ∈ I, i < L.length) : ∀ o ∈ us L I, OfOk k o := fun o ho => by
  obtain ⟨i, hi, rfl⟩ := List.mem_map.mp ho
  exact ok _ (ofI_mem (h i hi))
theorem st_D {k : Nat} {L : List Of} (ok : ∀ o ∈ L, OfOk k o) {s : St} (h : StOk L s) (hs : StS 6 s) : StD L s := by
  match s, h, hs with
  | .run i m, h, _ => exact h.1
  | .rnd rs m, ⟨h, _⟩, ⟨l3, _, hr⟩ =>
    obtain ⟨e, hi⟩ := us_runs ok h
    have l := runsI_len (M := 6) h hr
    refine ⟨fun r hr => (h r hr).1, fun j => ?_⟩
    rw [← e]
    have b := bc_bd (us_ok ok hi) j
    have ll : (us L (runsI rs)).length = (runsI rs).length := by unfold us; rw [List.length_map]
    rw [ll] at b
    show -(18446744073709551616) < bc (us L (runsI rs)) j ∧ bc (us L (runsI rs)) j < 18446744073709551616
    omega
/-! ### what one way behind another needs and changes -/
def Tl.Ok (t : Tl) : Prop := ∀ j, 0 ≤ t.n j + t.c j
theorem Tl.ext {t u : Tl} (h1 : ∀ j, t.n j = u.n j) (h2 : ∀ j, t.c j = u.c j) : t = u := by
  obtain ⟨a, b⟩ := t
  obtain ⟨c, d⟩ := u
  have e1 : a = c := funext h1
  have e2 : b = d := funext h2
  rw [e1, e2]
theorem seq_assoc (t u v : Tl) : (t.seq u).seq v = t.seq (u.seq v) := by
  refine Tl.ext (fun j => ?_) fun j => ?_
  · show max (max (t.n j) (u.n j - t.c j)) (v.n j - (t.c j + u.c j)) = max (t.n j) (max (u.n j) (v.n j - u.c j) - t.c j)
    omega
  · show t.c j + u.c j + v.c j = t.c j + (u.c j + v.c j)
    omega
theorem seq_zero {t : Tl} (h : t.Ok) : t.seq Tl.zero = t := by
  refine Tl.ext (fun j => ?_) fun j => ?_
  · have := h j
    show max (t.n j) (0 - t.c j) = t.n j
    omega
  · exact Int.add_zero _
theorem fold_seq (L : List Of) (t u : Tl) : ∀ ss : List St, ss.foldl (fun t s => t.seq (stT L s)) (t.seq u) = t.seq (ss.foldl (fun t s => t.seq (stT L s)) u) := by
  intro ss
  induction ss generalizing u with
  | nil => rfl
  | cons s ss ih =>
    show ss.foldl _ ((t.seq u).seq (stT L s)) = t.seq (ss.foldl _ (u.seq (stT L s)))
    rw [seq_assoc, ih]
theorem seq_ok {t u : Tl} (h : t.Ok) (hu : u.Ok) : (t.seq u).Ok := fun j => by
  have := hu j
  show 0 ≤ max (t.n j) (u.n j - t.c j) + (t.c j + u.c j)
  omega
theorem run_okT {k : Nat} {o : Of} (h : OfOk k o) {m : Int} (m1 : 1 ≤ m) : (runT o m).Ok := fun j => by
  have x0 := h.x0
  have y0 := h.y0
  show 0 ≤ (if j = o.a then m * o.x else 0) + (if j = o.b then m * o.y else if j = o.a then -m * o.x else 0)
  have p1 : 0 ≤ m * o.x := Int.mul_nonneg (by omega) (by omega)
  have p2 : 0 ≤ m * o.y := Int.mul_nonneg (by omega) (by omega)
  rw [Int.neg_mul]
  split <;> split
  · omega
  · omega
  · omega
  · omega
theorem runs_okT {k : Nat} {L : List Of} (ok : ∀ o ∈ L, OfOk k o) {rs : List (Nat × Int)} (h : ∀ r ∈ rs, RunOk L r) : (runsT L rs).Ok := by
  suffices key : ∀ (rs : List (Nat × Int)) (t : Tl), t.Ok → (∀ r ∈ rs, RunOk L r) → (rs.foldl (fun t r => t.seq (runT (ofI L r.1) r.2)) t).Ok from key rs Tl.zero (fun j => by show 0 ≤ (0 : Int) + 0; omega) h
  intro rs
  induction rs with
  | nil => intro t ht _; exact ht
  | cons r rs ih =>
    intro t ht h
    have hr := h r List.mem_cons_self
    exact ih _ (seq_ok ht (run_okT (ok _ (ofI_mem hr.1)) hr.2)) fun r' e => h r' (List.mem_cons_of_mem _ e)
theorem rnd_okT {t : Tl} (h : t.Ok) (m : Int) : (t.rnd m).Ok := fun j => by
  have := h j
  show 0 ≤ max (t.n j) (t.n j - (m - 1) * t.c j) + m * t.c j
  rw [Int.sub_mul, Int.one_mul]
  omega
theorem st_okT {k : Nat} {L : List Of} (ok : ∀ o ∈ L, OfOk k o) {s : St} (h : StOk L s) : (stT L s).Ok := by
  match s, h with
  | .run i m, h => exact run_okT (ok _ (ofI_mem h.1)) h.2
  | .rnd rs m, h => exact rnd_okT (runs_okT ok h.1) m
theorem way_okT {k : Nat} {L : List Of} (ok : ∀ o ∈ L, OfOk k o) {ss : List St} (h : ∀ s ∈ ss, StOk L s) : (wayT L ss).Ok := by
  suffices key : ∀ (ss : List St) (t : Tl), t.Ok → (∀ s ∈ ss, StOk L s) → (ss.foldl (fun t s => t.seq (stT L s)) t).Ok from key ss Tl.zero (fun j => by show 0 ≤ (0 : Int) + 0; omega) h
  intro ss
  induction ss with
  | nil => intro t ht _; exact ht
  | cons r rs ih =>
    intro t ht h
    exact ih _ (seq_ok ht (st_okT ok (h r List.mem_cons_self))) fun r' e => h r' (List.mem_cons_of_mem _ e)
theorem one_T {k : Nat} {o : Of} (h : OfOk k o) : useT [o] = runT o 1 := by
  have := useT_run (o := o) (by have := h.x0; omega) (by have := h.y0; omega) h.ne (m := 1) (Nat.le_refl _)
  rw [show reps 1 [o] = [o] from rfl] at this
  exact this
theorem use_ok {k : Nat} {L : List Of} : ∀ {U : List Of}, (∀ o ∈ U, OfOk k o) → (useT U).Ok
  | [], _ => fun j => by show 0 ≤ (0 : Int) + 0; omega
  | o :: U, h => by
    have e : useT (o :: U) = (useT [o]).seq (useT U) := useT_app (U := [o]) fun o' e => by
      have := (h o' (List.mem_cons_of_mem _ e)).x0
      omega
    rw [e, one_T (h o List.mem_cons_self)]
    exact seq_ok (run_okT (h o List.mem_cons_self) (Int.le_refl _)) (use_ok (L := L) fun o' e => h o' (List.mem_cons_of_mem _ e))
theorem use_take {L : List Of} {I : List Nat} {t i : Nat} (h : I[t]? = some i) (hx : 0 ≤ (ofI L i).x) : useT (us L (I.take (t + 1))) = (useT (us L (I.take t))).seq (useT [ofI L i]) := by
  rw [List.take_add_one, h, show us L (I.take t ++ (some i).toList) = us L (I.take t) ++ [ofI L i] by unfold us; rw [List.map_append]; rfl]
  exact useT_app fun o e => by rw [List.mem_singleton.mp e]; exact hx
theorem use_mono {L : List Of} {I : List Nat} (hx : ∀ o ∈ us L I, 0 ≤ o.x) (t j : Nat) : (useT (us L (I.take t))).n j ≤ (useT (us L I)).n j := by
  have e : us L I = us L (I.take t) ++ us L (I.drop t) := by
    unfold us
    rw [← List.map_append, List.take_append_drop]
  have := useT_app (U := us L (I.take t)) (W := us L (I.drop t)) fun o h => hx o (by rw [e]; exact List.mem_append_right _ h)
  rw [e, this]
  exact Int.le_max_left _ _
theorem pickR {a b c : Addr} {r : Int} (h0 : 0 ≤ r) (h1 : r < 3) : ∃ z, [V.ref a, V.ref b, V.ref c][r.toNat]? = some (.ref z) ∧ (z = a ∨ z = b ∨ z = c) := by
  obtain rfl | rfl | rfl : r = 0 ∨ r = 1 ∨ r = 2 := by omega
  · exact ⟨a, rfl, .inl rfl⟩
  · exact ⟨b, rfl, .inr (.inl rfl)⟩
  · exact ⟨c, rfl, .inr (.inr rfl)⟩
/-- the steps found so far -/
def WyW (p l d U : Addr) (L : List Of) (steps times n M : Int) (many : Option V) (H : Hp) (i : Nat) (σ : L2.St) (H' : Hp) : Prop := ∃ (n' : Int) (es : List (Addr × St)) (v6 v7 : Option V), σ = [some (.ref p), some (.ref d), some (.int steps), some (.int times), many, some (.ref U), v6, v7, none] ∧ Deck H' p l n' ∧ n ≤ n' ∧ n' ≤ n + 1 + 12 * (i : Int) ∧ Fr p l H H' ∧
  H' U = some (.lst (es.map fun e => V.ref e.1)) ∧ es.length = i ∧ ∀ e ∈ es, StAt H' e.1 e.2 ∧ StOk L e.2 ∧ StS M e.2
theorem WyW.more {p l d U q : Addr} {L : List Of} {steps times n n' M : Int} {many : Option V} {H H7 : Hp} {i : Nat} {es : List (Addr × St)} {s : St} {v6 v7 : Option V} (hn : ∀ b o, H b = some o → b ≠ U) (Up : U ≠ p) (Ul : U ≠ l) (D : Deck H7 p l n') (n0 : n ≤ n') (n1 : n' ≤ n + 13 + 12 * (i : Int)) (f : Fr p l H H7)
    (hU : H7 U = some (.lst (es.map fun e => V.ref e.1))) (el : es.length = i) (old : ∀ e ∈ es, StAt H7 e.1 e.2 ∧ StOk L e.2 ∧ StS M e.2) (hq : StAt H7 q s) (h1 : StOk L s) (h2 : StS M s) :
    WyW p l d U L steps times n M many H (i + 1) [some (.ref p), some (.ref d), some (.int steps), some (.int times), many, some (.ref U), v6, v7, none] (upd H7 U (.lst ((es.map fun e => V.ref e.1) ++ [.ref q]))) := by
  have keep : ∀ b xs, H7 b = some (.tup xs) → upd H7 U (.lst ((es.map fun e => V.ref e.1) ++ [.ref q])) b = some (.tup xs) := fun b xs hb => by
    rw [upd_ne (ne_of hb hU (by intro q; cases q))]
    exact hb
  refine ⟨n', es ++ [(q, s)], v6, v7, rfl, ⟨by rw [upd_ne Up.symm]; exact D.hp, ?_⟩, n0, by omega, ?_, ?_, ?_, ?_⟩
  · obtain ⟨cells, q1, q2⟩ := D.hl
    exact ⟨cells, by rw [upd_ne Ul.symm]; exact q1, q2⟩
  · intro b o h1 h2 hb
    rw [upd_ne (hn b o hb)]
    exact f b o h1 h2 hb
  · rw [upd_same, List.map_append]
    rfl
  · rw [List.length_append, List.length_singleton, el]
  · intro e he
    rcases List.mem_append.mp he with he | he
    · exact ⟨(old e he).1.mono keep, (old e he).2⟩
    · rw [List.mem_singleton.mp he]
      exact ⟨hq.mono keep, h1, h2⟩
theorem runs_of {H : Hp} {es : List (Addr × (Nat × Int))} (h : ∀ e ∈ es, RunAt H e.1 e.2) : RunsAt H (es.map (·.1)) (es.map (·.2)) := by
  refine ⟨by rw [List.length_map, List.length_map], fun i q e => ?_⟩
  rw [List.getElem?_map] at e ⊢
  cases z : es[i]? with
  | none => rw [z] at e; cases e
  | some x =>
    rw [z] at e
    have := Option.some.inj e
    subst this
    exact ⟨x.2, rfl, h x (List.mem_of_getElem? z)⟩
theorem sts_of {H : Hp} {es : List (Addr × St)} (h : ∀ e ∈ es, StAt H e.1 e.2) : StsAt H (es.map (·.1)) (es.map (·.2)) := by
  refine ⟨by rw [List.length_map, List.length_map], fun i q e => ?_⟩
  rw [List.getElem?_map] at e ⊢
  cases z : es[i]? with
  | none => rw [z] at e; cases e
  | some x =>
    rw [z] at e
    have := Option.some.inj e
    subst this
    exact ⟨x.2, rfl, h x (List.mem_of_getElem? z)⟩
def sp_l_uses (_ : PySem.W.Frag) : Sp := fun vs H Q _ => ∃ (q : Addr) (L : List Of) (s : St), vs = [.ref q] ∧ StAt H q s ∧ StOk L s ∧ StS 6 s ∧
  ∀ H' u, H u = none → Same H H' → H' u = some (.lst ((ni (stI s)).map V.int)) → Q (.ref u) H'
theorem fresh_of {H H' : Hp} {b : Addr} (s : Same H H') (n : H' b = none) : H b = none := by
  cases e : H b with
  | none => rfl
  | some u =>
    rw [s _ _ e] at n
    cases n
section
variable {P : Program} {w : World} {K : PySem.W.Frag} {mg : Str → Option Value} {base : Heap}
abbrev s_l_way : Stmt := topS 13
abbrev N_l_way : List Str := ["_law_deck_here", "_law_board_here", "_law_steps", "_law_times", "_law_many", "_law_found", "_law_k", "_law_runs", "_law_j"]
theorem sc_l_way : FnScope N_l_way ["_law_deck_here", "_law_board_here", "_law_steps", "_law_times"] (defScope s_l_way) := ⟨rfl, rfl, rfl, by decide +kernel, rfl, by decide +kernel, by decide +kernel⟩
theorem ok_l_way (T : Txt mg) (D : Df K mg "_law_way" s_l_way ["_law_deck_here", "_law_board_here", "_law_steps", "_law_times"]) (C_l_draw : Cal P w K mg base "_law_draw" ["_law_deck_here", "_law_many"] 1 (sp_l_draw K)) : Cal P w K mg base "_law_way" ["_law_deck_here", "_law_board_here", "_law_steps", "_law_times"] 2 (sp_l_way K) := by
  obtain ⟨f_l_draw, fd_l_draw, G_l_draw, m_l_draw, k_l_draw, b_l_draw⟩ := C_l_draw
  refine D.cal sc_l_way (fun vs H Q E h => ?_) (fun f cdv A outer s H vs Q E hr h => ?_)
  · obtain ⟨p, l, d, n, k, L, steps, times, rfl, _⟩ := h
    rfl
  obtain ⟨p, l, d, n, k, L, steps, times, rfl, D0, n0, n1, B, l64, st0, st1, ti0, ti1, kk⟩ := h
  obtain ⟨t, qs, hd, ht, hL⟩ := id B
  have lm : (((qs.map V.ref).length : Nat) : Int) = (L.length : Int) := by rw [List.length_map, hL.1]
  refine ⟨_, (pss_cons (ps_asg (pe_tup (pa_cons (pe_callB call_len_seq (by rfl) T.n_len (by decide +kernel) (pa_cons (pe_ix ix_tup (pv 1) pe_int (fun _ _ => rfl)) pa_nil)) (pa_cons (pe_lst pa_nil) pa_nil))) (pg_tup (by rfl) (pgs_cons (pg_name (i := 4) sc_l_way.nd rfl (Or.inr rfl)) (pgs_cons (pg_name (i := 5) sc_l_way.nd rfl (Or.inl rfl)) pgs_nil))))
    (pss_cons (ps_for PassesOwn.never rfl (pi_range1 (by rfl) T.n_range (pa_cons (pe_op op_mul (pe_call G_l_draw (hr.mono (by decide)) (by rfl) m_l_draw k_l_draw b_l_draw .nil pass0 (pa_cons (pv 0) (pa_cons (pe_op op_add (pv 2) pe_int) pa_nil))) (pe_callTy call_int1 (by rfl) T.n_int (by decide +kernel) (pa_cons (pe_cmpR op_gt (pv 4) pe_int (nomark _)) pa_nil))) pa_nil)) (pg_name (i := 6) sc_l_way.nd rfl (Or.inl rfl))
      (pss_cons (ps_setLc (i := 7) (own := [("_law_j", 8)]) (g := gName 8) (tt := tYes) rfl sc_l_way.nd rfl rfl (sw_true rfl rfl rfl (by decide +kernel)) (pi_range1 (by rfl) T.n_range (pa_cons (pe_op op_add pe_int (pe_call G_l_draw (hr.mono (by decide)) (by rfl) m_l_draw k_l_draw b_l_draw .nil pass0 (pa_cons (pv 0) (pa_cons pe_int pa_nil)))) pa_nil)) (blkOk_by (own := [("_law_j", 8)]) (N := N_l_way) (sc := defScope s_l_way) (by decide +kernel)) (fun _ _ _ _ _ => pg_name (i := 8) sc_l_way.nd rfl (Or.inl rfl)) (fun _ _ _ _ _ => pts_nil) (fun _ _ _ _ _ => (pe_tup (pa_cons (pe_call G_l_draw (hr.mono (by decide)) (by rfl) m_l_draw k_l_draw b_l_draw .nil pass0 (pa_cons (pv 0) (pa_cons (pv 4) pa_nil))) (pa_cons (pe_op op_add pe_int (pe_call G_l_draw (hr.mono (by decide)) (by rfl) m_l_draw k_l_draw b_l_draw .nil pass0 (pa_cons (pv 0) (pa_cons (pv 3) pa_nil)))) pa_nil)))))
    (pss_one (ps_expr (pe_bm PySem.F.plainAttrs_list PySem.F.slot_list_append PySem.F.type_list_append mt_append (pv 5) (pa_cons (pe_ix ix_list (pe_lst (pa_cons (pe_ix ix_list (pv 7) pe_int (fun _ _ => rfl)) (pa_cons (pe_ix ix_list (pv 7) pe_int (fun _ _ => rfl)) (pa_cons (pe_tup (pa_cons (pe_callTy call_tuple_of (by rfl) T.n_tuple (by decide +kernel) (pa_cons (pv 7) pa_nil)) (pa_cons (pe_op op_add pe_int (pe_call G_l_draw (hr.mono (by decide)) (by rfl) m_l_draw k_l_draw b_l_draw .nil pass0 (pa_cons (pv 0) (pa_cons (pv 3) pa_nil)))) pa_nil))) pa_nil)))) (pe_call G_l_draw (hr.mono (by decide)) (by rfl) m_l_draw k_l_draw b_l_draw .nil pass0 (pa_cons (pv 0) (pa_cons pe_int pa_nil))) (fun _ _ => rfl)) pa_nil))))))
    (pss_one (ps_ret (pe_callTy call_tuple_of (by rfl) T.n_tuple (by decide +kernel) (pa_cons (pv 5) pa_nil)))))), ?_⟩
  refine ⟨_, rfl, _, _, _, _, rfl, rfl, SqT.of hd, atI_nat (j := 1) rfl, _, _, rfl, .inr (SqT.of ht), (by show 0 ≤ sizeLine; decide), fun U nU => ⟨(by show 2 ≤ sizeLine; decide), fun tt ntt => ?_⟩⟩
  have sU := same_upd (o := .lst []) nU
  have stt := same_upd (o := .tup [.int (((qs.map V.ref).length : Nat) : Int), .ref U]) ntt
  obtain ⟨Up, Ul⟩ := D0.lne nU
  have hn : ∀ b o, H b = some o → b ≠ U := fun b o hb => ne_of_none hb nU
  refine ⟨tt, _, rfl, SqT.of upd_same, rfl, _, _, rfl, _, _, rfl, rfl, ?_⟩
  have sa := sU.trans stt
  have hU1 : upd (upd H U (.lst [])) tt (.tup [.int (((qs.map V.ref).length : Nat) : Int), .ref U]) U = some (.lst []) := stt _ _ upd_same
  have D1 := D0.same sa
  generalize upd (upd H U (.lst [])) tt (.tup [.int (((qs.map V.ref).length : Nat) : Int), .ref U]) = H1 at sa hU1 D1 ⊢
  clear stt sU ntt nU
  refine ⟨_, rfl, _, rfl, _, _, rfl, rfl, p, l, n, _, rfl, D1, n0, by omega, by omega, by omega, fun r H2 r0 r1 f2 D2 => ?_⟩
  refine ⟨_, rfl, _, _, rfl, rfl, .inr ⟨_, rfl, _, _, rfl, rfl, .inl ⟨by omega, by omega⟩, ?_⟩⟩
  obtain ⟨N, hN, hN2, hN1⟩ : ∃ N : Nat, r * (if decide ((((qs.map V.ref).length : Nat) : Int) > 0) = true then 1 else 0) = (N : Int) ∧ (0 < N → 0 < L.length) ∧ N ≤ 10 := by
    by_cases q : (((qs.map V.ref).length : Nat) : Int) > 0
    · rw [decide_eq_true q, if_pos rfl, Int.mul_one]
      exact ⟨r.toNat, by omega, by omega, by omega⟩
    · rw [decide_eq_false q, if_neg Bool.false_ne_true, Int.mul_zero]
      exact ⟨0, rfl, by omega, by omega⟩
  refine ⟨r * (if decide ((((qs.map V.ref).length : Nat) : Int) > 0) = true then 1 else 0), rfl, (by rw [hN]; omega), (by rw [hN]; omega), ?_⟩
  refine for_range (lo := 0) (n := _) (WyW p l d U L steps times n times (some (.int (((qs.map V.ref).length : Nat) : Int))) H)
    ⟨n + 1, [], none, none, rfl, D2, by omega, by omega, (Same.fr sa).trans f2, f2 U _ Up Ul hU1, rfl, fun e he => nomatch he⟩ ?_ ?_
  · rintro i σ H3 hi ⟨n', es, v6, v7, rfl, D3, m0, m1, f3, hU, el, hes⟩
    have hi : i < (r * (if decide ((((qs.map V.ref).length : Nat) : Int) > 0) = true then 1 else 0)).toNat := hi
    rw [hN] at hi
    have hi : i < N := by omega
    have Lpos := hN2 (by omega)
    refine ⟨_, rfl, p, l, n', 3, rfl, D3, by omega, by omega, by decide, by decide, fun rc H4 c0 c1 f4 D4 => ?_⟩
    refine ⟨_, _, rfl, rfl, _, rfl, (by omega), (by omega), fun R nR => ?_⟩
    obtain ⟨Rp, Rl⟩ := D4.lne nR
    have sR := same_upd (o := .lst []) nR
    have hnR : ∀ b o, H4 b = some o → b ≠ R := fun b o hb => ne_of_none hb nR
    refine lc_range (lo := 0) (n := _) (fun j H' => ∃ (n2 : Int) (rs : List (Addr × (Nat × Int))), Fr p l H4 H' ∧ Deck H' p l n2 ∧ n' + 1 ≤ n2 ∧ n2 ≤ n' + 1 + 2 * (j : Int) ∧ H' R = some (.lst (rs.map fun e => V.ref e.1)) ∧ rs.length = j ∧ ∀ e ∈ rs, RunAt H' e.1 e.2 ∧ RunOk L e.2 ∧ e.2.2 ≤ times)
      ⟨n' + 1, [], Same.fr sR, D4.same sR, by omega, by omega, upd_same, rfl, fun e he => nomatch he⟩ ?_ ?_
    · rintro j H5 hj ⟨n2, rs, f5, D5, q0, q1, hR, rl, hrs⟩
      have hj : j < (1 + rc).toNat := hj
      refine ⟨rfl, ?_⟩
      unfold tYes
      refine iteT ?_
      refine ⟨_, rfl, _, rfl, p, l, n2, _, rfl, D5, by omega, by omega, by omega, by omega, fun ri H6 i0 i1 f6 D6 => ?_⟩
      refine ⟨_, rfl, _, rfl, p, l, n2 + 1, _, rfl, D6, by omega, by omega, by omega, by omega, fun rt H7 t0 t1 f7 D7 => ?_⟩
      refine ⟨_, _, rfl, rfl, (by show 2 ≤ sizeLine; decide), fun q nq => ?_⟩
      have sq := same_upd (o := .tup [.int ri, .int (1 + rt)]) nq
      have hR7 := f7 R _ Rp Rl (f6 R _ Rp Rl hR)
      have hRq := sq _ _ hR7
      have fall := f5.trans (f6.trans (f7.trans (Same.fr sq)))
      refine ⟨_, hRq, ?_, n2 + 1 + 1, rs ++ [(q, (ri.toNat, 1 + rt))], fun b o h1 h2 hb => ?_, ⟨?_, ?_⟩, by omega, by omega, ?_, ?_, fun e he => ?_⟩
      · rw [List.length_map, rl]
        exact Nat.lt_of_le_of_lt (show j ≤ 4 by omega) (by decide)
      · rw [upd_ne (hnR b o hb)]
        exact fall b o h1 h2 hb
      · rw [upd_ne Rp.symm]
        exact (D7.same sq).hp
      · obtain ⟨cells, q1, q2⟩ := (D7.same sq).hl
        exact ⟨cells, by rw [upd_ne Rl.symm]; exact q1, q2⟩
      · rw [upd_same, List.map_append]
        rfl
      · rw [List.length_append, List.length_singleton, rl]
      · have keep : ∀ b xs, upd H7 q (.tup [.int ri, .int (1 + rt)]) b = some (.tup xs) → upd (upd H7 q (.tup [.int ri, .int (1 + rt)])) R (.lst (rs.map (fun e => V.ref e.1) ++ [.ref q])) b = some (.tup xs) := fun b xs hb => by
          rw [upd_ne (ne_of hb hRq (by intro q; cases q))]
          exact hb
        rcases List.mem_append.mp he with he | he
        · exact ⟨keep _ _ (sq _ _ (f7.tup D6 (f6.tup D5 (hrs e he).1))), (hrs e he).2⟩
        · rw [List.mem_singleton.mp he]
          refine ⟨keep _ _ ?_, ⟨by show ri.toNat < L.length; omega, by show 1 ≤ 1 + rt; omega⟩, by show 1 + rt ≤ times; omega⟩
          show upd H7 q (.tup [.int ri, .int (1 + rt)]) q = some (.tup [.int (ri.toNat : Int), .int (1 + rt)])
          rw [upd_same, Int.toNat_of_nonneg i0]
    · rintro H5 ⟨n2, rs, f5, D5, q0, q1, hR, rl, hrs⟩
      obtain ⟨e0, rest, ers⟩ : ∃ e0 rest, rs = e0 :: rest := by
        cases rs with
        | nil => exact absurd rl (by show 0 ≠ _; omega)
        | cons a b => exact ⟨a, b, rfl⟩
      have h0 : (rs.map fun e => V.ref e.1)[0]? = some (.ref e0.1) := by rw [ers]; rfl
      have r0' := hrs e0 (by rw [ers]; exact List.mem_cons_self)
      have hU5 := f5 U _ Up Ul (f4 U _ Up Ul hU)
      refine ⟨_, rfl, .inl ⟨rfl, _, SqL.of hU5⟩, ?_⟩
      refine ⟨_, rfl, _, _, _, _, rfl, rfl, SqL.of hR, atI_nat (j := 0) h0, _, rfl, _, _, _, _, rfl, rfl, SqL.of hR, atI_nat (j := 0) h0, _, rfl, _, _, rfl, .inl ⟨SqL.of hR, fun T nT => ?_⟩⟩
      have sT := same_upd (o := .tup (rs.map fun e => V.ref e.1)) nT
      refine ⟨_, rfl, _, rfl, p, l, n2, _, rfl, D5.same sT, by omega, by omega, by omega, by omega, fun rm H6 e0' e1' f6 D6 => ?_⟩
      refine ⟨_, _, rfl, rfl, (by show 2 ≤ sizeLine; decide), fun q nq => ⟨(by show 3 ≤ sizeLine; decide), fun W nW => ?_⟩⟩
      have sq := same_upd (o := .tup [.ref T, .int (1 + rm)]) nq
      have sW := same_upd (o := .lst [.ref e0.1, .ref e0.1, .ref q]) nW
      obtain ⟨Wp, Wl⟩ := (D6.same sq).lne nW
      refine ⟨_, rfl, p, l, n2 + 1, 3, rfl, (D6.same sq).same sW, by omega, by omega, by decide, by decide, fun r3 H7 g0 g1 f7 D7 => ?_⟩
      obtain ⟨z, hz, zz⟩ := pickR (a := e0.1) (b := e0.1) (c := q) g0 g1
      have hU7 := f7 U _ Up Ul (sW _ _ (sq _ _ (f6 U _ Up Ul (sT _ _ hU5))))
      refine ⟨_, _, _, _, rfl, rfl, SqL.of (f7 W _ Wp Wl upd_same), at_of (j := r3.toNat) (by omega) hz, U, _, _, rfl, rfl, hU7, ?_, ?_⟩
      · rw [List.length_map, el]
        exact Nat.lt_of_le_of_lt (show i ≤ 10 by omega) (by decide)
      have D6q := (D6.same sq).same sW
      have kp : ∀ b xs, H5 b = some (.tup xs) → H7 b = some (.tup xs) := fun b xs hb => f7.tup D6q (sW _ _ (sq _ _ (f6.tup (D5.same sT) (sT _ _ hb))))
      have kp3 : ∀ b xs, H3 b = some (.tup xs) → H7 b = some (.tup xs) := fun b xs hb => kp _ _ (f5.tup D4 (f4.tup D3 hb))
      have hcnt : rs.length = (1 + rc).toNat := rl
      have fin : ∀ st : St, StAt H7 z st → StOk L st → StS times st → _ := fun st h1 h2 h3 => WyW.more (d := d) (steps := steps) (times := times) (M := times) (many := some (.int (((qs.map V.ref).length : Nat) : Int))) (v6 := some (.int (0 + (i : Int)))) (v7 := some (.ref R)) hn Up Ul D7 (show n ≤ n2 + 1 + 1 by omega) (show n2 + 1 + 1 ≤ n + 13 + 12 * (i : Int) by omega)
        (f3.trans (f4.trans (f5.trans ((Same.fr sT).trans (f6.trans ((Same.fr sq).trans ((Same.fr sW).trans f7))))))) hU7 el (fun e he => ⟨(hes e he).1.mono kp3, (hes e he).2⟩) h1 h2 h3
      rcases zz with rfl | rfl | rfl
      · exact fin (.run e0.2.1 e0.2.2) (kp _ _ r0'.1) r0'.2.1 r0'.2.2
      · exact fin (.run e0.2.1 e0.2.2) (kp _ _ r0'.1) r0'.2.1 r0'.2.2
      · refine fin (.rnd (rs.map (·.2)) (1 + rm)) ⟨T, rs.map (·.1), f7.tup D6q (sW _ _ upd_same), ?_, runs_of fun e he => kp _ _ (hrs e he).1⟩ ⟨fun r' hr' => ?_, by omega⟩ ⟨by rw [List.length_map]; omega, by omega, fun r' hr' => ?_⟩
        · have := f7.tup D6q (sW _ _ (sq _ _ (f6.tup (D5.same sT) (show upd H5 T (.tup (rs.map fun e => V.ref e.1)) T = some (.tup (rs.map fun e => V.ref e.1)) from upd_same))))
          rw [List.map_map]
          exact this
        · obtain ⟨e, he, rfl⟩ := List.mem_map.mp hr'
          exact (hrs e he).2.1
        · obtain ⟨e, he, rfl⟩ := List.mem_map.mp hr'
          exact (hrs e he).2.2
  · rintro σ H3 ⟨n', es, v6, v7, rfl, D3, m0, m1, f3, hU, el, hes⟩
    rw [hN] at el m1
    refine ⟨_, rfl, _, _, rfl, .inl ⟨SqL.of hU, fun w nw => ?_⟩⟩
    have sw := same_upd (o := .tup (es.map fun e => V.ref e.1)) nw
    refine kk _ w (es.map (·.2)) n' (f3.trans (Same.fr sw)) (D3.same sw) (by omega) (by omega) ⟨es.map (·.1), by rw [upd_same, List.map_map]; rfl, sts_of fun e he => (hes e he).1.mono fun b xs hb => sw _ _ hb⟩ (fun s hs => ?_) (by rw [List.length_map]; omega)
    obtain ⟨e, he, rfl⟩ := List.mem_map.mp hs
    exact (hes e he).2
abbrev s_l_uses : Stmt := topS 14
abbrev N_l_uses : List Str := ["_law_step", "_law_found", "_law_index", "_law_times"]
theorem sc_l_uses : FnScope N_l_uses ["_law_step"] (defScope s_l_uses) := ⟨rfl, rfl, rfl, by decide +kernel, rfl, by decide +kernel, by decide +kernel⟩
theorem ok_l_uses (T : Txt mg) (D : Df K mg "_law_uses" s_l_uses ["_law_step"]) : Cal P w K mg base "_law_uses" ["_law_step"] 1 (sp_l_uses K) := by
  refine D.cal sc_l_uses (fun vs H Q E h => ?_) (fun f cdv A outer s H vs Q E hr h => ?_)
  · obtain ⟨q, L, s, rfl, _⟩ := h
    rfl
  obtain ⟨q, L, st, rfl, hq, hok, hs, kk⟩ := h
  refine ⟨_, (pss_cons (ps_if (pt_not (pt_val (pe_callB call_isi (by rfl) T.n_isinstance (by decide +kernel) (pa_cons (pe_ix ix_tup (pv 0) pe_int (fun _ _ => rfl)) (pa_cons (pe_bltn (v := .ty "tuple") (by rfl) T.n_tuple (by decide +kernel) rfl) pa_nil))))) (pss_one (ps_ret (pe_op op_rep (pe_lst (pa_cons (pe_ix ix_tup (pv 0) pe_int (fun _ _ => rfl)) pa_nil)) (pe_ix ix_tup (pv 0) pe_int (fun _ _ => rfl))))) pss_nil)
    (pss_cons (ps_set (i := 1) sc_l_uses.nd rfl (Or.inl rfl) (pe_lst pa_nil))
    (pss_cons (ps_for PassesOwn.never rfl (pi_tup (pe_ix ix_tup (pv 0) pe_int (fun _ _ => rfl))) (pg_tup (by rfl) (pgs_cons (pg_name (i := 2) sc_l_uses.nd rfl (Or.inl rfl)) (pgs_cons (pg_name (i := 3) sc_l_uses.nd rfl (Or.inl rfl)) pgs_nil)))
      (pss_one (ps_expr (pe_bm PySem.F.plainAttrs_list PySem.F.slot_list_extend PySem.F.type_list_extend mt_extend (pv 1) (pa_cons (pe_op op_rep (pe_lst (pa_cons (pv 2) pa_nil)) (pv 3)) pa_nil)))))
    (pss_one (ps_ret (pe_op op_rep (pv 1) (pe_ix ix_tup (pv 0) pe_int (fun _ _ => rfl)))))))), ?_⟩
  cases st with
  | run i m =>
    have hq : H q = some (.tup [.int (i : Int), .int m]) := hq
    have m1 : 1 ≤ m := hok.2
    have m2 : m ≤ 6 := hs
    refine ⟨_, rfl, _, _, _, _, rfl, rfl, SqT.of hq, atI_nat (j := 0) rfl, _, _, _, _, _, rfl, .ty "tuple", .base (.int _), kit_ty (b := "tuple") (r := false) (by decide +kernel), _, rfl, iteT ?_⟩
    refine ⟨_, rfl, _, _, _, _, rfl, rfl, SqT.of hq, atI_nat (j := 0) rfl, (by show 1 ≤ sizeLine; decide), fun z nz => ?_⟩
    have sz := same_upd (o := .lst [.int (i : Int)]) nz
    refine ⟨_, rfl, _, _, _, _, rfl, rfl, SqT.of (sz _ _ hq), atI_nat (j := 1) rfl, z, m, _, rfl, rfl, upd_same, by omega, by omega, (by show 1 * m.toNat ≤ sizeLine; exact Nat.le_trans (by omega : 1 * m.toNat ≤ 6) (by decide)), fun W nW => ?_⟩
    exact kk _ W (fresh_of sz nW) (sz.trans (same_upd nW)) (by rw [upd_same, rep_ints]; rfl)
  | rnd rs m =>
    obtain ⟨t, qs, hq, ht, hR⟩ := hq
    obtain ⟨rok, m1⟩ := hok
    obtain ⟨l3, m2, rm⟩ := hs
    refine ⟨_, rfl, _, _, _, _, rfl, rfl, SqT.of hq, atI_nat (j := 0) rfl, _, _, _, _, _, rfl, .ty "tuple", .base (.tup ht), kit_ty (b := "tuple") (r := true) (by decide +kernel), _, rfl, iteF ?_⟩
    refine ⟨(by show 0 ≤ sizeLine; decide), fun O nO => ?_⟩
    have sO := same_upd (o := .lst []) nO
    refine ⟨_, rfl, _, _, _, _, rfl, rfl, SqT.of (sO _ _ hq), atI_nat (j := 0) rfl, t, rfl, ⟨_, SqT.of (sO _ _ ht)⟩, ?_⟩
    refine for_tup (K := K) (a := t) (xs := qs.map V.ref) (fun j2 σ H' => ∃ v2 v3 : Option V, σ = [some (.ref q), some (.ref O), v2, v3] ∧ Same H H' ∧ H' O = some (.lst ((ni (runsI (rs.take j2))).map V.int)))
      ⟨none, none, rfl, sO, upd_same⟩ (fun j2 σ H' _ h => by obtain ⟨_, _, _, s', _⟩ := h; exact SqT.of (s' _ _ ht)) ?_ ?_
    · rintro j2 x σ H3 hx ⟨v2, v3, rfl, s3, hO3⟩
      rw [List.getElem?_map] at hx
      cases e : qs[j2]? with
      | none => rw [e] at hx; cases hx
      | some q2 =>
        rw [e] at hx
        have ex : x = .ref q2 := (Option.some.inj hx).symm
        subst ex
        obtain ⟨⟨i, mm⟩, hr2, hq2⟩ := hR.2 j2 q2 e
        have hq2 : H q2 = some (.tup [.int (i : Int), .int mm]) := hq2
        have mem2 := List.mem_of_getElem? hr2
        have ok2 := rok _ mem2
        have mm1 : 1 ≤ mm := ok2.2
        have mm2 : mm ≤ 6 := rm _ mem2
        have lr := runsI_len (M := 6) (ok_take rok j2) (ok_take rm j2)
        have lr3 : (rs.take j2).length ≤ 3 := by rw [List.length_take]; omega
        refine ⟨q2, _, rfl, SqT.of (s3 _ _ hq2), rfl, _, _, rfl, _, _, rfl, rfl, ?_⟩
        refine ⟨_, rfl, .inl ⟨rfl, _, SqL.of hO3⟩, ?_⟩
        refine ⟨_, rfl, (by show 1 ≤ sizeLine; decide), fun z2 nz2 => ?_⟩
        have sz2 := same_upd (o := .lst [.int (i : Int)]) nz2
        refine ⟨_, rfl, z2, mm, _, rfl, rfl, upd_same, by omega, by omega, (by show 1 * mm.toNat ≤ sizeLine; exact Nat.le_trans (by omega : 1 * mm.toNat ≤ 50) (by decide)), fun W nW => ?_⟩
        have sW := same_upd (o := .lst (List.replicate mm.toNat [V.int (i : Int)]).flatten) nW
        have hW : upd (upd H3 z2 (.lst [.int (i : Int)])) W (.lst (List.replicate mm.toNat [V.int (i : Int)]).flatten) W = some (.lst ((ni (runI (i, mm))).map V.int)) := by rw [upd_same, rep_ints]; rfl
        refine ⟨O, W, _, _, rfl, rfl, sW _ _ (sz2 _ _ hO3), hW, ?_, _, _, rfl, fun b o e' => ?_, ?_⟩
        · have := runI_len (M := 6) ok2 mm2
          rw [ni_len, ni_len]
          exact Nat.le_trans (show (runsI (rs.take j2)).length + (runI (i, mm)).length ≤ 1000 by omega) (by decide)
        · rw [upd_ne (ne_of_none e' nO)]
          exact sW _ _ (sz2 _ _ (s3 _ _ e'))
        · rw [upd_same, runsI_take hr2, ni_app]
    · rintro σ H3 ⟨v2, v3, rfl, s3, hO3⟩
      rw [List.length_map, hR.1, List.take_length] at hO3
      have lr := runsI_len (M := 6) rok rm
      refine ⟨_, rfl, _, rfl, _, _, _, _, rfl, rfl, SqT.of (s3 _ _ hq), atI_nat (j := 1) rfl, O, m, _, rfl, rfl, hO3, by omega, by omega, ?_, fun W nW => ?_⟩
      · rw [ni_len]
        have : (runsI rs).length * m.toNat ≤ 18 * 6 := Nat.mul_le_mul (by omega) (by omega)
        exact Nat.le_trans this (by decide)
      exact kk _ W (fresh_of s3 nW) (s3.trans (same_upd nW)) (by rw [upd_same, rep_list]; rfl)
end
end Sm

set_option Elab.async false
set_option linter.all false
set_option maxRecDepth 100000
set_option maxHeartbeats 16000000
namespace Sm
open PySem PySem.Spec PyProof.Rows L2
open C8 (pss_cut tCut)
def sp_l_walked (_ : PySem.W.Frag) : Sp := fun vs H Q _ => ∃ (d a w : Addr) (k : Nat) (L : List Of) (ss : List St) (am : Nat → Int), vs = [.ref d, .ref a, .ref w] ∧ BoardAt H d k L ∧ (∀ o ∈ L, OfOk k o) ∧ k ≤ 4 ∧ H a = some (.tup ((vec k am).map V.int)) ∧ WayAt H w ss ∧ (∀ s ∈ ss, StOk L s ∧ StS 6 s) ∧ ss.length ≤ 1000 ∧ (∀ i, i < k → 0 ≤ am i) ∧
  ∀ H' p o, Same H H' → Out k L ss am o → OAt H' p o → Q (.ref p) H'
def sp_l_tight (_ : PySem.W.Frag) : Sp := fun vs H Q _ => ∃ (p l d w : Addr) (n : Int) (k : Nat) (L : List Of) (ss : List St), vs = [.ref p, .ref d, .ref w] ∧ Deck H p l n ∧ 0 ≤ n ∧ n ≤ 900000 ∧ BoardAt H d k L ∧ (∀ o ∈ L, OfOk k o) ∧ k ≤ 4 ∧ WayAt H w ss ∧ (∀ s ∈ ss, StOk L s ∧ StS 6 s) ∧ ss.length ≤ 10 ∧
  ∀ H' q g n', Fr p l H H' → Deck H' p l n' → n ≤ n' → n' ≤ n + 1080 → H' q = some (.tup ((vec k g).map V.int)) → (∀ i, i < k → 0 ≤ g i ∧ g i ≤ 32400) → Q (.ref q) H'
section
variable {P : Program} {w : World} {K : PySem.W.Frag} {mg : Str → Option Value} {base : Heap}
abbrev s_l_walked : Stmt := topS 15
abbrev N_l_walked : List Str := ["_law_board_here", "_law_purse", "_law_way_here", "_law_amounts", "_law_place", "_law_step", "_law_index", "_law_a", "_law_x", "_law_b", "_law_y"]
theorem sc_l_walked : FnScope N_l_walked ["_law_board_here", "_law_purse", "_law_way_here"] (defScope s_l_walked) := ⟨rfl, rfl, rfl, by decide +kernel, rfl, by decide +kernel, by decide +kernel⟩
theorem ok_l_walked (T : Txt mg) (D : Df K mg "_law_walked" s_l_walked ["_law_board_here", "_law_purse", "_law_way_here"]) (C_l_uses : Cal P w K mg base "_law_uses" ["_law_step"] 1 (sp_l_uses K)) : Cal P w K mg base "_law_walked" ["_law_board_here", "_law_purse", "_law_way_here"] 2 (sp_l_walked K) := by
  obtain ⟨f_l_uses, fd_l_uses, G_l_uses, m_l_uses, k_l_uses, b_l_uses⟩ := C_l_uses
  refine D.cal sc_l_walked (fun vs H Q E h => ?_) (fun f cdv A outer s H vs Q E hr h => ?_)
  · obtain ⟨d, a, w, k, L, ss, am, rfl, _⟩ := h
    rfl
  obtain ⟨d, a, w, k, L, ss, am, rfl, B, ok, k4, ha, W, hs, sl, am0, kk⟩ := h
  obtain ⟨t, qs, hd, ht, hL⟩ := id B
  obtain ⟨ws, hw, hS⟩ := id W
  have ln : ∀ f : Nat → Int, ((vec k f).map V.int).length = k := fun f => by rw [List.length_map, vec_len]
  have lw : (ws.map V.ref).length = ss.length := by rw [List.length_map, hS.1]
  refine ⟨_, (pss_cons (ps_set (i := 3) sc_l_walked.nd rfl (Or.inl rfl) (pe_callTy call_list_of (by rfl) T.n_list (by decide +kernel) (pa_cons (pv 1) pa_nil)))
    (pss_cons (ps_for PassesOwn.never rfl (pi_enumT (by rfl) T.n_enumerate (pa_cons (pv 2) pa_nil)) (pg_tup (by rfl) (pgs_cons (pg_name (i := 4) sc_l_walked.nd rfl (Or.inl rfl)) (pgs_cons (pg_name (i := 5) sc_l_walked.nd rfl (Or.inl rfl)) pgs_nil)))
      (pss_one (ps_for PassesOwn.never rfl (pi_list (pe_call G_l_uses (hr.mono (by decide)) (by rfl) m_l_uses k_l_uses b_l_uses .nil pass0 (pa_cons (pv 5) pa_nil))) (pg_name (i := 6) sc_l_walked.nd rfl (Or.inl rfl))
      (pss_cons (ps_asg (pe_ix ix_tup (pe_ix ix_tup (pv 0) pe_int (fun _ _ => rfl)) (pv 6) (fun _ _ => rfl)) (pg_tup (by rfl) (pgs_cons (pg_name (i := 7) sc_l_walked.nd rfl (Or.inl rfl)) (pgs_cons (pg_name (i := 8) sc_l_walked.nd rfl (Or.inl rfl)) (pgs_cons (pg_name (i := 9) sc_l_walked.nd rfl (Or.inl rfl)) (pgs_cons (pg_name (i := 10) sc_l_walked.nd rfl (Or.inl rfl)) pgs_nil))))))
    (pss_cons (ps_if (pt_cmpR op_lt (pe_ix ix_list (pv 3) (pv 7) (fun _ _ => rfl)) (pv 8) (nomark _)) (pss_one (ps_ret (pe_lst (pa_cons (pv 4) pa_nil)))) pss_nil)
    (pss_cut (ps_asg (pe_op op_sub (pe_ix ix_list (pv 3) (pv 7) (fun _ _ => rfl)) (pv 8)) (pg_sub (pv 3) (pv 7) set_list))
    (pss_one (ps_asg (pe_op op_add (pe_ix ix_list (pv 3) (pv 9) (fun _ _ => rfl)) (pv 10)) (pg_sub (pv 3) (pv 9) set_list)))))))))
    (pss_one (ps_ret (pe_callTy call_tuple_of (by rfl) T.n_tuple (by decide +kernel) (pa_cons (pv 3) pa_nil)))))), ?_⟩
  refine ⟨_, rfl, _, _, rfl, .inr (SqT.of ha), fun U nU => ?_⟩
  have sU := same_upd (o := .lst ((vec k am).map V.int)) nU
  refine ⟨_, rfl, w, _, rfl, SqT.of (sU _ _ hw), ?_⟩
  refine for_it (walk_enumT (K := K) (a := w) (xs := ws.map V.ref)) (fun j σ H' => ∃ v4 v5 v6 v7 v8 v9 v10 : Option V, σ = [some (.ref d), some (.ref a), some (.ref w), some (.ref U), v4, v5, v6, v7, v8, v9, v10] ∧ Same H H' ∧ H' U = some (.lst ((vec k fun i => am i + (wayT L (ss.take j)).c i).map V.int)) ∧ Cov k L (ss.take j) am)
    ⟨none, none, none, none, none, none, none, rfl, sU, ?_, fun i hi => am0 i hi⟩ (fun j σ H' _ h => by obtain ⟨_, _, _, _, _, _, _, _, s', _⟩ := h; exact SqT.of (s' _ _ hw)) ?_ ?_
  · rw [upd_same, show (fun i => am i + (wayT L (ss.take 0)).c i) = am from funext fun i => Int.add_zero _]
  · rintro j x σ H2 H2' hj ⟨v4, v5, v6, v7, v8, v9, v10, rfl, s2, hU, cv⟩ ⟨T', x1, y, rfl, hT, rfl, hx1, hy⟩
    have hx1 := (Option.some.inj hx1).symm
    subst hx1
    have hy : (ws.map V.ref)[j]? = some y := hy
    rw [List.getElem?_map] at hy
    rw [lw] at hj
    cases e : ws[j]? with
    | none => rw [e] at hy; cases hy
    | some q =>
      rw [e] at hy
      have ey : y = .ref q := (Option.some.inj hy).symm
      subst ey
      obtain ⟨st, hst, hq⟩ := hS.2 j q e
      have hh := hs st (List.mem_of_getElem? hst)
      have sT := same_upd (o := .tup [.int (j : Int), .ref q]) hT
      refine ⟨T', _, rfl, SqT.of upd_same, rfl, _, _, rfl, _, _, rfl, rfl, ?_⟩
      refine ⟨_, rfl, q, L, st, rfl, (hq.mono fun b xs e => sT _ _ (s2 _ _ e)), hh.1, hh.2, fun H5 u nu s5 hu => ?_⟩
      obtain ⟨eT, hI⟩ := us_st ok hh.1
      have hx := us_x ok hI
      have oks := us_ok ok hI
      have cs := cov_step (k := k) (L := L) hst cv
      have wk := way_okT ok (ss := ss.take j) (fun s h => (hs s (List.mem_of_mem_take h)).1)
      have tk := wayT_take (L := L) hst
      have s25 := s2.trans (sT.trans s5)
      have hU5 := s5 _ _ (sT _ _ hU)
      have uU : u ≠ U := fun e => by
        rw [e, sT _ _ hU] at nu
        cases nu
      obtain ⟨I, hIe⟩ : ∃ I, I = stI st := ⟨_, rfl⟩
      rw [← hIe] at hu hI eT hx oks
      obtain ⟨bj, hbj⟩ : ∃ f : Nat → Int, f = fun i => am i + (wayT L (ss.take j)).c i := ⟨_, rfl⟩
      rw [← hbj] at hU5
      have bj0 : ∀ i, i < k → 0 ≤ bj i := fun i hi => by
        have h1 := cv i hi
        have h2 := wk i
        rw [hbj]
        show 0 ≤ am i + (wayT L (ss.take j)).c i
        omega
      refine ⟨u, rfl, ⟨_, SqL.of hu⟩, ?_⟩
      refine for_list (K := K) (a := u) (xs := (ni I).map V.int) (fun n σ H' => ∃ v6 v7 v8 v9 v10 : Option V, σ = [some (.ref d), some (.ref a), some (.ref w), some (.ref U), some (.int (j : Int)), some (.ref q), v6, v7, v8, v9, v10] ∧ Same H H' ∧ H' u = some (.lst ((ni I).map V.int)) ∧ H' U = some (.lst ((vec k fun i => bj i + (useT (us L (I.take n))).c i).map V.int)) ∧ ∀ i, i < k → (useT (us L (I.take n))).n i ≤ bj i)
        ⟨_, _, _, _, _, rfl, s25, hu, ?_, fun i hi => bj0 i hi⟩ (fun n σ H' _ h => by obtain ⟨_, _, _, _, _, _, _, hu', _⟩ := h; exact SqL.of hu') ?_ ?_
      · rw [hU5, show (fun i => bj i + (useT (us L (I.take 0))).c i) = bj from funext fun i => Int.add_zero _]
      · rintro n x σ H6 hx6 ⟨v6, v7, v8, v9, v10, rfl, s6, hu6, hU6, cn⟩
        obtain ⟨i, hi, rfl⟩ : ∃ i : Nat, I[n]? = some i ∧ x = .int (i : Int) := by
          rw [List.getElem?_map, List.getElem?_map] at hx6
          cases z : I[n]? with
          | none => rw [z] at hx6; cases hx6
          | some c =>
            rw [z] at hx6
            exact ⟨c, rfl, (Option.some.inj hx6).symm⟩
        have il : i < L.length := hI i (List.mem_of_getElem? hi)
        obtain ⟨b, hb, hO⟩ := hL.get il
        have oo := ok _ (ofI_mem il)
        have tke := use_take (L := L) hi (by have := oo.x0; omega)
        rw [one_T oo] at tke
        have mon := use_mono hx (n + 1)
        have oku := use_ok (L := L) (U := us L (I.take n)) (us_ok ok fun i h => hI i (List.mem_of_mem_take h))
        have hO : H b = some (.tup [.int ((ofI L i).a : Int), .int (ofI L i).x, .int ((ofI L i).b : Int), .int (ofI L i).y]) := hO
        have al := oo.a
        have bl := oo.b
        have ne := oo.ne
        generalize ofI L i = o at *
        refine ⟨_, rfl, _, _, _, _, rfl, rfl, SqT.of (s6 _ _ hd), atI_nat (j := 1) rfl, _, rfl, _, _, _, _, rfl, rfl, SqT.of (s6 _ _ ht), atI_nat (j := i) hb, b, _, rfl, SqT.of (s6 _ _ hO), rfl, _, _, rfl, _, _, rfl, _, _, rfl, _, _, rfl, rfl, ?_⟩
        refine ⟨_, rfl, _, rfl, _, _, _, _, rfl, rfl, SqL.of hU6, atI_nat (j := o.a) (vget al), _, rfl, _, _, rfl, rfl, _, rfl, ite3 (fun lack => ?_) (fun has => ?_)⟩
        · refine ⟨_, rfl, (by show 1 ≤ sizeLine; decide), fun z nz => ?_⟩
          refine kk _ z _ (s6.trans (same_upd nz)) (.inr ⟨j, hj, cv, fun c => ?_, rfl⟩) (.inr ⟨_, rfl, upd_same⟩)
          have h1 := cs.mp c o.a al
          rw [← eT] at h1
          have h2 := mon o.a
          rw [tke] at h2
          have h3 : max ((useT (us L (I.take n))).n o.a) ((if o.a = o.a then 1 * o.x else 0) - (useT (us L (I.take n))).c o.a) ≤ (useT (us L I)).n o.a := h2
          rw [if_pos rfl, Int.one_mul] at h3
          have h4 : (useT (us L I)).n o.a ≤ bj o.a := by rw [hbj]; exact h1
          have h5 : bj o.a + (useT (us L (I.take n))).c o.a < o.x := lack
          omega
        · have has : ¬ bj o.a + (useT (us L (I.take n))).c o.a < o.x := has
          obtain ⟨f, hf⟩ : ∃ f : Nat → Int, f = fun i => bj i + (useT (us L (I.take n))).c i := ⟨_, rfl⟩
          have fv : ∀ c, f c = bj c + (useT (us L (I.take n))).c c := fun c => by rw [hf]
          rw [← hf] at hU6
          refine ⟨fun σ H' => σ = [some (.ref d), some (.ref a), some (.ref w), some (.ref U), some (.int (j : Int)), some (.ref q), some (.int (i : Int)), some (.int (o.a : Int)), some (.int o.x), some (.int (o.b : Int)), some (.int o.y)] ∧ Same H H' ∧ H' u = some (.lst ((ni I).map V.int)) ∧ H' U = some (.lst ((vec k fun c => if c = o.a then f o.a - o.x else f c).map V.int)), ?_, ?_⟩
          · refine ⟨_, rfl, _, rfl, _, _, _, _, rfl, rfl, SqL.of hU6, atI_nat (j := o.a) (vget al), _, rfl, _, _, rfl, rfl, _, rfl, _, rfl, _, _, _, _, rfl, rfl, hU6, by rw [ln]; exact ixN_nat al, rfl, fun b' o' e' => ?_, ?_, ?_⟩
            · rw [upd_ne (ne_of_none e' nU)]
              exact s6 _ _ e'
            · rw [upd_ne uU]
              exact hu6
            · exact upd_same.trans (congrArg (fun l => some (HO.lst l)) (vset (g := fun c => if c = o.a then f o.a - o.x else f c) (if_pos rfl) fun j hj => if_neg hj))
          rintro σ H7 ⟨rfl, s7, hu7, hU7⟩
          refine ⟨_, rfl, _, rfl, _, _, _, _, rfl, rfl, SqL.of hU7, atI_nat (j := o.b) (vget bl), _, rfl, _, _, rfl, rfl, _, rfl, _, rfl, _, _, _, _, rfl, rfl, hU7, by rw [ln]; exact ixN_nat bl, _, _, _, _, _, rfl, fun b' o' e' => ?_, ?_, ?_, fun c hc => ?_⟩
          · rw [upd_ne (ne_of_none e' nU)]
            exact s7 _ _ e'
          · rw [upd_ne uU]
            exact hu7
          · refine upd_same.trans (congrArg (fun l => some (HO.lst l)) (vset (g := fun i => bj i + (useT (us L (I.take (n + 1)))).c i) ?_ fun c hc => ?_))
            · rw [tke]
              show bj o.b + ((useT (us L (I.take n))).c o.b + (if o.b = o.b then 1 * o.y else _)) = (if o.b = o.a then f o.a - o.x else f o.b) + o.y
              rw [if_pos rfl, if_neg ne.symm, Int.one_mul]
              have := fv o.b
              omega
            · rw [tke]
              show bj c + ((useT (us L (I.take n))).c c + (if c = o.b then 1 * o.y else if c = o.a then -1 * o.x else 0)) = (if c = o.a then f o.a - o.x else f c)
              rw [if_neg hc]
              have h3 := fv c
              have h4 := fv o.a
              by_cases q : c = o.a
              · rw [if_pos q, if_pos q, q]
                omega
              · rw [if_neg q, if_neg q]
                omega
          · rw [tke]
            show max ((useT (us L (I.take n))).n c) ((if c = o.a then 1 * o.x else 0) - (useT (us L (I.take n))).c c) ≤ bj c
            have h1 := cn c hc
            have h2 := oku c
            by_cases q : c = o.a
            · rw [if_pos q, Int.one_mul]
              rw [q] at h1 ⊢
              omega
            · rw [if_neg q]
              omega
      · rintro σ H6 ⟨v6, v7, v8, v9, v10, rfl, s6, hu6, hU6, cn⟩
        rw [ni_len, List.take_length] at hU6 cn
        rw [eT] at hU6 cn
        refine ⟨_, _, _, _, _, _, _, rfl, s6, ?_, cs.mpr fun i hi => by have := cn i hi; rw [hbj] at this; exact this⟩
        rw [hU6, tk]
        refine congrArg (fun f => some (HO.lst ((vec k f).map V.int))) (funext fun i => ?_)
        rw [hbj]
        exact Int.add_assoc ..
  · rintro σ H2 ⟨v4, v5, v6, v7, v8, v9, v10, rfl, s2, hU, cv⟩
    rw [lw, List.take_length] at hU cv
    refine ⟨_, rfl, _, _, rfl, .inl ⟨SqL.of hU, fun p np => ?_⟩⟩
    exact kk _ p _ (s2.trans (same_upd np)) (.inl ⟨cv, rfl⟩) (.inl ⟨_, rfl, upd_same⟩)
abbrev s_l_tight : Stmt := topS 17
abbrev N_l_tight : List Str := ["_law_deck_here", "_law_board_here", "_law_way_here", "_law_amounts", "_law_step", "_law_index", "_law_a", "_law_x", "_law_b", "_law_y"]
theorem sc_l_tight : FnScope N_l_tight ["_law_deck_here", "_law_board_here", "_law_way_here"] (defScope s_l_tight) := ⟨rfl, rfl, rfl, by decide +kernel, rfl, by decide +kernel, by decide +kernel⟩
theorem ok_l_tight (T : Txt mg) (D : Df K mg "_law_tight" s_l_tight ["_law_deck_here", "_law_board_here", "_law_way_here"]) (C_l_uses : Cal P w K mg base "_law_uses" ["_law_step"] 1 (sp_l_uses K)) (C_l_draw : Cal P w K mg base "_law_draw" ["_law_deck_here", "_law_many"] 1 (sp_l_draw K)) : Cal P w K mg base "_law_tight" ["_law_deck_here", "_law_board_here", "_law_way_here"] 2 (sp_l_tight K) := by
  obtain ⟨f_l_uses, fd_l_uses, G_l_uses, m_l_uses, k_l_uses, b_l_uses⟩ := C_l_uses
  obtain ⟨f_l_draw, fd_l_draw, G_l_draw, m_l_draw, k_l_draw, b_l_draw⟩ := C_l_draw
  refine D.cal sc_l_tight (fun vs H Q E h => ?_) (fun f cdv A outer s H vs Q E hr h => ?_)
  · obtain ⟨p, l, d, w, n, k, L, ss, rfl, _⟩ := h
    rfl
  obtain ⟨p, l, d, w, n, k, L, ss, rfl, D0, n0, n1, B, ok, k4, W, hs, sl, kk⟩ := h
  obtain ⟨t, qs, hd, ht, hL⟩ := id B
  obtain ⟨ws, hw, hS⟩ := id W
  have ln : ∀ f : Nat → Int, ((vec k f).map V.int).length = k := fun f => by rw [List.length_map, vec_len]
  have lw : (ws.map V.ref).length = ss.length := by rw [List.length_map, hS.1]
  refine ⟨_, (pss_cons (ps_set (i := 3) sc_l_tight.nd rfl (Or.inl rfl) (pe_op op_rep (pe_lst (pa_cons pe_int pa_nil)) (pe_ix ix_tup (pv 1) pe_int (fun _ _ => rfl))))
    (pss_cons (ps_for PassesOwn.never rfl (pi_tup (pv 2)) (pg_name (i := 4) sc_l_tight.nd rfl (Or.inl rfl))
      (pss_one (ps_for PassesOwn.never rfl (pi_list (pe_call G_l_uses (hr.mono (by decide)) (by rfl) m_l_uses k_l_uses b_l_uses .nil pass0 (pa_cons (pv 4) pa_nil))) (pg_name (i := 5) sc_l_tight.nd rfl (Or.inl rfl))
      (pss_cons (ps_asg (pe_ix ix_tup (pe_ix ix_tup (pv 1) pe_int (fun _ _ => rfl)) (pv 5) (fun _ _ => rfl)) (pg_tup (by rfl) (pgs_cons (pg_name (i := 6) sc_l_tight.nd rfl (Or.inl rfl)) (pgs_cons (pg_name (i := 7) sc_l_tight.nd rfl (Or.inl rfl)) (pgs_cons (pg_name (i := 8) sc_l_tight.nd rfl (Or.inl rfl)) (pgs_cons (pg_name (i := 9) sc_l_tight.nd rfl (Or.inl rfl)) pgs_nil))))))
    (pss_one (ps_asg (pe_op op_add (pe_ix ix_list (pv 3) (pv 6) (fun _ _ => rfl)) (pe_op op_mul (pv 7) (pe_callTy call_int1 (by rfl) T.n_int (by decide +kernel) (pa_cons (pe_cmpR op_gt (pe_call G_l_draw (hr.mono (by decide)) (by rfl) m_l_draw k_l_draw b_l_draw .nil pass0 (pa_cons (pv 0) (pa_cons pe_int pa_nil))) pe_int (nomark _)) pa_nil)))) (pg_sub (pv 3) (pv 6) set_list)))))))
    (pss_one (ps_ret (pe_callTy call_tuple_of (by rfl) T.n_tuple (by decide +kernel) (pa_cons (pv 3) pa_nil)))))), ?_⟩
  refine ⟨(by show 1 ≤ sizeLine; decide), fun z nz => ?_⟩
  have sz := same_upd (o := .lst [.int 0]) nz
  refine ⟨_, rfl, _, _, _, _, rfl, rfl, SqT.of (sz _ _ hd), atI_nat (j := 0) rfl, z, _, _, rfl, rfl, upd_same, by omega, by omega, (by show 1 * ((k : Nat) : Int).toNat ≤ sizeLine; exact Nat.le_trans (by omega : 1 * ((k : Nat) : Int).toNat ≤ 4) (by decide)), fun U nU => ?_⟩
  have sU := same_upd (o := .lst (List.replicate ((k : Nat) : Int).toNat [V.int 0]).flatten) nU
  have hU : upd (upd H z (.lst [.int 0])) U (.lst (List.replicate ((k : Nat) : Int).toNat [V.int 0]).flatten) U = some (.lst ((vec k fun _ => 0).map V.int)) := by rw [upd_same, zeros]
  have sa := sz.trans sU
  have freeU : H U = none := fresh_of sz nU
  obtain ⟨Up, Ul⟩ := D0.lne freeU
  have hnU : ∀ b o, H b = some o → b ≠ U := fun b o hb => ne_of_none hb freeU
  generalize upd (upd H z (.lst [.int 0])) U (.lst (List.replicate ((k : Nat) : Int).toNat [V.int 0]).flatten) = H1 at hU sa ⊢
  clear sz sU nU nz
  refine ⟨_, rfl, w, rfl, ⟨_, SqT.of (sa _ _ hw)⟩, ?_⟩
  refine for_tup (K := K) (a := w) (xs := ws.map V.ref) (fun j σ H' => ∃ (n' : Int) (g : Nat → Int) (v4 v5 v6 v7 v8 v9 : Option V), σ = [some (.ref p), some (.ref d), some (.ref w), some (.ref U), v4, v5, v6, v7, v8, v9] ∧ Fr p l H H' ∧ Deck H' p l n' ∧ n ≤ n' ∧ n' ≤ n + 108 * (j : Int) ∧ H' U = some (.lst ((vec k g).map V.int)) ∧ ∀ i, i < k → 0 ≤ g i ∧ g i ≤ 3240 * (j : Int))
    ⟨n, fun _ => 0, none, none, none, none, none, none, rfl, Same.fr sa, D0.same sa, by omega, by omega, hU, fun i hi => ⟨Int.le_refl _, by show (0 : Int) ≤ _; omega⟩⟩ (fun j σ H' _ h => by obtain ⟨_, _, _, _, _, _, _, _, _, f', _⟩ := h; exact SqT.of (f'.tup D0 hw)) ?_ ?_
  · rintro j x σ H2 hx ⟨n', g, v4, v5, v6, v7, v8, v9, rfl, f2, D2, m0, m1, hU2, hg⟩
    have hj : j < ss.length := by
      have := (List.getElem?_eq_some_iff.mp hx).1
      rw [lw] at this
      exact this
    rw [List.getElem?_map] at hx
    cases e : ws[j]? with
    | none => rw [e] at hx; cases hx
    | some q =>
      rw [e] at hx
      have ex : x = .ref q := (Option.some.inj hx).symm
      subst ex
      obtain ⟨st, hst, hq⟩ := hS.2 j q e
      have hh := hs st (List.mem_of_getElem? hst)
      have l108 := stI_len hh.1 hh.2
      obtain ⟨_, hI⟩ := us_st ok hh.1
      refine ⟨_, rfl, q, L, st, rfl, (hq.mono fun b xs e => f2.tup D0 e), hh.1, hh.2, fun H5 u nu s5 hu => ?_⟩
      obtain ⟨I, hIe⟩ : ∃ I, I = stI st := ⟨_, rfl⟩
      rw [← hIe] at hu hI l108
      have hU5 := s5 _ _ hU2
      have D5 := D2.same s5
      have f5 := f2.trans (Same.fr s5)
      have uU : u ≠ U := fun e => by
        rw [e, hU2] at nu
        cases nu
      obtain ⟨up, ul⟩ := D2.lne nu
      refine ⟨u, rfl, ⟨_, SqL.of hu⟩, ?_⟩
      refine for_list (K := K) (a := u) (xs := (ni I).map V.int) (fun m σ H' => ∃ (n2 : Int) (f : Nat → Int) (v5 v6 v7 v8 v9 : Option V), σ = [some (.ref p), some (.ref d), some (.ref w), some (.ref U), some (.ref q), v5, v6, v7, v8, v9] ∧ Fr p l H H' ∧ Deck H' p l n2 ∧ n' ≤ n2 ∧ n2 ≤ n' + (m : Int) ∧ H' u = some (.lst ((ni I).map V.int)) ∧ H' U = some (.lst ((vec k f).map V.int)) ∧ ∀ i, i < k → 0 ≤ f i ∧ f i ≤ 3240 * (j : Int) + 30 * (m : Int))
        ⟨n', g, _, _, _, _, _, rfl, f5, D5, by omega, by omega, hu, hU5, fun i hi => by have := hg i hi; omega⟩ (fun m σ H' _ h => by obtain ⟨_, _, _, _, _, _, _, _, _, _, _, _, hu', _⟩ := h; exact SqL.of hu') ?_ ?_
      · rintro m x σ H6 hx6 ⟨n2, f, v5, v6, v7, v8, v9, rfl, f6, D6, q0, q1, hu6, hU6, hf⟩
        have hm : m < I.length := by
          have := (List.getElem?_eq_some_iff.mp hx6).1
          rw [ni_len] at this
          exact this
        obtain ⟨i, hi, rfl⟩ : ∃ i : Nat, I[m]? = some i ∧ x = .int (i : Int) := by
          rw [List.getElem?_map, List.getElem?_map] at hx6
          cases z : I[m]? with
          | none => rw [z] at hx6; cases hx6
          | some c =>
            rw [z] at hx6
            exact ⟨c, rfl, (Option.some.inj hx6).symm⟩
        have il : i < L.length := hI i (List.mem_of_getElem? hi)
        obtain ⟨b, hb, hO⟩ := hL.get il
        have oo := ok _ (ofI_mem il)
        have hO : H b = some (.tup [.int ((ofI L i).a : Int), .int (ofI L i).x, .int ((ofI L i).b : Int), .int (ofI L i).y]) := hO
        have al := oo.a
        have x0 := oo.x0
        have x1 := oo.x1
        generalize ofI L i = o at *
        refine ⟨_, rfl, _, _, _, _, rfl, rfl, SqT.of (f6.tup D0 hd), atI_nat (j := 1) rfl, _, rfl, _, _, _, _, rfl, rfl, SqT.of (f6.tup D0 ht), atI_nat (j := i) hb, b, _, rfl, SqT.of (f6.tup D0 hO), rfl, _, _, rfl, _, _, rfl, _, _, rfl, _, _, rfl, rfl, ?_⟩
        refine ⟨_, rfl, _, rfl, _, _, _, _, rfl, rfl, SqL.of hU6, atI_nat (j := o.a) (vget al), _, rfl, _, rfl, p, l, n2, 5, rfl, D6, by omega, by omega, by decide, by decide, fun r H7 r0 r1 f7 D7 => ?_⟩
        have hU7 := f7 U _ Up Ul hU6
        have hu7 := f7 u _ up ul hu6
        obtain ⟨v, hv, v0, v1⟩ : ∃ v : Int, v = o.x * (if decide (r > 0) = true then 1 else 0) ∧ 0 ≤ v ∧ v ≤ 30 := by
          by_cases c : r > 0
          · rw [decide_eq_true c, if_pos rfl]
            exact ⟨_, rfl, by omega, by omega⟩
          · rw [decide_eq_false c, if_neg Bool.false_ne_true]
            exact ⟨_, rfl, by omega, by omega⟩
        refine ⟨_, _, rfl, rfl, .inr ⟨_, rfl, _, _, rfl, rfl, .inl ⟨by omega, by omega⟩, _, _, rfl, rfl, _, rfl, _, rfl, _, _, _, _, rfl, rfl, hU7, by rw [ln]; exact ixN_nat al, n2 + 1, (fun c => if c = o.a then f o.a + v else f c), _, _, _, _, _, rfl, fun b' o' h1 h2 e' => ?_, ⟨?_, ?_⟩, by omega, by omega, ?_, ?_, fun c hc => ?_⟩⟩
        · rw [upd_ne (hnU b' o' e')]
          exact f7 b' o' h1 h2 (f6 b' o' h1 h2 e')
        · rw [upd_ne Up.symm]
          exact D7.hp
        · obtain ⟨cells, e1, e2⟩ := D7.hl
          exact ⟨cells, by rw [upd_ne Ul.symm]; exact e1, e2⟩
        · rw [upd_ne uU]
          exact hu7
        · rw [← hv]
          exact upd_same.trans (congrArg (fun l => some (HO.lst l)) (vset (g := fun c => if c = o.a then f o.a + v else f c) (if_pos rfl) fun j hj => if_neg hj))
        · show 0 ≤ (if c = o.a then f o.a + v else f c) ∧ (if c = o.a then f o.a + v else f c) ≤ _
          have h1 := hf c hc
          have h2 := hf o.a al
          split <;> omega
      · rintro σ H6 ⟨n2, f, v5, v6, v7, v8, v9, rfl, f6, D6, q0, q1, hu6, hU6, hf⟩
        rw [ni_len] at q1 hf
        exact ⟨n2, f, _, _, _, _, _, _, rfl, f6, D6, by omega, by omega, hU6, fun i hi => by have := hf i hi; omega⟩
  · rintro σ H2 ⟨n', g, v4, v5, v6, v7, v8, v9, rfl, f2, D2, m0, m1, hU2, hg⟩
    rw [lw] at m1 hg
    refine ⟨_, rfl, _, _, rfl, .inl ⟨SqL.of hU2, fun q nq => ?_⟩⟩
    have sq := same_upd (o := .tup ((vec k g).map V.int)) nq
    exact kk _ q g n' (f2.trans (Same.fr sq)) (D2.same sq) m0 (by omega) upd_same fun i hi => by have := hg i hi; omega
end
end Sm

set_option Elab.async false
set_option linter.all false
set_option maxRecDepth 100000
set_option maxHeartbeats 8000000
namespace Sm
open PySem PySem.Spec PyProof.Rows L2
/-! ### tuples of ints as data -/
def tD (t : List Int) : PyData := .tuple (t.map PyData.int)
def dLL (LL : List (List Int)) : List PyData := LL.map tD
theorem log_abs {i : Int} (h0 : -(10 ^ 60) ≤ i) (h1 : i ≤ 10 ^ 60) : i.natAbs.log2 < 1920 :=
  Nat.lt_of_lt_of_le (PySem.Flt.log2_lt_of (k := 310) (by decide) (by omega)) (by decide)
structure Sm8 (t : List Int) : Prop where
  len : t.length ≤ 8
  sm : ∀ n ∈ t, n.natAbs.log2 < 1920
theorem tD_sh {t : List Int} (h : Sm8 t) : (tD t).showable = true ∧ (tD t).hasDict = false ∧ (tD t).depth ≤ 2 ∧ (tD t).shown.length ≤ 16000 ∧ (tD t).canLay0 = true := by
  have dep := depth_ints t
  obtain ⟨s1, s2⟩ := shown_ints h.sm
  have t1 := PySem.tupleText_len_le (PyData.shownAll (t.map PyData.int))
  have l8 := h.len
  have lay : PyData.canLayAll0 (t.map PyData.int) = true := by
    clear dep s1 s2 t1 l8 h
    induction t with
    | nil => rfl
    | cons i t ih => simp [PyData.canLayAll0, PyData.canLay0, ih]
  unfold tD
  refine ⟨?_, ?_, ?_, ?_, ?_⟩
  · simp only [PyData.showable, showable_ints h.sm]
  · simp only [PyData.hasDict, hasDict_ints]
  · simp only [PyData.depth]
    omega
  · simp only [PyData.shown]
    omega
  · simp only [PyData.canLay0, lay]
theorem dLL_sh : ∀ {LL : List (List Int)}, (∀ t ∈ LL, Sm8 t) → PyData.showableAll (dLL LL) = true ∧ PyData.hasDictAll (dLL LL) = false ∧ PyData.depthAll (dLL LL) ≤ 2 ∧ ((PyData.shownAll (dLL LL)).map (·.length)).sum ≤ 16000 * LL.length ∧ (PyData.shownAll (dLL LL)).length = LL.length ∧ PyData.canLayAll0 (dLL LL) = true
  | [], _ => by
    unfold dLL
    simp [PyData.showableAll, PyData.hasDictAll, PyData.depthAll, PyData.shownAll, PyData.canLayAll0]
  | t :: LL, h => by
    obtain ⟨a1, a2, a3, a4, a5⟩ := tD_sh (h t List.mem_cons_self)
    obtain ⟨b1, b2, b3, b4, b5, b6⟩ := dLL_sh (LL := LL) fun t' ht => h t' (List.mem_cons_of_mem _ ht)
    unfold dLL at *
    simp only [List.map_cons, PyData.showableAll, PyData.hasDictAll, PyData.depthAll, PyData.shownAll, PyData.canLayAll0, a1, a2, a5, b1, b2, b6, List.sum_cons, List.length_cons, Bool.and_self, Bool.or_self, true_and, and_true]
    omega
/-- a list, a tuple of such tuples can be shown -/
theorem lLL_show {LL : List (List Int)} (h : ∀ t ∈ LL, Sm8 t) (l : LL.length ≤ 200) : PyData.showable (.list (dLL LL)) = true ∧ PyData.hasDict (.list (dLL LL)) = false ∧ PyData.depth (.list (dLL LL)) ≤ 60 ∧ (PyData.shown (.list (dLL LL))).length ≤ sizeLine ∧ SeqAt.shaped (.list (dLL LL)) = true := by
  obtain ⟨b1, b2, b3, b4, b5, b6⟩ := dLL_sh h
  have t := listText_len_le (PyData.shownAll (dLL LL))
  have dep : PyData.depth (.list (dLL LL)) ≤ 60 := by
    simp only [PyData.depth]
    omega
  refine ⟨?_, ?_, dep, ?_, ?_⟩
  · simp only [PyData.showable, b1]
  · simp only [PyData.hasDict, b2]
  · simp only [PyData.shown]
    rw [sizeLine_eq]
    omega
  · have dep' : PyData.depth (.list (dLL LL)) ≤ 64 := by omega
    have lay : PyData.canLay0 (.list (dLL LL)) = true := by simp only [PyData.canLay0, b6]
    unfold SeqAt.shaped
    rw [lay, decide_eq_true dep']
    rfl
theorem tD_shaped {t : List Int} (h : Sm8 t) : SeqAt.shaped (tD t) = true := by
  obtain ⟨a1, a2, a3, a4, a5⟩ := tD_sh h
  unfold SeqAt.shaped
  rw [a5, decide_eq_true (show (tD t).depth ≤ 64 by omega)]
  rfl
theorem dp_tD {K : PySem.W.Frag} {H : Hp} {q : Addr} {t : List Int} (h : H q = some (.tup (t.map V.int))) : Dp K H (.ref q) (tD t) := .tup (SqT.of h) (dp_ints t)
/-- the data of tuples that stand at these places -/
theorem dp_dLL {K : PySem.W.Frag} {H : Hp} : ∀ {qs : List Addr} {LL : List (List Int)}, qs.length = LL.length → (∀ (i : Nat) (q : Addr), qs[i]? = some q → ∃ t, LL[i]? = some t ∧ H q = some (.tup (t.map V.int))) → DpAll K H (qs.map V.ref) (dLL LL)
  | [], [], _, _ => .nil
  | q :: qs, t :: LL, hl, h => by
    obtain ⟨t', e, hq⟩ := h 0 q rfl
    obtain rfl : t = t' := Option.some.inj e
    exact .cons (dp_tD hq) (dp_dLL (by simpa using hl) fun i q' e => h (i + 1) q' e)
/-! ### boards as data -/
def bD (k : Nat) (L : List Of) : PyData := .tuple [.int (k : Int), .tuple (dLL (L.map Of.ns))]
theorem BoardAt.dp {K : PySem.W.Frag} {H : Hp} {d : Addr} {k : Nat} {L : List Of} (B : BoardAt H d k L) : Dp K H (.ref d) (bD k L) := by
  obtain ⟨t, qs, h1, h2, h3, h4⟩ := B
  refine .tup (SqT.of h1) (.cons (.int _) (.cons (.tup (SqT.of h2) (dp_dLL (by rw [List.length_map]; exact h3) fun i q e => ?_)) .nil))
  obtain ⟨o, e1, e2⟩ := h4 i q e
  exact ⟨o.ns, by rw [List.getElem?_map, e1]; rfl, e2⟩
theorem ns_sm {k : Nat} {o : Of} (h : OfOk k o) (k4 : k ≤ 4) : Sm8 o.ns := by
  refine ⟨by show 4 ≤ 8; decide, fun n hn => ?_⟩
  have h1 := h.a
  have h2 := h.b
  have h3 := h.x0
  have h4 := h.x1
  have h5 := h.y0
  have h6 := h.y1
  simp only [Of.ns, List.mem_cons, List.not_mem_nil, or_false] at hn
  rcases hn with rfl | rfl | rfl | rfl <;> exact log_abs (by omega) (by omega)
theorem bD_show {k : Nat} {L : List Of} (ok : ∀ o ∈ L, OfOk k o) (k4 : k ≤ 4) (l : L.length < 64) : (bD k L).showable = true ∧ (bD k L).hasDict = false ∧ (bD k L).depth ≤ 6 ∧ (bD k L).shown.length ≤ 1100000 := by
  have sm : ∀ t ∈ L.map Of.ns, Sm8 t := fun t ht => by
    obtain ⟨o, ho, rfl⟩ := List.mem_map.mp ht
    exact ns_sm (ok o ho) k4
  obtain ⟨b1, b2, b3, b4, b5, b6⟩ := dLL_sh sm
  rw [List.length_map] at b4 b5
  have sk : (k : Int).natAbs.log2 < 1920 := log_abs (by omega) (by omega)
  have lk := PyProof.Rows.int_text_len_1921 sk
  have t1 := PySem.tupleText_len_le (PyData.shownAll (dLL (L.map Of.ns)))
  unfold bD
  refine ⟨?_, ?_, ?_, ?_⟩
  · simp only [PyData.showable, PyData.showableAll, b1, decide_eq_true sk, Bool.and_self]
  · simp only [PyData.hasDict, PyData.hasDictAll, b2, Bool.or_self]
  · simp only [PyData.depth, PyData.depthAll]
    omega
  · simp only [PyData.shown, PyData.shownAll]
    have t2 := PySem.tupleText_len_le [Str.ofString (toString (k : Int)), tupleText (PyData.shownAll (dLL (L.map Of.ns)))]
    simp only [List.map_cons, List.map_nil, List.sum_cons, List.sum_nil, List.length_cons, List.length_nil] at t2
    omega
end Sm

set_option Elab.async false
set_option linter.all false
set_option maxRecDepth 100000
set_option maxHeartbeats 16000000
namespace Sm
open PySem PySem.Spec PyProof.Rows L2
open C8 (pss_cut tCut)
/-! ### ways as data -/
def sD : St → PyData
  | .run i m => tD [(i : Int), m]
  | .rnd rs m => .tuple [.tuple (dLL (rs.map fun r => [(r.1 : Int), r.2])), .int m]
def wD (ss : List St) : PyData := .tuple (ss.map sD)
theorem StAt.dp {K : PySem.W.Frag} {H : Hp} {q : Addr} {s : St} (h : StAt H q s) : Dp K H (.ref q) (sD s) := by
  match s, h with
  | .run i m, h => exact dp_tD (t := [(i : Int), m]) h
  | .rnd rs m, ⟨t, qs, h1, h2, h3, h4⟩ =>
    refine .tup (SqT.of h1) (.cons (.tup (SqT.of h2) (dp_dLL (by rw [List.length_map]; exact h3) fun i q e => ?_)) (.cons (.int _) .nil))
    obtain ⟨r, e1, e2⟩ := h4 i q e
    exact ⟨[(r.1 : Int), r.2], by rw [List.getElem?_map, e1]; rfl, e2⟩
theorem sts_dp {K : PySem.W.Frag} {H : Hp} : ∀ {qs : List Addr} {ss : List St}, StsAt H qs ss → DpAll K H (qs.map V.ref) (ss.map sD)
  | [], [], _ => .nil
  | [], s :: ss, h => by have := h.1; simp at this
  | q :: qs, [], h => by have := h.1; simp at this
  | q :: qs, s :: ss, h => by
    obtain ⟨s', e, hq⟩ := h.2 0 q rfl
    obtain rfl : s = s' := Option.some.inj e
    exact .cons hq.dp (sts_dp ⟨by simpa using h.1, fun i q' e' => h.2 (i + 1) q' e'⟩)
theorem WayAt.dp {K : PySem.W.Frag} {H : Hp} {w : Addr} {ss : List St} (h : WayAt H w ss) : Dp K H (.ref w) (wD ss) := by
  obtain ⟨qs, h1, h2⟩ := h
  exact .tup (SqT.of h1) (sts_dp h2)
theorem run_sm {L : List Of} {r : Nat × Int} (h : RunOk L r) (l64 : L.length < 64) (hm : r.2 ≤ 6) : Sm8 [(r.1 : Int), r.2] := by
  refine ⟨by show 2 ≤ 8; decide, fun n hn => ?_⟩
  have h1 := h.1
  have h2 := h.2
  simp only [List.mem_cons, List.not_mem_nil, or_false] at hn
  rcases hn with rfl | rfl <;> exact log_abs (by omega) (by omega)
theorem sD_show {L : List Of} {s : St} (h : StOk L s) (hs : StS 6 s) (l64 : L.length < 64) : (sD s).showable = true ∧ (sD s).hasDict = false ∧ (sD s).depth ≤ 6 ∧ (sD s).shown.length ≤ 60000 := by
  match s, h, hs with
  | .run i m, h, hs =>
    obtain ⟨a1, a2, a3, a4, _⟩ := tD_sh (run_sm (r := (i, m)) h l64 hs)
    exact ⟨a1, a2, Nat.le_trans a3 (by decide), Nat.le_trans a4 (by decide)⟩
  | .rnd rs m, ⟨h, m1⟩, ⟨l3, hm, hr⟩ =>
    have sm : ∀ t ∈ rs.map (fun r => [(r.1 : Int), r.2]), Sm8 t := fun t ht => by
      obtain ⟨r, hr', rfl⟩ := List.mem_map.mp ht
      exact run_sm (h r hr') l64 (hr r hr')
    obtain ⟨b1, b2, b3, b4, b5, b6⟩ := dLL_sh sm
    rw [List.length_map] at b4 b5
    have smm : m.natAbs.log2 < 1920 := log_abs (by omega) (by omega)
    have lm := PyProof.Rows.int_text_len_1921 smm
    have t1 := PySem.tupleText_len_le (PyData.shownAll (dLL (rs.map fun r => [(r.1 : Int), r.2])))
    unfold sD
    refine ⟨?_, ?_, ?_, ?_⟩
    · simp only [PyData.showable, PyData.showableAll, b1, decide_eq_true smm, Bool.and_self]
    · simp only [PyData.hasDict, PyData.hasDictAll, b2, Bool.or_self]
    · simp only [PyData.depth, PyData.depthAll]
      omega
    · simp only [PyData.shown, PyData.shownAll]
      have t2 := PySem.tupleText_len_le [tupleText (PyData.shownAll (dLL (rs.map fun r => [(r.1 : Int), r.2]))), Str.ofString (toString m)]
      simp only [List.map_cons, List.map_nil, List.sum_cons, List.sum_nil, List.length_cons, List.length_nil] at t2
      omega
theorem sDs_show {L : List Of} (l64 : L.length < 64) : ∀ {ss : List St}, (∀ s ∈ ss, StOk L s ∧ StS 6 s) → PyData.showableAll (ss.map sD) = true ∧ PyData.hasDictAll (ss.map sD) = false ∧ PyData.depthAll (ss.map sD) ≤ 6 ∧ ((PyData.shownAll (ss.map sD)).map (·.length)).sum ≤ 60000 * ss.length ∧ (PyData.shownAll (ss.map sD)).length = ss.length
  | [], _ => by simp [PyData.showableAll, PyData.hasDictAll, PyData.depthAll, PyData.shownAll]
  | s :: ss, h => by
    obtain ⟨a1, a2, a3, a4⟩ := sD_show (h s List.mem_cons_self).1 (h s List.mem_cons_self).2 l64
    obtain ⟨b1, b2, b3, b4, b5⟩ := sDs_show l64 (ss := ss) fun s' e => h s' (List.mem_cons_of_mem _ e)
    simp only [List.map_cons, PyData.showableAll, PyData.hasDictAll, PyData.depthAll, PyData.shownAll, a1, a2, b1, b2, List.sum_cons, List.length_cons, Bool.and_self, Bool.or_self, true_and]
    omega
theorem bw_show {k : Nat} {L : List Of} (ok : ∀ o ∈ L, OfOk k o) (k4 : k ≤ 4) (l64 : L.length < 64) {ss : List St} (h : ∀ s ∈ ss, StOk L s ∧ StS 6 s) (l10 : ss.length ≤ 20) : PyData.showable (.list [bD k L, wD ss]) = true ∧ PyData.hasDict (.list [bD k L, wD ss]) = false ∧ PyData.depth (.list [bD k L, wD ss]) ≤ 60 ∧ (PyData.shown (.list [bD k L, wD ss])).length ≤ sizeLine := by
  obtain ⟨a1, a2, a3, a4⟩ := bD_show ok k4 l64
  obtain ⟨b1, b2, b3, b4, b5⟩ := sDs_show l64 h
  have t1 := PySem.tupleText_len_le (PyData.shownAll (ss.map sD))
  refine ⟨?_, ?_, ?_, ?_⟩
  · simp only [PyData.showable, PyData.showableAll, wD, a1, b1, Bool.and_self]
  · simp only [PyData.hasDict, PyData.hasDictAll, wD, a2, b2, Bool.or_self]
  · simp only [PyData.depth, PyData.depthAll, wD]
    omega
  · simp only [PyData.shown, PyData.shownAll, wD]
    have t2 := listText_len_le [(bD k L).shown, tupleText (PyData.shownAll (ss.map sD))]
    simp only [List.map_cons, List.map_nil, List.sum_cons, List.sum_nil, List.length_cons, List.length_nil] at t2
    rw [sizeLine_eq]
    omega
theorem strs_eqv (x y : Str) : PyData.eqv (.list [.str x, .str y]) (.list [.str x, .str y]) = true := SeqAt.eqv_refl_plain _ rfl
theorem pick5 {a b c d e r : Int} (h0 : 0 ≤ r) (h1 : r < 5) : ∃ z, [V.int a, V.int b, V.int c, V.int d, V.int e][r.toNat]? = some (.int z) ∧ (z = a ∨ z = b ∨ z = c ∨ z = d ∨ z = e) := by
  obtain rfl | rfl | rfl | rfl | rfl : r = 0 ∨ r = 1 ∨ r = 2 ∨ r = 3 ∨ r = 4 := by omega
  · exact ⟨a, rfl, .inl rfl⟩
  · exact ⟨b, rfl, .inr (.inl rfl)⟩
  · exact ⟨c, rfl, .inr (.inr (.inl rfl))⟩
  · exact ⟨d, rfl, .inr (.inr (.inr (.inl rfl)))⟩
  · exact ⟨e, rfl, .inr (.inr (.inr (.inr rfl)))⟩
theorem pick3 {a b c r : Int} (h0 : 0 ≤ r) (h1 : r < 3) : ∃ z, [V.int a, V.int b, V.int c][r.toNat]? = some (.int z) ∧ (z = a ∨ z = b ∨ z = c) := by
  obtain rfl | rfl | rfl : r = 0 ∨ r = 1 ∨ r = 2 := by omega
  · exact ⟨a, rfl, .inl rfl⟩
  · exact ⟨b, rfl, .inr (.inl rfl)⟩
  · exact ⟨c, rfl, .inr (.inr rfl)⟩
theorem pick2 {a b r : Int} (h0 : 0 ≤ r) (h1 : r < 2) : ∃ z, [V.int a, V.int b][r.toNat]? = some (.int z) ∧ (z = a ∨ z = b) := by
  obtain rfl | rfl : r = 0 ∨ r = 1 := by omega
  · exact ⟨a, rfl, .inl rfl⟩
  · exact ⟨b, rfl, .inr rfl⟩
theorem bn_bd {k : Nat} : ∀ {U : List Of}, (∀ o ∈ U, OfOk k o) → ∀ j : Nat, 0 ≤ bn U j ∧ bn U j ≤ 30 * (U.length : Int)
  | [], _, j => by simp [bn]
  | o :: U, h, j => by
    have a := c1_bd (h o List.mem_cons_self) j
    have c := n1_bd (h o List.mem_cons_self) j
    have b := bn_bd (U := U) (fun o' e => h o' (List.mem_cons_of_mem _ e)) j
    show 0 ≤ max (n1 o j) (bn U j - c1 o j) ∧ max (n1 o j) (bn U j - c1 o j) ≤ 30 * ((U.length + 1 : Nat) : Int)
    omega
theorem wayI_len {L : List Of} : ∀ {ss : List St}, (∀ s ∈ ss, StOk L s ∧ StS 6 s) → (wayI ss).length ≤ 108 * ss.length
  | [], _ => Nat.zero_le _
  | s :: ss, h => by
    have a := stI_len (h s List.mem_cons_self).1 (h s List.mem_cons_self).2
    have b := wayI_len (ss := ss) fun s' e => h s' (List.mem_cons_of_mem _ e)
    show (stI s ++ wayI ss).length ≤ 108 * (ss.length + 1)
    rw [List.length_append]
    omega
/-! ### what a walk answers -/
theorem cov_le {k : Nat} {L : List Of} {ss : List St} {am : Nat → Int} {i j : Nat} (h : i ≤ j) (c : Cov k L (ss.take j) am) : Cov k L (ss.take i) am := by
  have := cov_take c i
  rw [List.take_take, Nat.min_eq_left h] at this
  exact this
theorem out_one {k : Nat} {L : List Of} {ss : List St} {am : Nat → Int} {o o' : PyData} (h : Out k L ss am o) (h' : Out k L ss am o') : o = o' := by
  rcases h with ⟨c, rfl⟩ | ⟨j, hj, c, nc, rfl⟩
  · rcases h' with ⟨_, rfl⟩ | ⟨j', hj', c', nc', rfl⟩
    · rfl
    · exact absurd (cov_take c _) nc'
  · rcases h' with ⟨c', rfl⟩ | ⟨j', hj', c', nc', rfl⟩
    · exact absurd (cov_take c' _) nc
    · have e : j = j' := by
        rcases Nat.lt_trichotomy j j' with q | q | q
        · exact absurd (cov_le (show j + 1 ≤ j' by omega) c') nc
        · exact q
        · exact absurd (cov_le (show j' + 1 ≤ j by omega) c) nc'
      rw [e]
theorem out_show {k : Nat} {L : List Of} {ss : List St} {am : Nat → Int} {o : PyData} (ok : ∀ o ∈ L, OfOk k o) (k4 : k ≤ 4) (hs : ∀ s ∈ ss, StOk L s ∧ StS 6 s) (l10 : ss.length ≤ 10) (ha : ∀ i, i < k → 0 ≤ am i ∧ am i ≤ 1000000) (h : Out k L ss am o) :
    o.showable = true ∧ o.hasDict = false ∧ o.depth ≤ 60 ∧ o.shown.length ≤ sizeLine := by
  rcases h with ⟨c, rfl⟩ | ⟨j, hj, c, nc, rfl⟩
  · obtain ⟨eT, hI⟩ := us_way ok fun s h => (hs s h).1
    have lI := wayI_len hs
    have sm : Sm8 (vec k fun i => am i + (wayT L ss).c i) := ⟨by rw [vec_len]; omega, fun n hn => by
      obtain ⟨i, hi, rfl⟩ := List.mem_map.mp hn
      have hi := List.mem_range.mp hi
      have h1 := ha i hi
      have ll : (us L (wayI ss)).length = (wayI ss).length := by unfold us; rw [List.length_map]
      have h2 := bc_bd (us_ok ok hI) i
      rw [ll] at h2
      have ec : (wayT L ss).c i = bc (us L (wayI ss)) i := by rw [← eT]; rfl
      rw [ec]
      exact log_abs (by omega) (by omega)⟩
    obtain ⟨a1, a2, a3, a4, _⟩ := tD_sh sm
    exact ⟨a1, a2, Nat.le_trans a3 (by decide), Nat.le_trans a4 (by rw [sizeLine_eq]; decide)⟩
  · have smm : ((j : Int)).natAbs.log2 < 1920 := log_abs (by omega) (by omega)
    have lm := PyProof.Rows.int_text_len_1921 smm
    refine ⟨?_, rfl, Nat.le_of_ble_eq_true rfl, ?_⟩
    · simp only [PyData.showable, PyData.showableAll, decide_eq_true smm, Bool.and_self]
    · simp only [PyData.shown, PyData.shownAll]
      have t2 := listText_len_le [Str.ofString (toString (j : Int))]
      simp only [List.map_cons, List.map_nil, List.sum_cons, List.sum_nil, List.length_cons, List.length_nil] at t2
      rw [sizeLine_eq]
      omega
theorem vec_congr {k : Nat} {f g : Nat → Int} (h : ∀ i, i < k → f i = g i) : vec k f = vec k g := List.map_congr_left fun i hi => h i (List.mem_range.mp hi)
theorem consts (k : Nat) (c : Int) : (List.replicate ((k : Nat) : Int).toNat [V.int c]).flatten = (vec k fun _ => c).map V.int := by
  rw [Int.toNat_natCast, List.flatten_replicate_singleton]
  apply List.ext_getElem
  · rw [List.length_replicate, List.length_map, vec_len]
  · intro i h1 h2
    rw [List.getElem_replicate]
    simp [vec]
/-- a purse of k kinds -/
def PurseAt (H : Hp) (k : Nat) (x : V) : Prop := ∃ (pu : Addr) (am : Nat → Int), x = .ref pu ∧ H pu = some (.tup ((vec k am).map V.int)) ∧ ∀ i, i < k → 0 ≤ am i ∧ am i ≤ 1000000
def finL : List Of := [⟨0, 2, 1, 3⟩, ⟨1, 3, 2, 1⟩, ⟨2, 1, 0, 2⟩]
def finW (m : Int) : List St := [.run 0 1, .rnd [(1, 1), (2, 1), (0, 1)] 4, .run 1 m]
def finA : Nat → Int := fun i => if i = 0 then 2 else 0
theorem fin_ok : ∀ o ∈ finL, OfOk 3 o := by
  intro o ho
  simp only [finL, List.mem_cons, List.not_mem_nil, or_false] at ho
  rcases ho with rfl | rfl | rfl <;> exact ⟨by decide, by decide, by decide, by decide, by decide, by decide, by decide⟩
theorem fin_st (m : Int) (m1 : 1 ≤ m) (m6 : m ≤ 6) : ∀ s ∈ finW m, StOk finL s ∧ StS 6 s := by
  intro s hs
  simp only [finW, List.mem_cons, List.not_mem_nil, or_false] at hs
  rcases hs with rfl | rfl | rfl
  · exact ⟨⟨by decide, by decide⟩, (by decide : (1 : Int) ≤ 6)⟩
  · refine ⟨⟨fun r hr => ?_, by decide⟩, by decide, by decide, fun r hr => ?_⟩
    · simp only [List.mem_cons, List.not_mem_nil, or_false] at hr
      rcases hr with rfl | rfl | rfl <;> exact ⟨by decide, by decide⟩
    · simp only [List.mem_cons, List.not_mem_nil, or_false] at hr
      rcases hr with rfl | rfl | rfl <;> decide
  · exact ⟨⟨(show 1 < finL.length by decide), m1⟩, m6⟩
theorem fin_one : Out 3 finL (finW 1) finA (.tuple [.int 0, .int 0, .int 1]) := .inl ⟨by unfold Cov; decide +kernel, by
  have : vec 3 (fun i => finA i + (wayT finL (finW 1)).c i) = [0, 0, 1] := by decide +kernel
  rw [this]
  rfl⟩
theorem fin_two : Out 3 finL (finW 2) finA (.list [.int 2]) := .inr ⟨2, by decide, by unfold Cov; decide +kernel, by unfold Cov; decide +kernel, rfl⟩
end Sm

set_option Elab.async false
set_option linter.all false
set_option maxRecDepth 100000
set_option maxHeartbeats 16000000
namespace Sm
open PySem PySem.Spec PyProof.Rows L2
open C8 (pss_cut tCut)
theorem PurseAt.mono {H H' : Hp} {k : Nat} {x : V} (h : PurseAt H k x) (s : ∀ b xs, H b = some (.tup xs) → H' b = some (.tup xs)) : PurseAt H' k x := by
  obtain ⟨pu, am, e, h1, h2⟩ := h
  exact ⟨pu, am, e, s _ _ h1, h2⟩
theorem fin_a0 : ∀ i, i < 3 → 0 ≤ finA i := fun i _ => by
  unfold finA
  split <;> decide
/-- the written way, in new tuples -/
theorem fin_way {H : Hp} {m : Int} {a1 a2 a3 a4 a5 a6 a7 w : Addr} (na1 : H a1 = none) (na2 : upd H a1 (.tup [.int 0, .int 1]) a2 = none) (na3 : upd (upd H a1 (.tup [.int 0, .int 1])) a2 (.tup [.int 1, .int 1]) a3 = none)
    (na4 : upd (upd (upd H a1 (.tup [.int 0, .int 1])) a2 (.tup [.int 1, .int 1])) a3 (.tup [.int 2, .int 1]) a4 = none) (na5 : upd (upd (upd (upd H a1 (.tup [.int 0, .int 1])) a2 (.tup [.int 1, .int 1])) a3 (.tup [.int 2, .int 1])) a4 (.tup [.int 0, .int 1]) a5 = none)
    (na6 : upd (upd (upd (upd (upd H a1 (.tup [.int 0, .int 1])) a2 (.tup [.int 1, .int 1])) a3 (.tup [.int 2, .int 1])) a4 (.tup [.int 0, .int 1])) a5 (.tup [.ref a2, .ref a3, .ref a4]) a6 = none)
    (na7 : upd (upd (upd (upd (upd (upd H a1 (.tup [.int 0, .int 1])) a2 (.tup [.int 1, .int 1])) a3 (.tup [.int 2, .int 1])) a4 (.tup [.int 0, .int 1])) a5 (.tup [.ref a2, .ref a3, .ref a4])) a6 (.tup [.ref a5, .int 4]) a7 = none)
    (nw : upd (upd (upd (upd (upd (upd (upd H a1 (.tup [.int 0, .int 1])) a2 (.tup [.int 1, .int 1])) a3 (.tup [.int 2, .int 1])) a4 (.tup [.int 0, .int 1])) a5 (.tup [.ref a2, .ref a3, .ref a4])) a6 (.tup [.ref a5, .int 4])) a7 (.tup [.int 1, .int m]) w = none) :
    ∃ H', H' = upd (upd (upd (upd (upd (upd (upd (upd H a1 (.tup [.int 0, .int 1])) a2 (.tup [.int 1, .int 1])) a3 (.tup [.int 2, .int 1])) a4 (.tup [.int 0, .int 1])) a5 (.tup [.ref a2, .ref a3, .ref a4])) a6 (.tup [.ref a5, .int 4])) a7 (.tup [.int 1, .int m])) w (.tup [.ref a1, .ref a6, .ref a7]) ∧ Same H H' ∧ WayAt H' w (finW m) := by
  have u1 := same_upd (o := .tup [.int 0, .int 1]) na1
  have u2 := same_upd (o := .tup [.int 1, .int 1]) na2
  have u3 := same_upd (o := .tup [.int 2, .int 1]) na3
  have u4 := same_upd (o := .tup [.int 0, .int 1]) na4
  have u5 := same_upd (o := .tup [.ref a2, .ref a3, .ref a4]) na5
  have u6 := same_upd (o := .tup [.ref a5, .int 4]) na6
  have u7 := same_upd (o := .tup [.int 1, .int m]) na7
  have u8 := same_upd (o := .tup [.ref a1, .ref a6, .ref a7]) nw
  refine ⟨_, rfl, u1.trans (u2.trans (u3.trans (u4.trans (u5.trans (u6.trans (u7.trans u8)))))), [a1, a6, a7], upd_same, rfl, fun i q e => ?_⟩
  match i, e with
  | 0, e => cases e; exact ⟨_, rfl, (u2.trans (u3.trans (u4.trans (u5.trans (u6.trans (u7.trans u8)))))) _ _ upd_same⟩
  | 1, e =>
    cases e
    refine ⟨_, rfl, a5, [a2, a3, a4], (u7.trans u8) _ _ upd_same, (u6.trans (u7.trans u8)) _ _ upd_same, rfl, fun i q e => ?_⟩
    match i, e with
    | 0, e => cases e; exact ⟨_, rfl, (u3.trans (u4.trans (u5.trans (u6.trans (u7.trans u8))))) _ _ upd_same⟩
    | 1, e => cases e; exact ⟨_, rfl, (u4.trans (u5.trans (u6.trans (u7.trans u8)))) _ _ upd_same⟩
    | 2, e => cases e; exact ⟨_, rfl, (u5.trans (u6.trans (u7.trans u8))) _ _ upd_same⟩
  | 2, e => cases e; exact ⟨_, rfl, u8 _ _ upd_same⟩
def sp_law (K : PySem.W.Frag) : Sp := fun vs H Q _ => ∃ (a : Addr) (ns : List Int), vs = [.ref a] ∧ SqL K H a (ns.map V.int) ∧ ns.length ≤ 63 ∧ ∀ H', Q (.bl true) H'
section
variable {P : Program} {w : World} {K : PySem.W.Frag} {mg : Str → Option Value} {base : Heap}
abbrev s_law : Stmt := topS 18
abbrev N_law : List Str := ["_law_script", "_law_deck_here", "_law_turn", "_law_kinds", "_law_board_here", "_law_way_here", "_law_rich", "_law_poor", "_law_shown", "_law_purse", "_law_due", "_law_told_here", "_law_k", "_law_again"]
theorem sc_law : FnScope N_law ["_law_script"] (defScope s_law) := ⟨rfl, rfl, rfl, by decide +kernel, rfl, by decide +kernel, by decide +kernel⟩
theorem ok_lawG {f : Addr} {fd : FuncData} (T : Txt mg) (F : Fun K "law" "law" s_law f fd) (C_l_told : Cal P w K mg base "_law_told" ["_law_board_here", "_law_purse", "_law_way_here"] 6 (sp_l_told K)) (C_l_tight : Cal P w K mg base "_law_tight" ["_law_deck_here", "_law_board_here", "_law_way_here"] 2 (sp_l_tight K)) (C_l_walked : Cal P w K mg base "_law_walked" ["_law_board_here", "_law_purse", "_law_way_here"] 2 (sp_l_walked K)) (C_l_draw : Cal P w K mg base "_law_draw" ["_law_deck_here", "_law_many"] 1 (sp_l_draw K)) (C_l_way : Cal P w K mg base "_law_way" ["_law_deck_here", "_law_board_here", "_law_steps", "_law_times"] 2 (sp_l_way K)) (C_l_board : Cal P w K mg base "_law_board" ["_law_deck_here", "_law_kinds", "_law_upto", "_law_top"] 2 (sp_l_board K)) (C_l_deck : Cal P w K mg base "_law_deck" ["_law_script"] 1 (sp_l_deck K)) : FnG P w K mg base 7 f fd ["_law_script"] (sp_law K) := by
  obtain ⟨f_l_told, fd_l_told, G_l_told, m_l_told, k_l_told, b_l_told⟩ := C_l_told
  obtain ⟨f_l_tight, fd_l_tight, G_l_tight, m_l_tight, k_l_tight, b_l_tight⟩ := C_l_tight
  obtain ⟨f_l_walked, fd_l_walked, G_l_walked, m_l_walked, k_l_walked, b_l_walked⟩ := C_l_walked
  obtain ⟨f_l_draw, fd_l_draw, G_l_draw, m_l_draw, k_l_draw, b_l_draw⟩ := C_l_draw
  obtain ⟨f_l_way, fd_l_way, G_l_way, m_l_way, k_l_way, b_l_way⟩ := C_l_way
  obtain ⟨f_l_board, fd_l_board, G_l_board, m_l_board, k_l_board, b_l_board⟩ := C_l_board
  obtain ⟨f_l_deck, fd_l_deck, G_l_deck, m_l_deck, k_l_deck, b_l_deck⟩ := C_l_deck
  refine FnG.body F sc_law (fun vs H Q E h => ?_) (fun cdv A outer s H vs Q E gu hr h => ?_)
  · obtain ⟨a, ns, rfl, _⟩ := h
    rfl
  obtain ⟨a, ns, rfl, hS, hlen, kk⟩ := h
  refine ⟨_, (pss_cons (ps_set (i := 1) sc_law.nd rfl (Or.inr rfl) (pe_call G_l_deck (hr.mono (by decide)) (by rfl) m_l_deck k_l_deck b_l_deck .nil pass0 (pa_cons (pv 0) pa_nil)))
    (pss_cons (ps_for PassesOwn.never rfl (pi_range1 (by rfl) T.n_range (pa_cons pe_int pa_nil)) (pg_name (i := 2) sc_law.nd rfl (Or.inl rfl))
      (pss_cons (ps_set (i := 3) sc_law.nd rfl (Or.inl rfl) (pe_ix ix_list (pe_lst (pa_cons pe_int (pa_cons pe_int (pa_cons pe_int (pa_cons pe_int (pa_cons pe_int pa_nil)))))) (pe_op op_modN (pv 2) pe_int) (fun _ _ => rfl)))
    (pss_cons (ps_set (i := 4) sc_law.nd rfl (Or.inr rfl) (pe_call G_l_board (hr.mono (by decide)) (by rfl) m_l_board k_l_board b_l_board .nil pass0 (pa_cons (pv 1) (pa_cons (pv 3) (pa_cons (pe_ix ix_list (pe_lst (pa_cons pe_int (pa_cons pe_int (pa_cons pe_int pa_nil)))) (pe_op op_modN (pv 2) pe_int) (fun _ _ => rfl)) (pa_cons (pe_ix ix_list (pe_lst (pa_cons pe_int (pa_cons pe_int pa_nil))) (pe_op op_modN (pv 2) pe_int) (fun _ _ => rfl)) pa_nil))))))
    (pss_cut (ps_set (i := 5) sc_law.nd rfl (Or.inr rfl) (pe_call G_l_way (hr.mono (by decide)) (by rfl) m_l_way k_l_way b_l_way .nil pass0 (pa_cons (pv 1) (pa_cons (pv 4) (pa_cons pe_int (pa_cons (pe_ix ix_list (pe_lst (pa_cons pe_int (pa_cons pe_int pa_nil))) (pe_call G_l_draw (hr.mono (by decide)) (by rfl) m_l_draw k_l_draw b_l_draw .nil pass0 (pa_cons (pv 1) (pa_cons pe_int pa_nil))) (fun _ _ => rfl)) pa_nil))))))
    (pss_cut (ps_set (i := 6) sc_law.nd rfl (Or.inl rfl) (pe_callTy call_tuple_of (by rfl) T.n_tuple (by decide +kernel) (pa_cons (pe_lc (own := [("_law_k", 12)]) (g := gName 12) (tt := tYes) rfl sc_law.nd (pi_range1 (by rfl) T.n_range (pa_cons (pv 3) pa_nil)) (blkOk_by (own := [("_law_k", 12)]) (N := N_law) (sc := defScope s_law) (by decide +kernel)) (fun _ _ _ _ _ => pg_name (i := 12) sc_law.nd rfl (Or.inl rfl)) (fun _ _ _ _ _ => pts_nil) (fun _ _ _ _ _ => (pe_call G_l_draw (hr.mono (by decide)) (by rfl) m_l_draw k_l_draw b_l_draw .nil pass0 (pa_cons (pv 1) (pa_cons (pe_op op_add (pe_op op_pow pe_int pe_int) pe_int) pa_nil))))) pa_nil)))
    (pss_cut (ps_set (i := 7) sc_law.nd rfl (Or.inl rfl) (pe_callTy call_tuple_of (by rfl) T.n_tuple (by decide +kernel) (pa_cons (pe_lc (own := [("_law_k", 12)]) (g := gName 12) (tt := tYes) rfl sc_law.nd (pi_range1 (by rfl) T.n_range (pa_cons (pv 3) pa_nil)) (blkOk_by (own := [("_law_k", 12)]) (N := N_law) (sc := defScope s_law) (by decide +kernel)) (fun _ _ _ _ _ => pg_name (i := 12) sc_law.nd rfl (Or.inl rfl)) (fun _ _ _ _ _ => pts_nil) (fun _ _ _ _ _ => (pe_call G_l_draw (hr.mono (by decide)) (by rfl) m_l_draw k_l_draw b_l_draw .nil pass0 (pa_cons (pv 1) (pa_cons pe_int pa_nil))))) pa_nil)))
    (pss_cons (ps_set (i := 8) sc_law.nd rfl (Or.inl rfl) (pe_callB (call_repr_data gu ⟨_, hr⟩) (by rfl) T.n_repr (by decide +kernel) (pa_cons (pe_lst (pa_cons (pv 4) (pa_cons (pv 5) pa_nil))) pa_nil)))
    (pss_cons (ps_for PassesOwn.never rfl (pi_list (pe_lst (pa_cons (pv 7) (pa_cons (pv 6) (pa_cons (pe_call G_l_tight (hr.mono (by decide)) (by rfl) m_l_tight k_l_tight b_l_tight .nil pass0 (pa_cons (pv 1) (pa_cons (pv 4) (pa_cons (pv 5) pa_nil)))) (pa_cons (pe_op op_rep0 (pe_tup (pa_cons pe_int pa_nil)) (pv 3)) (pa_cons (pe_op op_rep0 (pe_tup (pa_cons (pe_op op_pow pe_int pe_int) pa_nil)) (pv 3)) pa_nil))))))) (pg_name (i := 9) sc_law.nd rfl (Or.inr rfl))
      (pss_cut (ps_set (i := 10) sc_law.nd rfl (Or.inl rfl) (pe_callB (call_repr_data gu ⟨_, hr⟩) (by rfl) T.n_repr (by decide +kernel) (pa_cons (pe_call G_l_walked (hr.mono (by decide)) (by rfl) m_l_walked k_l_walked b_l_walked .nil pass0 (pa_cons (pv 4) (pa_cons (pv 9) (pa_cons (pv 5) pa_nil)))) pa_nil)))
    (pss_cut (ps_if (pt_cmpR (op_neP hr.units) (pe_lc (own := [("_law_again", 13)]) (g := gName 13) (tt := tYes) rfl sc_law.nd (pi_range1 (by rfl) T.n_range (pa_cons pe_int pa_nil)) (blkOk_by (own := [("_law_again", 13)]) (N := N_law) (sc := defScope s_law) (by decide +kernel)) (fun _ _ _ _ _ => pg_name (i := 13) sc_law.nd rfl (Or.inl rfl)) (fun _ _ _ _ _ => pts_nil) (fun _ _ _ _ _ => (pe_callB (show CallR _ _ (fun xs H Q => ∃ a d, xs = [.ref a] ∧ Dp K H (.ref a) d ∧ PyData.showable d = true ∧ PyData.hasDict d = false ∧ d.depth ≤ 60 ∧ d.shown.length ≤ sizeLine ∧ Q (.str d.shown) H) from (call_repr_data gu ⟨_, hr⟩)) (by rfl) T.n_repr (by decide +kernel) (pa_cons (pe_call G_l_told (hr.mono (by decide)) (by rfl) m_l_told k_l_told b_l_told .nil pass0 (pa_cons (pv 4) (pa_cons (pv 9) (pa_cons (pv 5) pa_nil)))) pa_nil)))) (pe_lst (pa_cons (pv 10) (pa_cons (pv 10) pa_nil))) (nomark _)) (pss_one (ps_ret pe_bl)) pss_nil)
    (pss_one (ps_if (pt_cmpR op_ne (pe_callB (call_repr_data gu ⟨_, hr⟩) (by rfl) T.n_repr (by decide +kernel) (pa_cons (pe_call G_l_told (hr.mono (by decide)) (by rfl) m_l_told k_l_told b_l_told .nil pass0 (pa_cons (pv 4) (pa_cons (pv 9) (pa_cons (pe_tup pa_nil) pa_nil)))) pa_nil)) (pe_callB (call_repr_data gu ⟨_, hr⟩) (by rfl) T.n_repr (by decide +kernel) (pa_cons (pv 9) pa_nil)) (nomark _)) (pss_one (ps_ret pe_bl)) pss_nil)))))
    (pss_one (ps_if (pt_cmpR op_ne (pe_callB (call_repr_data gu ⟨_, hr⟩) (by rfl) T.n_repr (by decide +kernel) (pa_cons (pe_lst (pa_cons (pv 4) (pa_cons (pv 5) pa_nil))) pa_nil)) (pv 8) (nomark _)) (pss_one (ps_ret pe_bl)) pss_nil))))))))))
    (pss_cons (ps_set (i := 4) sc_law.nd rfl (Or.inr rfl) (pe_tup (pa_cons pe_int (pa_cons (pe_tup (pa_cons (pe_tup (pa_cons pe_int (pa_cons pe_int (pa_cons pe_int (pa_cons pe_int pa_nil))))) (pa_cons (pe_tup (pa_cons pe_int (pa_cons pe_int (pa_cons pe_int (pa_cons pe_int pa_nil))))) (pa_cons (pe_tup (pa_cons pe_int (pa_cons pe_int (pa_cons pe_int (pa_cons pe_int pa_nil))))) pa_nil)))) pa_nil))))
    (pss_cut (ps_set (i := 11) sc_law.nd rfl (Or.inl rfl) (pe_lst (pa_cons (pe_call G_l_told (hr.mono (by decide)) (by rfl) m_l_told k_l_told b_l_told .nil pass0 (pa_cons (pv 4) (pa_cons (pe_tup (pa_cons pe_int (pa_cons pe_int (pa_cons pe_int pa_nil)))) (pa_cons (pe_tup (pa_cons (pe_tup (pa_cons pe_int (pa_cons pe_int pa_nil))) (pa_cons (pe_tup (pa_cons (pe_tup (pa_cons (pe_tup (pa_cons pe_int (pa_cons pe_int pa_nil))) (pa_cons (pe_tup (pa_cons pe_int (pa_cons pe_int pa_nil))) (pa_cons (pe_tup (pa_cons pe_int (pa_cons pe_int pa_nil))) pa_nil)))) (pa_cons pe_int pa_nil))) (pa_cons (pe_tup (pa_cons pe_int (pa_cons pe_int pa_nil))) pa_nil)))) pa_nil)))) pa_nil)))
    (pss_cons (ps_expr (pe_bm PySem.F.plainAttrs_list PySem.F.slot_list_append PySem.F.type_list_append mt_append (pv 11) (pa_cons (pe_call G_l_told (hr.mono (by decide)) (by rfl) m_l_told k_l_told b_l_told .nil pass0 (pa_cons (pv 4) (pa_cons (pe_tup (pa_cons pe_int (pa_cons pe_int (pa_cons pe_int pa_nil)))) (pa_cons (pe_tup (pa_cons (pe_tup (pa_cons pe_int (pa_cons pe_int pa_nil))) (pa_cons (pe_tup (pa_cons (pe_tup (pa_cons (pe_tup (pa_cons pe_int (pa_cons pe_int pa_nil))) (pa_cons (pe_tup (pa_cons pe_int (pa_cons pe_int pa_nil))) (pa_cons (pe_tup (pa_cons pe_int (pa_cons pe_int pa_nil))) pa_nil)))) (pa_cons pe_int pa_nil))) (pa_cons (pe_tup (pa_cons pe_int (pa_cons pe_int pa_nil))) pa_nil)))) pa_nil)))) pa_nil)))
    (pss_one (ps_ret (pe_cmpR (op_eqD hr.units) (pv 11) (pe_lst (pa_cons (pe_tup (pa_cons pe_int (pa_cons pe_int (pa_cons pe_int pa_nil)))) (pa_cons (pe_lst (pa_cons pe_int pa_nil)) pa_nil))) (nomark _))))))))), ?_⟩
  refine ⟨_, rfl, a, ns, rfl, hS, hlen, fun H1 p l s1 D1 => ?_⟩
  refine ⟨30, rfl, (by decide), (by decide), for_range (lo := 0) (n := 30) (fun i σ H' => ∃ (n : Int) (v2 v3 v4 v5 v6 v7 v8 v9 v10 : Option V), σ = [some (.ref a), some (.ref p), v2, v3, v4, v5, v6, v7, v8, v9, v10, none, none, none] ∧ Deck H' p l n ∧ 0 ≤ n ∧ n ≤ 3000 * (i : Int))
    ⟨0, none, none, none, none, none, none, none, none, none, rfl, D1, by omega, by omega⟩ ?_ ?_⟩
  · rintro i σ H2 hi ⟨n, v2, v3, v4, v5, v6, v7, v8, v9, v10, rfl, D2, n0, n1⟩
    refine ⟨(by show 5 ≤ sizeLine; decide), fun b1 nb1 => ?_⟩
    have sb1 := same_upd (o := .lst [.int 3, .int 2, .int 4, .int 3, .int 1]) nb1
    have fm5 : (0 + (i : Int)).fmod 5 = (0 + (i : Int)) % 5 := fmod_pos (by decide)
    have fm3 : (0 + (i : Int)).fmod 3 = (0 + (i : Int)) % 3 := fmod_pos (by decide)
    have fm2 : (0 + (i : Int)).fmod 2 = (0 + (i : Int)) % 2 := fmod_pos (by decide)
    obtain ⟨kz, hkz, kz5⟩ := pick5 (a := 3) (b := 2) (c := 4) (d := 3) (e := 1) (r := (0 + (i : Int)).fmod 5) (by rw [fm5]; omega) (by rw [fm5]; omega)
    obtain ⟨k, rfl⟩ : ∃ k : Nat, kz = (k : Int) := ⟨kz.toNat, by omega⟩
    obtain ⟨u, hu, hu3⟩ := pick3 (a := 40) (b := 8) (c := 12) (r := (0 + (i : Int)).fmod 3) (by rw [fm3]; omega) (by rw [fm3]; omega)
    obtain ⟨tp, htp, htp2⟩ := pick2 (a := 30) (b := 8) (r := (0 + (i : Int)).fmod 2) (by rw [fm2]; omega) (by rw [fm2]; omega)
    refine ⟨_, rfl, _, _, rfl, rfl, (show (5 : Int) ≠ 0 by decide), _, _, _, _, rfl, rfl, SqL.of upd_same, at_of (j := ((0 + (i : Int)).fmod 5).toNat) (by rw [fm5]; omega) hkz, ?_⟩
    refine ⟨_, rfl, _, rfl, (by show 3 ≤ sizeLine; decide), fun b2 nb2 => ?_⟩
    have sb2 := same_upd (o := .lst [.int 40, .int 8, .int 12]) nb2
    refine ⟨_, rfl, _, _, rfl, rfl, (show (3 : Int) ≠ 0 by decide), _, _, _, _, rfl, rfl, SqL.of upd_same, at_of (j := ((0 + (i : Int)).fmod 3).toNat) (by rw [fm3]; omega) hu, ?_⟩
    refine ⟨(by show 2 ≤ sizeLine; decide), fun b3 nb3 => ?_⟩
    have sb3 := same_upd (o := .lst [.int 30, .int 8]) nb3
    refine ⟨_, rfl, _, _, rfl, rfl, (show (2 : Int) ≠ 0 by decide), _, _, _, _, rfl, rfl, SqL.of upd_same, at_of (j := ((0 + (i : Int)).fmod 2).toNat) (by rw [fm2]; omega) htp, ?_⟩
    refine ⟨p, l, n, k, u, tp, rfl, ((D2.same sb1).same sb2).same sb3, n0, by omega, by omega, by omega, by omega, by omega, by omega, by omega, fun H3 d L n3 f3 D3 m0 m1 B3 ok l64 => ?_⟩
    clear sb1 sb2 sb3 nb1 nb2 nb3 hkz hu htp fm5 fm3 fm2
    have k4 : k ≤ 4 := by omega
    have k1 : 1 ≤ k := by omega
    have lv : ∀ f : Nat → Int, ((vec k f).map V.int).length = k := fun f => by rw [List.length_map, vec_len]
    refine ⟨fun σ H' => ∃ (w : Addr) (ss : List St) (n' : Int), σ = [some (.ref a), some (.ref p), some (.int (0 + (i : Int))), some (.int (k : Int)), some (.ref d), some (.ref w), v6, v7, v8, v9, v10, none, none, none] ∧ Deck H' p l n' ∧ n ≤ n' ∧ n' ≤ n + 500 ∧ BoardAt H' d k L ∧ WayAt H' w ss ∧ (∀ s ∈ ss, StOk L s ∧ StS 6 s) ∧ ss.length ≤ 10, ?_, ?_⟩
    · refine ⟨_, rfl, _, rfl, (by show 2 ≤ sizeLine; decide), fun b4 nb4 => ?_⟩
      have sb4 := same_upd (o := .lst [.int 2, .int 6]) nb4
      obtain ⟨bp, bl⟩ := D3.lne nb4
      refine ⟨_, rfl, p, l, n3, 2, rfl, D3.same sb4, by omega, by omega, by decide, by decide, fun r H4 r0 r1 f4 D4 => ?_⟩
      obtain ⟨ti, hti, hti2⟩ := pick2 (a := 2) (b := 6) r0 r1
      refine ⟨_, _, _, _, rfl, rfl, SqL.of (f4 b4 _ bp bl upd_same), at_of (j := r.toNat) (by omega) hti, ?_⟩
      have B4 := (B3.same sb4).fr f4 (D3.same sb4)
      refine ⟨p, l, d, n3 + 1, k, L, 6, ti, rfl, D4, by omega, by omega, B4, l64, by decide, by decide, by omega, by omega, fun H5 w ss n5 f5 D5 q0 q1 W hs l10 => ?_⟩
      exact ⟨w, ss, n5, rfl, D5, by omega, by omega, B4.fr f5 D4, W, fun s h => ⟨(hs s h).1, by
        have h2 := (hs s h).2
        match s, h2 with
        | .run _ m, h2 => exact Int.le_trans h2 (by omega)
        | .rnd rs m, ⟨h3, h4, h5⟩ => exact ⟨h3, by omega, fun r hr => Int.le_trans (h5 r hr) (by omega)⟩⟩, l10⟩
    rintro σ H4 ⟨w, ss, n4, rfl, D4, m2, m3, B, W, hs, l10⟩
    clear D2 D3 B3
    have hD : ∀ s ∈ ss, StD L s := fun s h => st_D ok (hs s h).1 (hs s h).2
    obtain ⟨c1, c2, c3, c4⟩ := bw_show ok k4 l64 hs (by omega)
    -- rich and poor
    have draws : ∀ {Hx : Hp} {nx : Int} {tx : Int → Prop}, True := fun {_ _ _} => trivial
    refine ⟨fun σ H' => ∃ (x : V) (n' : Int), σ = [some (.ref a), some (.ref p), some (.int (0 + (i : Int))), some (.int (k : Int)), some (.ref d), some (.ref w), some x, v7, v8, v9, v10, none, none, none] ∧ Deck H' p l n' ∧ n ≤ n' ∧ n' ≤ n + 510 ∧ Fr p l H4 H' ∧ PurseAt H' k x, ?_, ?_⟩
    · refine ⟨_, rfl, _, rfl, (by omega), (by omega), fun U nU => ?_⟩
      obtain ⟨Up, Ul⟩ := D4.lne nU
      have sU := same_upd (o := .lst []) nU
      have hnU : ∀ b o, H4 b = some o → b ≠ U := fun b o hb => ne_of_none hb nU
      rw [Int.toNat_natCast]
      refine lc_range (lo := 0) (n := k) (fun j H' => ∃ (n2 : Int) (g : Nat → Int), Fr p l H4 H' ∧ Deck H' p l n2 ∧ n4 ≤ n2 ∧ n2 ≤ n4 + (j : Int) ∧ H' U = some (.lst ((vec j g).map V.int)) ∧ ∀ x, x < j → 0 ≤ g x ∧ g x ≤ 1000000)
        ⟨n4, fun _ => 0, Same.fr sU, D4.same sU, by omega, by omega, upd_same, fun x hx => absurd hx (Nat.not_lt_zero _)⟩ ?_ ?_
      · rintro j H5 hj ⟨n2, g, f5, D5, q0, q1, hU, hg⟩
        refine ⟨rfl, ?_⟩
        unfold tYes
        refine iteT ?_
        refine ⟨_, rfl, ⟨_, _, rfl, rfl, ⟨by decide, by decide, by decide⟩, _, _, rfl, rfl, p, l, n2, _, rfl, D5, by omega, by omega, by decide, by decide, fun r H6 r0 r1 f6 D6 => ?_⟩⟩
        have e6 : (10 : Int) ^ (Int.toNat 6) = 1000000 := by decide
        have hU6 := f6 U _ Up Ul hU
        refine ⟨_, hU6, ?_, n2 + 1, (fun x => if x = j then r else g x), fun b o h1 h2 hb => ?_, ⟨?_, ?_⟩, by omega, by omega, ?_, fun x hx => ?_⟩
        · rw [List.length_map, vec_len]
          exact Nat.lt_of_le_of_lt (show j ≤ 4 by omega) (by decide)
        · rw [upd_ne (hnU b o hb)]
          exact f6 b o h1 h2 (f5 b o h1 h2 hb)
        · rw [upd_ne Up.symm]
          exact D6.hp
        · obtain ⟨cells, e1, e2⟩ := D6.hl
          exact ⟨cells, by rw [upd_ne Ul.symm]; exact e1, e2⟩
        · rw [upd_same, vec_succ, List.map_append, vec_congr (k := j) (f := fun x => if x = j then r else g x) (g := g) fun x hx => if_neg (by omega)]
          show _ = some (HO.lst (_ ++ [V.int (if j = j then _ else _)]))
          rw [if_pos rfl]
        · show 0 ≤ (if x = j then _ else g x) ∧ (if x = j then _ else g x) ≤ _
          by_cases e : x = j
          · rw [if_pos e]
            omega
          · rw [if_neg e]
            exact hg x (by omega)
      rintro H5 ⟨n2, g, f5, D5, q0, q1, hU, hg⟩
      refine ⟨_, _, rfl, .inl ⟨SqL.of hU, fun pu npu => ?_⟩⟩
      have sp := same_upd (o := .tup ((vec k g).map V.int)) npu
      exact ⟨.ref pu, n2, rfl, D5.same sp, by omega, by omega, f5.trans (Same.fr sp), pu, g, rfl, upd_same, hg⟩
    rintro σ H5 ⟨rich, n5, rfl, D5, m4, m5, f5, pR⟩
    have B5 := B.fr f5 D4
    have W5 := W.fr f5 D4
    clear D4 B W f5
    refine ⟨fun σ H' => ∃ (x : V) (n' : Int), σ = [some (.ref a), some (.ref p), some (.int (0 + (i : Int))), some (.int (k : Int)), some (.ref d), some (.ref w), some rich, some x, v8, v9, v10, none, none, none] ∧ Deck H' p l n' ∧ n ≤ n' ∧ n' ≤ n + 520 ∧ Fr p l H5 H' ∧ PurseAt H' k x, ?_, ?_⟩
    · refine ⟨_, rfl, _, rfl, (by omega), (by omega), fun U nU => ?_⟩
      obtain ⟨Up, Ul⟩ := D5.lne nU
      have sU := same_upd (o := .lst []) nU
      have hnU : ∀ b o, H5 b = some o → b ≠ U := fun b o hb => ne_of_none hb nU
      rw [Int.toNat_natCast]
      refine lc_range (lo := 0) (n := k) (fun j H' => ∃ (n2 : Int) (g : Nat → Int), Fr p l H5 H' ∧ Deck H' p l n2 ∧ n5 ≤ n2 ∧ n2 ≤ n5 + (j : Int) ∧ H' U = some (.lst ((vec j g).map V.int)) ∧ ∀ x, x < j → 0 ≤ g x ∧ g x ≤ 1000000)
        ⟨n5, fun _ => 0, Same.fr sU, D5.same sU, by omega, by omega, upd_same, fun x hx => absurd hx (Nat.not_lt_zero _)⟩ ?_ ?_
      · rintro j H6 hj ⟨n2, g, f6, D6, q0, q1, hU, hg⟩
        refine ⟨rfl, ?_⟩
        unfold tYes
        refine iteT ?_
        refine ⟨_, rfl, p, l, n2, 40, rfl, D6, by omega, by omega, by decide, by decide, fun r H7 r0 r1 f7 D7 => ?_⟩
        have hU7 := f7 U _ Up Ul hU
        refine ⟨_, hU7, ?_, n2 + 1, (fun x => if x = j then r else g x), fun b o h1 h2 hb => ?_, ⟨?_, ?_⟩, by omega, by omega, ?_, fun x hx => ?_⟩
        · rw [List.length_map, vec_len]
          exact Nat.lt_of_le_of_lt (show j ≤ 4 by omega) (by decide)
        · rw [upd_ne (hnU b o hb)]
          exact f7 b o h1 h2 (f6 b o h1 h2 hb)
        · rw [upd_ne Up.symm]
          exact D7.hp
        · obtain ⟨cells, e1, e2⟩ := D7.hl
          exact ⟨cells, by rw [upd_ne Ul.symm]; exact e1, e2⟩
        · rw [upd_same, vec_succ, List.map_append, vec_congr (k := j) (f := fun x => if x = j then r else g x) (g := g) fun x hx => if_neg (by omega)]
          show _ = some (HO.lst (_ ++ [V.int (if j = j then _ else _)]))
          rw [if_pos rfl]
        · show 0 ≤ (if x = j then _ else g x) ∧ (if x = j then _ else g x) ≤ _
          by_cases e : x = j
          · rw [if_pos e]
            omega
          · rw [if_neg e]
            exact hg x (by omega)
      rintro H6 ⟨n2, g, f6, D6, q0, q1, hU, hg⟩
      refine ⟨_, _, rfl, .inl ⟨SqL.of hU, fun pu npu => ?_⟩⟩
      have sp := same_upd (o := .tup ((vec k g).map V.int)) npu
      exact ⟨.ref pu, n2, rfl, D6.same sp, by omega, by omega, f6.trans (Same.fr sp), pu, g, rfl, upd_same, hg⟩
    rintro σ H6 ⟨poor, n6, rfl, D6, m6, m7, f6, pP⟩
    have B6 := B5.fr f6 D5
    have W6 := W5.fr f6 D5
    have pR6 := pR.mono fun b xs e => f6.tup D5 e
    clear D5 B5 W5 f6 pR
    refine ⟨_, rfl, _, rfl, (by show 2 ≤ sizeLine; decide), fun x1 nx1 => ?_⟩
    have sx1 := same_upd (o := .lst [.ref d, .ref w]) nx1
    refine ⟨x1, .list [bD k L, wD ss], rfl, .lst (SqL.of upd_same) (.cons (B6.same sx1).dp (.cons (W6.same sx1).dp .nil)), c1, c2, c3, c4, ?_⟩
    -- the purses
    have D7 := D6.same sx1
    have B7 := B6.same sx1
    have W7 := W6.same sx1
    have pR7 := pR6.mono fun b xs e => sx1 _ _ e
    have pP7 := pP.mono fun b xs e => sx1 _ _ e
    generalize upd H6 x1 (.lst [.ref d, .ref w]) = H7 at D7 B7 W7 pR7 pP7 ⊢
    clear D6 B6 W6 pR6 pP sx1 nx1
    refine ⟨_, rfl, _, rfl, _, rfl, _, rfl, _, rfl, p, l, d, w, n6, k, L, ss, rfl, D7, by omega, by omega, B7, ok, k4, W7, hs, l10, fun H8 q g n8 f8 D8 q0 q1 hq hg => ?_⟩
    refine ⟨(by show 1 ≤ sizeLine; decide), fun z nz => ?_⟩
    have sz := same_upd (o := .tup [.int 0]) nz
    refine ⟨_, rfl, z, _, _, rfl, rfl, upd_same, (fun q => nomatch q), (by omega), (by omega), (by show 1 ≤ 1000; decide), fun H9 z0 s9 hz0 => ?_⟩
    rw [consts] at hz0
    refine ⟨_, _, rfl, rfl, ⟨by decide, by decide, by decide⟩, (by show 1 ≤ sizeLine; decide), fun z2 nz2 => ?_⟩
    have sz2 := same_upd (o := .tup [.int (10 ^ Int.toNat 6)]) nz2
    refine ⟨_, rfl, z2, _, _, rfl, rfl, upd_same, (fun q => nomatch q), (by omega), (by omega), (by show 1 ≤ 1000; decide), fun HA z1 sA hz1 => ?_⟩
    rw [consts] at hz1
    refine ⟨(by show 5 ≤ sizeLine; decide), fun PB nPB => ?_⟩
    have sPB := same_upd (o := .lst [poor, rich, .ref q, .ref z0, .ref z1]) nPB
    have s89 := sz.trans s9
    have s9A := sz2.trans sA
    have s8A := s89.trans s9A
    have D8A := (D8.same s8A).same sPB
    have f7 := f8.trans (Same.fr (p := p) (l := l) (s8A.trans sPB))
    have BB := B7.fr f7 D7
    have WB := W7.fr f7 D7
    have all : ∀ x ∈ [poor, rich, .ref q, .ref z0, .ref z1], PurseAt (upd HA PB (.lst [poor, rich, .ref q, .ref z0, .ref z1])) k x := fun x hx => by
      simp only [List.mem_cons, List.not_mem_nil, or_false] at hx
      rcases hx with rfl | rfl | rfl | rfl | rfl
      · exact pP7.mono fun b xs e => f7.tup D7 e
      · exact pR7.mono fun b xs e => f7.tup D7 e
      · exact ⟨q, g, rfl, sPB _ _ (s8A _ _ hq), fun i hi => by have := hg i hi; omega⟩
      · exact ⟨z0, _, rfl, sPB _ _ (s9A _ _ hz0), fun i hi => ⟨Int.le_refl _, by decide⟩⟩
      · exact ⟨z1, _, rfl, sPB _ _ hz1, fun i hi => ⟨by decide, by decide⟩⟩
    have hPB : upd HA PB (.lst [poor, rich, .ref q, .ref z0, .ref z1]) PB = some (.lst [poor, rich, .ref q, .ref z0, .ref z1]) := upd_same
    generalize upd HA PB (.lst [poor, rich, .ref q, .ref z0, .ref z1]) = HB at D8A BB WB all hPB ⊢
    clear sz sz2 sPB s89 s9A s8A f7 f8 D8 D7 B7 W7 pP7 pR7 hq hz0 hz1 nPB nz nz2 s9 sA
    obtain ⟨sh, hsh⟩ : ∃ sh, sh = (PyData.list [bD k L, wD ss]).shown := ⟨_, rfl⟩
    rw [← hsh]
    refine ⟨PB, rfl, ⟨_, SqL.of hPB⟩, ?_⟩
    refine for_list (K := K) (a := PB) (xs := [poor, rich, .ref q, .ref z0, .ref z1]) (fun j σ H' => ∃ v9 v10 : Option V, σ = [some (.ref a), some (.ref p), some (.int (0 + (i : Int))), some (.int (k : Int)), some (.ref d), some (.ref w), some rich, some poor, some (.str sh), v9, v10, none, none, none] ∧ Same HB H') ⟨_, _, rfl, Same.refl _⟩ (fun j σ H' _ h => by obtain ⟨_, _, _, s'⟩ := h; exact SqL.of (s' _ _ hPB)) ?_ ?_
    · rintro j x σ HC hx ⟨v9, v10, rfl, sC⟩
      obtain ⟨pu, am, rfl, hpu, ham⟩ := all x (List.mem_of_getElem? hx)
      have BC := BB.same sC
      have WC := WB.same sC
      have hpuC := sC _ _ hpu
      have am0 : ∀ i, i < k → 0 ≤ am i := fun i hi => (ham i hi).1
      refine ⟨fun σ H' => ∃ o, σ = [some (.ref a), some (.ref p), some (.int (0 + (i : Int))), some (.int (k : Int)), some (.ref d), some (.ref w), some rich, some poor, some (.str sh), some (.ref pu), some (.str (PyData.shown o)), none, none, none] ∧ Same HC H' ∧ Out k L ss am o, ?_, ?_⟩
      · refine ⟨_, rfl, _, rfl, _, rfl, d, pu, w, k, L, ss, am, rfl, BC, ok, k4, hpuC, WC, hs, by omega, am0, fun HD q2 o sD ho hat => ?_⟩
        obtain ⟨g1, g2, g3, g4⟩ := out_show ok k4 hs l10 ham ho
        exact ⟨q2, o, rfl, hat.dp, g1, g2, g3, g4, o, rfl, sD, ho⟩
      rintro σ HD ⟨o, rfl, sD, ho⟩
      obtain ⟨g1, g2, g3, g4⟩ := out_show ok k4 hs l10 ham ho
      have BD := BC.same sD
      have WD := WC.same sD
      have hpuD := sD _ _ hpuC
      refine ⟨fun σ H' => σ = [some (.ref a), some (.ref p), some (.int (0 + (i : Int))), some (.int (k : Int)), some (.ref d), some (.ref w), some rich, some poor, some (.str sh), some (.ref pu), some (.str (PyData.shown o)), none, none, none] ∧ Same HD H', ?_, ?_⟩
      · refine ⟨2, rfl, (by decide), (by decide), fun U nU => ?_⟩
        have sU := same_upd (o := .lst []) nU
        refine lc_range (lo := 0) (n := 2) (fun j H' => Same HD H' ∧ H' U = some (.lst (List.replicate j (V.str (PyData.shown o))))) ⟨sU, upd_same⟩ ?_ ?_
        · rintro j HE hj ⟨sE, hU⟩
          refine ⟨rfl, ?_⟩
          unfold tYes
          refine iteT ?_
          refine ⟨_, rfl, _, rfl, _, rfl, d, pu, w, k, L, ss, am, rfl, BD.same sE, ok, k4, sE _ _ hpuD, WD.same sE, hD, by omega, am0, fun HF q2 o' sF ho' hat => ?_⟩
          have eo := out_one ho' ho
          subst eo
          refine ⟨q2, _, rfl, hat.dp, g1, g2, g3, g4, ?_⟩
          refine ⟨_, sF _ _ hU, ?_, fun b o e => ?_, ?_⟩
          · rw [List.length_replicate]
            exact Nat.lt_of_le_of_lt (show j ≤ 4 by omega) (by decide)
          · rw [upd_ne (ne_of_none e nU)]
            exact sF _ _ (sE _ _ e)
          · rw [upd_same, List.replicate_succ']
        rintro HE ⟨sE, hU⟩
        refine ⟨_, rfl, _, rfl, (by show 2 ≤ sizeLine; decide), fun x3 nx3 => ?_⟩
        have sx3 := same_upd (o := .lst [V.str (PyData.shown o), V.str (PyData.shown o)]) nx3
        exact ⟨_, _, .lst (SqL.of (sx3 _ _ hU)) (.cons (.str _) (.cons (.str _) .nil)), .lst (SqL.of upd_same) (.cons (.str _) (.cons (.str _) .nil)), rfl, rfl, (Nat.le_of_ble_eq_true rfl), false, by rw [strs_eqv]; rfl, iteF ⟨rfl, sE.trans sx3⟩⟩
      rintro σ HE ⟨rfl, sE⟩
      refine ⟨_, rfl, _, rfl, (by show 0 ≤ sizeLine; decide), fun e ne => ?_⟩
      have se := same_upd (o := .tup []) ne
      have sDe := sE.trans se
      refine ⟨d, pu, e, k, L, [], am, rfl, BD.same sDe, ok, k4, sDe _ _ hpuD, ⟨[], upd_same, rfl, fun i q z => nomatch z⟩, (fun s h => nomatch h), Nat.zero_le _, am0, fun HF q2 o' sF ho' hat => ?_⟩
      have eo : o' = .tuple ((vec k am).map PyData.int) := by
        rw [out_one ho' (.inl ⟨fun i hi => am0 i hi, rfl⟩)]
        refine congrArg (fun l => PyData.tuple (l.map PyData.int)) (vec_congr fun i _ => ?_)
        exact Int.add_zero _
      obtain ⟨h1, h2, h3, h4⟩ := out_show ok k4 (ss := []) (fun s h => nomatch h) (by decide) ham ho'
      subst eo
      refine ⟨q2, _, rfl, hat.dp, h1, h2, h3, h4, ?_⟩
      have sDF := sDe.trans sF
      refine ⟨_, rfl, pu, _, rfl, .tup (SqT.of (sDF _ _ hpuD)) (dp_ints _), h1, h2, h3, h4, rfl, _, rfl, iteNP rfl ?_⟩
      exact ⟨_, _, rfl, sC.trans (sD.trans sDF)⟩
    · rintro σ HC ⟨v9, v10, rfl, sC⟩
      refine ⟨_, rfl, _, rfl, (by show 2 ≤ sizeLine; decide), fun x4 nx4 => ?_⟩
      have sx4 := same_upd (o := .lst [.ref d, .ref w]) nx4
      refine ⟨x4, .list [bD k L, wD ss], rfl, .lst (SqL.of upd_same) (.cons ((BB.same sC).same sx4).dp (.cons ((WB.same sC).same sx4).dp .nil)), c1, c2, c3, c4, _, rfl, rfl, _, rfl, iteNP (congrArg V.str hsh.symm) ?_⟩
      exact ⟨n8, _, _, _, _, _, _, _, _, _, rfl, (D8A.same sC).same sx4, by omega, by omega⟩
  · rintro σ H2 ⟨n, v2, v3, v4, v5, v6, v7, v8, v9, v10, rfl, D2, n0, n1⟩
    refine ⟨(by show 4 ≤ sizeLine; decide), fun o1 no1 => ⟨(by show 4 ≤ sizeLine; decide), fun o2 no2 => ⟨(by show 4 ≤ sizeLine; decide), fun o3 no3 => ⟨(by show 3 ≤ sizeLine; decide), fun tb ntb => ⟨(by show 2 ≤ sizeLine; decide), fun d nd => ?_⟩⟩⟩⟩⟩
    have u1 := same_upd (o := .tup [.int 0, .int 2, .int 1, .int 3]) no1
    have u2 := same_upd (o := .tup [.int 1, .int 3, .int 2, .int 1]) no2
    have u3 := same_upd (o := .tup [.int 2, .int 1, .int 0, .int 2]) no3
    have u4 := same_upd (o := .tup [.ref o1, .ref o2, .ref o3]) ntb
    have u5 := same_upd (o := .tup [.int 3, .ref tb]) nd
    have B : BoardAt (upd (upd (upd (upd (upd H2 o1 (.tup [.int 0, .int 2, .int 1, .int 3])) o2 (.tup [.int 1, .int 3, .int 2, .int 1])) o3 (.tup [.int 2, .int 1, .int 0, .int 2])) tb (.tup [.ref o1, .ref o2, .ref o3])) d (.tup [.int 3, .ref tb])) d 3 finL := by
      refine ⟨tb, [o1, o2, o3], upd_same, u5 _ _ upd_same, rfl, fun i q e => ?_⟩
      match i, e with
      | 0, e => cases e; exact ⟨_, rfl, (u2.trans (u3.trans (u4.trans u5))) _ _ upd_same⟩
      | 1, e => cases e; exact ⟨_, rfl, (u3.trans (u4.trans u5)) _ _ upd_same⟩
      | 2, e => cases e; exact ⟨_, rfl, (u4.trans u5) _ _ upd_same⟩
    generalize upd (upd (upd (upd (upd H2 o1 (.tup [.int 0, .int 2, .int 1, .int 3])) o2 (.tup [.int 1, .int 3, .int 2, .int 1])) o3 (.tup [.int 2, .int 1, .int 0, .int 2])) tb (.tup [.ref o1, .ref o2, .ref o3])) d (.tup [.int 3, .ref tb]) = H3 at B ⊢
    clear u1 u2 u3 u4 u5 no1 no2 no3 ntb nd
    refine ⟨fun σ H' => ∃ q lt : Addr, σ = [some (.ref a), some (.ref p), v2, v3, some (.ref d), v5, v6, v7, v8, v9, v10, some (.ref lt), none, none] ∧ BoardAt H' d 3 finL ∧ H' lt = some (.lst [.ref q]) ∧ q ≠ lt ∧ OAt H' q (.tuple [.int 0, .int 0, .int 1]), ?_, ?_⟩
    · refine ⟨_, rfl, (by show 3 ≤ sizeLine; decide), fun pu npu => ?_⟩
      refine ⟨(by show 2 ≤ sizeLine; decide), fun a1 na1 => ⟨(by show 2 ≤ sizeLine; decide), fun a2 na2 => ⟨(by show 2 ≤ sizeLine; decide), fun a3 na3 => ⟨(by show 2 ≤ sizeLine; decide), fun a4 na4 => ⟨(by show 3 ≤ sizeLine; decide), fun a5 na5 => ⟨(by show 2 ≤ sizeLine; decide), fun a6 na6 => ⟨(by show 2 ≤ sizeLine; decide), fun a7 na7 => ⟨(by show 3 ≤ sizeLine; decide), fun w nw => ?_⟩⟩⟩⟩⟩⟩⟩⟩
      have B2 := B.same (same_upd (o := .tup [.int 2, .int 0, .int 0]) npu)
      have hpu : upd H3 pu (.tup [.int 2, .int 0, .int 0]) pu = some (.tup ((vec 3 finA).map V.int)) := upd_same
      generalize upd H3 pu (.tup [.int 2, .int 0, .int 0]) = H4 at *
      obtain ⟨H5, eH, s4, W⟩ := fin_way (m := 1) na1 na2 na3 na4 na5 na6 na7 nw
      rw [← eH]
      clear eH na1 na2 na3 na4 na5 na6 na7 nw npu
      refine ⟨d, pu, w, 3, finL, finW 1, finA, rfl, B2.same s4, fin_ok, by decide, s4 _ _ hpu, W, fun s h => st_D fin_ok (fin_st 1 (by decide) (by decide) s h).1 (fin_st 1 (by decide) (by decide) s h).2, (by decide), fin_a0, fun H6 q o s6 ho hat => ?_⟩
      have eo := out_one ho fin_one
      subst eo
      refine ⟨(by show 1 ≤ sizeLine; decide), fun lt nlt => ?_⟩
      have sl := same_upd (o := .lst [.ref q]) nlt
      exact ⟨q, lt, rfl, (B2.same s4).same (s6.trans sl), upd_same, hat.ne nlt, hat.mono fun u e => sl _ _ e⟩
    rintro σ H4 ⟨q, lt, rfl, B4, hlt, qlt, hat⟩
    refine ⟨_, rfl, .inl ⟨rfl, _, SqL.of hlt⟩, ?_⟩
    refine ⟨_, rfl, (by show 3 ≤ sizeLine; decide), fun pu npu => ?_⟩
    refine ⟨(by show 2 ≤ sizeLine; decide), fun a1 na1 => ⟨(by show 2 ≤ sizeLine; decide), fun a2 na2 => ⟨(by show 2 ≤ sizeLine; decide), fun a3 na3 => ⟨(by show 2 ≤ sizeLine; decide), fun a4 na4 => ⟨(by show 3 ≤ sizeLine; decide), fun a5 na5 => ⟨(by show 2 ≤ sizeLine; decide), fun a6 na6 => ⟨(by show 2 ≤ sizeLine; decide), fun a7 na7 => ⟨(by show 3 ≤ sizeLine; decide), fun w nw => ?_⟩⟩⟩⟩⟩⟩⟩⟩
    have s4 := same_upd (o := .tup [.int 2, .int 0, .int 0]) npu
    have hpu : upd H4 pu (.tup [.int 2, .int 0, .int 0]) pu = some (.tup ((vec 3 finA).map V.int)) := upd_same
    generalize upd H4 pu (.tup [.int 2, .int 0, .int 0]) = H5 at *
    obtain ⟨H6, eH, s5, W⟩ := fin_way (m := 2) na1 na2 na3 na4 na5 na6 na7 nw
    rw [← eH]
    clear eH na1 na2 na3 na4 na5 na6 na7 nw npu
    have s46 := s4.trans s5
    refine ⟨d, pu, w, 3, finL, finW 2, finA, rfl, B4.same s46, fin_ok, by decide, s5 _ _ hpu, W, fun s h => st_D fin_ok (fin_st 2 (by decide) (by decide) s h).1 (fin_st 2 (by decide) (by decide) s h).2, (by decide), fin_a0, fun H7 q2 o s7 ho hat2 => ?_⟩
    have eo := out_one ho fin_two
    subst eo
    have s47 := s46.trans s7
    have hlt7 := s47 _ _ hlt
    have q2lt : q2 ≠ lt := fun e => by
      rw [e] at hat2
      rcases hat2 with ⟨t, z, _⟩ | ⟨j, z, h⟩
      · cases z
      · rw [hlt7] at h
        cases h
    refine ⟨lt, _, _, rfl, rfl, hlt7, (by show 1 < sizeLine; decide), ?_⟩
    have hat1 : OAt (upd H7 lt (.lst [.ref q, .ref q2])) q (.tuple [.int 0, .int 0, .int 1]) := hat.mono fun u e => by rw [upd_ne qlt]; exact s47 _ _ e
    have hat3 : OAt (upd H7 lt (.lst [.ref q, .ref q2])) q2 (.list [.int 2]) := hat2.mono fun u e => by rw [upd_ne q2lt]; exact e
    have hl : upd H7 lt (.lst [.ref q, .ref q2]) lt = some (.lst [.ref q, .ref q2]) := upd_same
    refine ⟨_, rfl, (by show 3 ≤ sizeLine; decide), fun e1 ne1 => ⟨(by show 1 ≤ sizeLine; decide), fun e2 ne2 => ⟨(by show 2 ≤ sizeLine; decide), fun e3 ne3 => ?_⟩⟩⟩
    have t1 := same_upd (o := .tup [.int 0, .int 0, .int 1]) ne1
    have t2 := same_upd (o := .lst [.int 2]) ne2
    have t3 := same_upd (o := .lst [.ref e1, .ref e2]) ne3
    have t13 := t1.trans (t2.trans t3)
    refine ⟨.list [.tuple [.int 0, .int 0, .int 1], .list [.int 2]], .list [.tuple [.int 0, .int 0, .int 1], .list [.int 2]], .lst (SqL.of (t13 _ _ hl)) (.cons (hat1.mono fun u e => t13 _ _ e).dp (.cons (hat3.mono fun u e => t13 _ _ e).dp .nil)),
      .lst (SqL.of upd_same) (.cons (.tup (SqT.of (t3 _ _ (t2 _ _ upd_same))) (dp_ints [0, 0, 1])) (.cons (.lst (SqL.of (t3 _ _ upd_same)) (dp_ints [2])) .nil)), by decide +kernel, by decide +kernel, ?_⟩
    rw [show PyData.eqv (.list [.tuple [.int 0, .int 0, .int 1], .list [.int 2]]) (.list [.tuple [.int 0, .int 0, .int 1], .list [.int 2]]) = true by decide +kernel]
    exact kk _
end
end Sm

set_option Elab.async false
set_option linter.all false
set_option maxRecDepth 100000
set_option maxHeartbeats 16000000
namespace Sm
open PySem PySem.Spec PyProof.Rows L2
theorem all_mk {l : PySem.W.OpenLaw} {w : World} {K : PySem.W.Frag} {h : Heap} {mg : Str → Option Value} {fa : Addr} (X : K.In h) (G : h.Ns mainGlobals mg) (hfa : mg "law" = some (.ref fa))
    {F_walk : Addr} {od_walk an_walk : Option Addr} {sl_walk : Array (Option Value)} {oc_walk kV_walk dc_walk pm_walk cd_walk ct_walk : Value} (a_walk : PySem.W.nsIn K mainGlobals "walk" = some (some (.ref F_walk))) (l_walk : K.lookup F_walk = some ⟨oc_walk, od_walk, .func (PySem.W.fnOf "walk" "walk" (defArgs s_walk) (defBody s_walk) (defScope s_walk) .none kV_walk dc_walk pm_walk an_walk cd_walk ct_walk), sl_walk⟩) (c_walk : PySem.W.codeIn K cd_walk "walk" = true) (k_walk : PySem.W.keepIn K (.ref F_walk) = true)
    {F_way_tally : Addr} {od_way_tally an_way_tally : Option Addr} {sl_way_tally : Array (Option Value)} {oc_way_tally kV_way_tally dc_way_tally pm_way_tally cd_way_tally ct_way_tally : Value} (a_way_tally : PySem.W.nsIn K mainGlobals "way_tally" = some (some (.ref F_way_tally))) (l_way_tally : K.lookup F_way_tally = some ⟨oc_way_tally, od_way_tally, .func (PySem.W.fnOf "way_tally" "way_tally" (defArgs s_way_tally) (defBody s_way_tally) (defScope s_way_tally) .none kV_way_tally dc_way_tally pm_way_tally an_way_tally cd_way_tally ct_way_tally), sl_way_tally⟩) (c_way_tally : PySem.W.codeIn K cd_way_tally "way_tally" = true) (k_way_tally : PySem.W.keepIn K (.ref F_way_tally) = true)
    {F_step_tally : Addr} {od_step_tally an_step_tally : Option Addr} {sl_step_tally : Array (Option Value)} {oc_step_tally kV_step_tally dc_step_tally pm_step_tally cd_step_tally ct_step_tally : Value} (a_step_tally : PySem.W.nsIn K mainGlobals "step_tally" = some (some (.ref F_step_tally))) (l_step_tally : K.lookup F_step_tally = some ⟨oc_step_tally, od_step_tally, .func (PySem.W.fnOf "step_tally" "step_tally" (defArgs s_step_tally) (defBody s_step_tally) (defScope s_step_tally) .none kV_step_tally dc_step_tally pm_step_tally an_step_tally cd_step_tally ct_step_tally), sl_step_tally⟩) (c_step_tally : PySem.W.codeIn K cd_step_tally "step_tally" = true) (k_step_tally : PySem.W.keepIn K (.ref F_step_tally) = true)
    {F_run_tally : Addr} {od_run_tally an_run_tally : Option Addr} {sl_run_tally : Array (Option Value)} {oc_run_tally kV_run_tally dc_run_tally pm_run_tally cd_run_tally ct_run_tally : Value} (a_run_tally : PySem.W.nsIn K mainGlobals "run_tally" = some (some (.ref F_run_tally))) (l_run_tally : K.lookup F_run_tally = some ⟨oc_run_tally, od_run_tally, .func (PySem.W.fnOf "run_tally" "run_tally" (defArgs s_run_tally) (defBody s_run_tally) (defScope s_run_tally) .none kV_run_tally dc_run_tally pm_run_tally an_run_tally cd_run_tally ct_run_tally), sl_run_tally⟩) (c_run_tally : PySem.W.codeIn K cd_run_tally "run_tally" = true) (k_run_tally : PySem.W.keepIn K (.ref F_run_tally) = true)
    {F_l_deck : Addr} {od_l_deck an_l_deck : Option Addr} {sl_l_deck : Array (Option Value)} {oc_l_deck kV_l_deck dc_l_deck pm_l_deck cd_l_deck ct_l_deck : Value} (a_l_deck : PySem.W.nsIn K mainGlobals "_law_deck" = some (some (.ref F_l_deck))) (l_l_deck : K.lookup F_l_deck = some ⟨oc_l_deck, od_l_deck, .func (PySem.W.fnOf "_law_deck" "_law_deck" (defArgs s_l_deck) (defBody s_l_deck) (defScope s_l_deck) .none kV_l_deck dc_l_deck pm_l_deck an_l_deck cd_l_deck ct_l_deck), sl_l_deck⟩) (c_l_deck : PySem.W.codeIn K cd_l_deck "_law_deck" = true) (k_l_deck : PySem.W.keepIn K (.ref F_l_deck) = true)
    {F_l_draw : Addr} {od_l_draw an_l_draw : Option Addr} {sl_l_draw : Array (Option Value)} {oc_l_draw kV_l_draw dc_l_draw pm_l_draw cd_l_draw ct_l_draw : Value} (a_l_draw : PySem.W.nsIn K mainGlobals "_law_draw" = some (some (.ref F_l_draw))) (l_l_draw : K.lookup F_l_draw = some ⟨oc_l_draw, od_l_draw, .func (PySem.W.fnOf "_law_draw" "_law_draw" (defArgs s_l_draw) (defBody s_l_draw) (defScope s_l_draw) .none kV_l_draw dc_l_draw pm_l_draw an_l_draw cd_l_draw ct_l_draw), sl_l_draw⟩) (c_l_draw : PySem.W.codeIn K cd_l_draw "_law_draw" = true) (k_l_draw : PySem.W.keepIn K (.ref F_l_draw) = true)
    {F_l_board : Addr} {od_l_board an_l_board : Option Addr} {sl_l_board : Array (Option Value)} {oc_l_board kV_l_board dc_l_board pm_l_board cd_l_board ct_l_board : Value} (a_l_board : PySem.W.nsIn K mainGlobals "_law_board" = some (some (.ref F_l_board))) (l_l_board : K.lookup F_l_board = some ⟨oc_l_board, od_l_board, .func (PySem.W.fnOf "_law_board" "_law_board" (defArgs s_l_board) (defBody s_l_board) (defScope s_l_board) .none kV_l_board dc_l_board pm_l_board an_l_board cd_l_board ct_l_board), sl_l_board⟩) (c_l_board : PySem.W.codeIn K cd_l_board "_law_board" = true) (k_l_board : PySem.W.keepIn K (.ref F_l_board) = true)
    {F_l_way : Addr} {od_l_way an_l_way : Option Addr} {sl_l_way : Array (Option Value)} {oc_l_way kV_l_way dc_l_way pm_l_way cd_l_way ct_l_way : Value} (a_l_way : PySem.W.nsIn K mainGlobals "_law_way" = some (some (.ref F_l_way))) (l_l_way : K.lookup F_l_way = some ⟨oc_l_way, od_l_way, .func (PySem.W.fnOf "_law_way" "_law_way" (defArgs s_l_way) (defBody s_l_way) (defScope s_l_way) .none kV_l_way dc_l_way pm_l_way an_l_way cd_l_way ct_l_way), sl_l_way⟩) (c_l_way : PySem.W.codeIn K cd_l_way "_law_way" = true) (k_l_way : PySem.W.keepIn K (.ref F_l_way) = true)
    {F_l_uses : Addr} {od_l_uses an_l_uses : Option Addr} {sl_l_uses : Array (Option Value)} {oc_l_uses kV_l_uses dc_l_uses pm_l_uses cd_l_uses ct_l_uses : Value} (a_l_uses : PySem.W.nsIn K mainGlobals "_law_uses" = some (some (.ref F_l_uses))) (l_l_uses : K.lookup F_l_uses = some ⟨oc_l_uses, od_l_uses, .func (PySem.W.fnOf "_law_uses" "_law_uses" (defArgs s_l_uses) (defBody s_l_uses) (defScope s_l_uses) .none kV_l_uses dc_l_uses pm_l_uses an_l_uses cd_l_uses ct_l_uses), sl_l_uses⟩) (c_l_uses : PySem.W.codeIn K cd_l_uses "_law_uses" = true) (k_l_uses : PySem.W.keepIn K (.ref F_l_uses) = true)
    {F_l_walked : Addr} {od_l_walked an_l_walked : Option Addr} {sl_l_walked : Array (Option Value)} {oc_l_walked kV_l_walked dc_l_walked pm_l_walked cd_l_walked ct_l_walked : Value} (a_l_walked : PySem.W.nsIn K mainGlobals "_law_walked" = some (some (.ref F_l_walked))) (l_l_walked : K.lookup F_l_walked = some ⟨oc_l_walked, od_l_walked, .func (PySem.W.fnOf "_law_walked" "_law_walked" (defArgs s_l_walked) (defBody s_l_walked) (defScope s_l_walked) .none kV_l_walked dc_l_walked pm_l_walked an_l_walked cd_l_walked ct_l_walked), sl_l_walked⟩) (c_l_walked : PySem.W.codeIn K cd_l_walked "_law_walked" = true) (k_l_walked : PySem.W.keepIn K (.ref F_l_walked) = true)
    {F_l_told : Addr} {od_l_told an_l_told : Option Addr} {sl_l_told : Array (Option Value)} {oc_l_told kV_l_told dc_l_told pm_l_told cd_l_told ct_l_told : Value} (a_l_told : PySem.W.nsIn K mainGlobals "_law_told" = some (some (.ref F_l_told))) (l_l_told : K.lookup F_l_told = some ⟨oc_l_told, od_l_told, .func (PySem.W.fnOf "_law_told" "_law_told" (defArgs s_l_told) (defBody s_l_told) (defScope s_l_told) .none kV_l_told dc_l_told pm_l_told an_l_told cd_l_told ct_l_told), sl_l_told⟩) (c_l_told : PySem.W.codeIn K cd_l_told "_law_told" = true) (k_l_told : PySem.W.keepIn K (.ref F_l_told) = true)
    {F_l_tight : Addr} {od_l_tight an_l_tight : Option Addr} {sl_l_tight : Array (Option Value)} {oc_l_tight kV_l_tight dc_l_tight pm_l_tight cd_l_tight ct_l_tight : Value} (a_l_tight : PySem.W.nsIn K mainGlobals "_law_tight" = some (some (.ref F_l_tight))) (l_l_tight : K.lookup F_l_tight = some ⟨oc_l_tight, od_l_tight, .func (PySem.W.fnOf "_law_tight" "_law_tight" (defArgs s_l_tight) (defBody s_l_tight) (defScope s_l_tight) .none kV_l_tight dc_l_tight pm_l_tight an_l_tight cd_l_tight ct_l_tight), sl_l_tight⟩) (c_l_tight : PySem.W.codeIn K cd_l_tight "_law_tight" = true) (k_l_tight : PySem.W.keepIn K (.ref F_l_tight) = true)
    {F_law : Addr} {od_law an_law : Option Addr} {sl_law : Array (Option Value)} {oc_law kV_law dc_law pm_law cd_law ct_law : Value} (a_law : PySem.W.nsIn K mainGlobals "law" = some (some (.ref F_law))) (l_law : K.lookup F_law = some ⟨oc_law, od_law, .func (PySem.W.fnOf "law" "law" (defArgs s_law) (defBody s_law) (defScope s_law) .none kV_law dc_law pm_law an_law cd_law ct_law), sl_law⟩) (c_law : PySem.W.codeIn K cd_law "law" = true) (k_law : PySem.W.keepIn K (.ref F_law) = true)
    {cCE cS fB : Addr} {nm qn : Str} {Nn : Addr} {bs : List Value} {sn : List Str} {sub : List Value} {ab : Bool} {col : Option Bool} {dd : Option Addr} {m0 m1 m2 m3 m5 : Option Value} {odI anI : Option Addr} {slI : Array (Option Value)} {ocI kVI dcI pmI cdI ctI : Value}
    (a_cCE : PySem.W.nsIn K mainGlobals "ChangeError" = some (some (.ref cCE)))
    (a_cS : PySem.W.nsIn K mainGlobals "Stuck" = some (some (.ref cS)))
    (x_S : K.lookup cS = some (excClassObj nm qn cS Nn bs [.ref cCE, .type "ValueError", .type "Exception", .type "BaseException", .type "object"] true sn sub ab col dd m0 m1 m2 m3 m5 "ValueError.__new__"))
    (f_sa : PySem.W.findIn K (.ref cS) "__setattr__" = some (some (.builtin "object.__setattr__")))
    (f_ga : PySem.W.findIn K (.ref cS) "__getattribute__" = some (some (.builtin "BaseException.__getattribute__")))
    (f_gg : PySem.W.findIn K (.ref cS) "__getattr__" = some none)
    (f_no : PySem.W.findIn K (.ref cS) "index" = some none)
    (f_iC : PySem.W.findIn K (.ref cS) "__init__" = some (some (.ref fB)))
    (f_cl : PySem.W.findIn K (.ref cS) "__class__" = some (some (.builtin "object.__class__")))
    (t_fB : PySem.W.typeIn K (.ref fB) = some (.type "function"))
    (t_S : PySem.W.typeIn K (.ref cS) = some (.type "type"))
    (k_S : PySem.W.keepIn K (.ref cS) = true)
    (e_S : PySem.W.subIn K (.ref cS) (.type "BaseException") = some true)
    (v_S : PySem.W.subIn K (.ref cS) (.type "ValueError") = some true)
    (s_S : PySem.W.subIn K (.ref cS) (.ref cS) = some true)
    (h_S : PySem.W.hasDictIn K cS = true)
    (m_S : PySem.W.mroIn K cS (.type "object") = some true)
    (g_cl : PySem.W.specialIn K (.builtin "object.__class__") "__get__" = some (some (.builtin "getset_descriptor.__get__")))
    (t_cl : PySem.W.takesIn K (.builtin "object.__class__") = some true)
    (l_fB : K.lookup fB = some ⟨ocI, odI, .func (PySem.W.fnOf "__init__" "Stuck.__init__" (defArgs s_init) (defBody s_init) (defScope s_init) .none kVI dcI pmI anI cdI ctI), slI⟩)
    (c_fB : PySem.W.codeIn K cdI "Stuck.__init__" = true)
    (k_fB : PySem.W.keepIn K (.ref fB) = true)
    (i_CE : PySem.W.isClsIn K cCE = true)
    (t_CE : PySem.W.typeIn K (.ref cCE) = some (.type "type"))
    (s_CE : PySem.W.subIn K (.ref cS) (.ref cCE) = some true)
    (n_LE : PySem.W.subIn K (.ref cS) (.type "LookupError") = some false)
    (z_LookupError : PySem.W.nsIn K mainGlobals "LookupError" = some none)
    (z_ValueError : PySem.W.nsIn K mainGlobals "ValueError" = some none)
    (z_abs : PySem.W.nsIn K mainGlobals "abs" = some none)
    (z_any : PySem.W.nsIn K mainGlobals "any" = some none)
    (z_enumerate : PySem.W.nsIn K mainGlobals "enumerate" = some none)
    (z_int : PySem.W.nsIn K mainGlobals "int" = some none)
    (z_isinstance : PySem.W.nsIn K mainGlobals "isinstance" = some none)
    (z_len : PySem.W.nsIn K mainGlobals "len" = some none)
    (z_list : PySem.W.nsIn K mainGlobals "list" = some none)
    (z_max : PySem.W.nsIn K mainGlobals "max" = some none)
    (z_range : PySem.W.nsIn K mainGlobals "range" = some none)
    (z_repr : PySem.W.nsIn K mainGlobals "repr" = some none)
    (z_set : PySem.W.nsIn K mainGlobals "set" = some none)
    (z_sorted : PySem.W.nsIn K mainGlobals "sorted" = some none)
    (z_tuple : PySem.W.nsIn K mainGlobals "tuple" = some none) :
    ∃ fd : FuncData, (∀ (s : Shared) (v : Value), BindsTo s fd ⟨[v], []⟩ [("_law_script", v)]) ∧ ∀ base : Heap, K.In base → base.Ns mainGlobals mg → FnG l.prog w K mg base 7 fa fd ["_law_script"] (sp_law K) := by
  have e := hfa.symm.trans (PySem.W.mg_of X G a_law)
  cases e
  have T : Txt mg := ⟨PySem.W.mg_none_of X G z_LookupError, PySem.W.mg_none_of X G z_ValueError, PySem.W.mg_none_of X G z_abs, PySem.W.mg_none_of X G z_any, PySem.W.mg_none_of X G z_enumerate, PySem.W.mg_none_of X G z_int, PySem.W.mg_none_of X G z_isinstance, PySem.W.mg_none_of X G z_len, PySem.W.mg_none_of X G z_list, PySem.W.mg_none_of X G z_max, PySem.W.mg_none_of X G z_range, PySem.W.mg_none_of X G z_repr, PySem.W.mg_none_of X G z_set, PySem.W.mg_none_of X G z_sorted, PySem.W.mg_none_of X G z_tuple⟩
  have XC : Txs K mg cCE cS fB :=
    { gStuck := PySem.W.mg_of X G a_cS, oex := ⟨⟨nm, qn, Nn, bs, _, sn, sub, ab, col, dd, m0, m1, m2, m3, m5, x_S, by rfl⟩, f_sa, e_S, t_S, k_S⟩, noE := f_no, iC := f_iC, tI := t_fB, xf := ⟨f_ga, f_gg, e_S, h_S⟩,
      ec := ⟨f_ga, f_gg, e_S, h_S, f_cl, g_cl, t_cl, m_S⟩, te := PySem.W.exm_ref e_S h_S t_S s_S,
      fI := ⟨_, fun_mk (st := s_init) l_fB c_fB k_fB, (fun_mk (st := s_init) l_fB c_fB k_fB).binds (ps := ["self", "index"]) fun _ _ _ _ _ _ us hl => match us, hl with | [_, _], _ => rfl⟩, gChangeError := PySem.W.mg_of X G a_cCE, k1 := kit_own i_CE t_CE s_CE s_S, k2 := kit_valerr v_S, k3 := kit_look n_LE }
  have D_walk : Df K mg "walk" s_walk ["board", "purse", "way"] := ⟨_, _, fun_mk (st := s_walk) l_walk c_walk k_walk, PySem.W.mg_of X G a_walk, (fun_mk (st := s_walk) l_walk c_walk k_walk).binds (ps := ["board", "purse", "way"]) fun _ _ _ _ _ _ us hl => match us, hl with | [_, _, _], _ => rfl⟩
  have D_way_tally : Df K mg "way_tally" s_way_tally ["board", "way"] := ⟨_, _, fun_mk (st := s_way_tally) l_way_tally c_way_tally k_way_tally, PySem.W.mg_of X G a_way_tally, (fun_mk (st := s_way_tally) l_way_tally c_way_tally k_way_tally).binds (ps := ["board", "way"]) fun _ _ _ _ _ _ us hl => match us, hl with | [_, _], _ => rfl⟩
  have D_step_tally : Df K mg "step_tally" s_step_tally ["board", "step"] := ⟨_, _, fun_mk (st := s_step_tally) l_step_tally c_step_tally k_step_tally, PySem.W.mg_of X G a_step_tally, (fun_mk (st := s_step_tally) l_step_tally c_step_tally k_step_tally).binds (ps := ["board", "step"]) fun _ _ _ _ _ _ us hl => match us, hl with | [_, _], _ => rfl⟩
  have D_run_tally : Df K mg "run_tally" s_run_tally ["board", "run"] := ⟨_, _, fun_mk (st := s_run_tally) l_run_tally c_run_tally k_run_tally, PySem.W.mg_of X G a_run_tally, (fun_mk (st := s_run_tally) l_run_tally c_run_tally k_run_tally).binds (ps := ["board", "run"]) fun _ _ _ _ _ _ us hl => match us, hl with | [_, _], _ => rfl⟩
  have D_l_deck : Df K mg "_law_deck" s_l_deck ["_law_script"] := ⟨_, _, fun_mk (st := s_l_deck) l_l_deck c_l_deck k_l_deck, PySem.W.mg_of X G a_l_deck, (fun_mk (st := s_l_deck) l_l_deck c_l_deck k_l_deck).binds (ps := ["_law_script"]) fun _ _ _ _ _ _ us hl => match us, hl with | [_], _ => rfl⟩
  have D_l_draw : Df K mg "_law_draw" s_l_draw ["_law_deck_here", "_law_many"] := ⟨_, _, fun_mk (st := s_l_draw) l_l_draw c_l_draw k_l_draw, PySem.W.mg_of X G a_l_draw, (fun_mk (st := s_l_draw) l_l_draw c_l_draw k_l_draw).binds (ps := ["_law_deck_here", "_law_many"]) fun _ _ _ _ _ _ us hl => match us, hl with | [_, _], _ => rfl⟩
  have D_l_board : Df K mg "_law_board" s_l_board ["_law_deck_here", "_law_kinds", "_law_upto", "_law_top"] := ⟨_, _, fun_mk (st := s_l_board) l_l_board c_l_board k_l_board, PySem.W.mg_of X G a_l_board, (fun_mk (st := s_l_board) l_l_board c_l_board k_l_board).binds (ps := ["_law_deck_here", "_law_kinds", "_law_upto", "_law_top"]) fun _ _ _ _ _ _ us hl => match us, hl with | [_, _, _, _], _ => rfl⟩
  have D_l_way : Df K mg "_law_way" s_l_way ["_law_deck_here", "_law_board_here", "_law_steps", "_law_times"] := ⟨_, _, fun_mk (st := s_l_way) l_l_way c_l_way k_l_way, PySem.W.mg_of X G a_l_way, (fun_mk (st := s_l_way) l_l_way c_l_way k_l_way).binds (ps := ["_law_deck_here", "_law_board_here", "_law_steps", "_law_times"]) fun _ _ _ _ _ _ us hl => match us, hl with | [_, _, _, _], _ => rfl⟩
  have D_l_uses : Df K mg "_law_uses" s_l_uses ["_law_step"] := ⟨_, _, fun_mk (st := s_l_uses) l_l_uses c_l_uses k_l_uses, PySem.W.mg_of X G a_l_uses, (fun_mk (st := s_l_uses) l_l_uses c_l_uses k_l_uses).binds (ps := ["_law_step"]) fun _ _ _ _ _ _ us hl => match us, hl with | [_], _ => rfl⟩
  have D_l_walked : Df K mg "_law_walked" s_l_walked ["_law_board_here", "_law_purse", "_law_way_here"] := ⟨_, _, fun_mk (st := s_l_walked) l_l_walked c_l_walked k_l_walked, PySem.W.mg_of X G a_l_walked, (fun_mk (st := s_l_walked) l_l_walked c_l_walked k_l_walked).binds (ps := ["_law_board_here", "_law_purse", "_law_way_here"]) fun _ _ _ _ _ _ us hl => match us, hl with | [_, _, _], _ => rfl⟩
  have D_l_told : Df K mg "_law_told" s_l_told ["_law_board_here", "_law_purse", "_law_way_here"] := ⟨_, _, fun_mk (st := s_l_told) l_l_told c_l_told k_l_told, PySem.W.mg_of X G a_l_told, (fun_mk (st := s_l_told) l_l_told c_l_told k_l_told).binds (ps := ["_law_board_here", "_law_purse", "_law_way_here"]) fun _ _ _ _ _ _ us hl => match us, hl with | [_, _, _], _ => rfl⟩
  have D_l_tight : Df K mg "_law_tight" s_l_tight ["_law_deck_here", "_law_board_here", "_law_way_here"] := ⟨_, _, fun_mk (st := s_l_tight) l_l_tight c_l_tight k_l_tight, PySem.W.mg_of X G a_l_tight, (fun_mk (st := s_l_tight) l_l_tight c_l_tight k_l_tight).binds (ps := ["_law_deck_here", "_law_board_here", "_law_way_here"]) fun _ _ _ _ _ _ us hl => match us, hl with | [_, _, _], _ => rfl⟩
  have D_law : Df K mg "law" s_law ["_law_script"] := ⟨_, _, fun_mk (st := s_law) l_law c_law k_law, PySem.W.mg_of X G a_law, (fun_mk (st := s_law) l_law c_law k_law).binds (ps := ["_law_script"]) fun _ _ _ _ _ _ us hl => match us, hl with | [_], _ => rfl⟩
  refine ⟨PySem.W.fnOf "law" "law" (defArgs s_law) (defBody s_law) (defScope s_law) .none kV_law dc_law pm_law an_law cd_law ct_law, fun s v => .of_eq rfl, fun base _ _ => ?_⟩
  have C_run_tally : Cal l.prog w K mg base "run_tally" ["board", "run"] 1 (sp_run_tally K) := ok_run_tally T D_run_tally
  have C_l_deck : Cal l.prog w K mg base "_law_deck" ["_law_script"] 1 (sp_l_deck K) := ok_l_deck T D_l_deck
  have C_l_draw : Cal l.prog w K mg base "_law_draw" ["_law_deck_here", "_law_many"] 1 (sp_l_draw K) := ok_l_draw T D_l_draw
  have C_l_uses : Cal l.prog w K mg base "_law_uses" ["_law_step"] 1 (sp_l_uses K) := ok_l_uses T D_l_uses
  have C_l_board : Cal l.prog w K mg base "_law_board" ["_law_deck_here", "_law_kinds", "_law_upto", "_law_top"] 2 (sp_l_board K) := ok_l_board T D_l_board C_l_draw
  have C_l_way : Cal l.prog w K mg base "_law_way" ["_law_deck_here", "_law_board_here", "_law_steps", "_law_times"] 2 (sp_l_way K) := ok_l_way T D_l_way C_l_draw
  have C_l_walked : Cal l.prog w K mg base "_law_walked" ["_law_board_here", "_law_purse", "_law_way_here"] 2 (sp_l_walked K) := ok_l_walked T D_l_walked C_l_uses
  have C_l_tight : Cal l.prog w K mg base "_law_tight" ["_law_deck_here", "_law_board_here", "_law_way_here"] 2 (sp_l_tight K) := ok_l_tight T D_l_tight C_l_uses C_l_draw


  have C_step_tally : Cal l.prog w K mg base "step_tally" ["board", "step"] 4 (sp_step_tally K) := ok_step_tally T D_step_tally C_run_tally (ok_wayG T D_way_tally (ok_step0 T D_step_tally C_run_tally))
  have CX_walk : CalX l.prog w K mg base "walk" ["board", "purse", "way"] 5 (sp_walkX cS) := ok_walkX T XC D_walk C_step_tally
  have C_l_told : Cal l.prog w K mg base "_law_told" ["_law_board_here", "_law_purse", "_law_way_here"] 6 (sp_l_told K) := ok_l_told T XC D_l_told CX_walk
  exact ok_lawG T (fun_mk (st := s_law) l_law c_law k_law) C_l_told C_l_tight C_l_walked C_l_draw C_l_way C_l_board C_l_deck

end Sm
open PySem PySem.W PyProof.Rows in
set_option maxRecDepth 100000 in
set_option maxHeartbeats 0 in
theorem PySem.Challenge.cw_smallchange_k25_ways_walked_holds : PySem.Challenge.rw_smallchange_k25_ways_walked.Holds := by
  w_on; o_law; k_head; (case hw => w_witness2)
  k_fill
  refine Sm.walk_at_law (l := PySem.Challenge.rw_smallchange_k25_ways_walked) (k := 7) (x := "_law_script") (sp := Sm.sp_law) rfl rfl ⟨rfl, by decide, by decide⟩ (fun w h Y => PySem.W.kIn_of Y) ?F (fun _ _ a ns hl hS => ⟨a, ns, rfl, hS, hl, fun _ => rfl⟩)
  case F =>
    intro w mg fa h KX G hmg
    refine' Sm.all_mk KX G hmg ?a_walk ?l_walk ?c_walk ?k_walk ?a_way_tally ?l_way_tally ?c_way_tally ?k_way_tally ?a_step_tally ?l_step_tally ?c_step_tally ?k_step_tally ?a_run_tally ?l_run_tally ?c_run_tally ?k_run_tally ?a_l_deck ?l_l_deck ?c_l_deck ?k_l_deck ?a_l_draw ?l_l_draw ?c_l_draw ?k_l_draw ?a_l_board ?l_l_board ?c_l_board ?k_l_board ?a_l_way ?l_l_way ?c_l_way ?k_l_way ?a_l_uses ?l_l_uses ?c_l_uses ?k_l_uses ?a_l_walked ?l_l_walked ?c_l_walked ?k_l_walked ?a_l_told ?l_l_told ?c_l_told ?k_l_told ?a_l_tight ?l_l_tight ?c_l_tight ?k_l_tight ?a_law ?l_law ?c_law ?k_law ?a_cCE ?a_cS ?x_S ?f_sa ?f_ga ?f_gg ?f_no ?f_iC ?f_cl ?t_fB ?t_S ?k_S ?e_S ?v_S ?s_S ?h_S ?m_S ?g_cl ?t_cl ?l_fB ?c_fB ?k_fB ?i_CE ?t_CE ?s_CE ?n_LE ?z_LookupError ?z_ValueError ?z_abs ?z_any ?z_enumerate ?z_int ?z_isinstance ?z_len ?z_list ?z_max ?z_range ?z_repr ?z_set ?z_sorted ?z_tuple
    (case a_walk => k_is)
    (case l_walk => k_is)
    (case c_walk => k_is)
    (case k_walk => k_is)
    (case a_way_tally => k_is)
    (case l_way_tally => k_is)
    (case c_way_tally => k_is)
    (case k_way_tally => k_is)
    (case a_step_tally => k_is)
    (case l_step_tally => k_is)
    (case c_step_tally => k_is)
    (case k_step_tally => k_is)
    (case a_run_tally => k_is)
    (case l_run_tally => k_is)
    (case c_run_tally => k_is)
    (case k_run_tally => k_is)
    (case a_l_deck => k_is)
    (case l_l_deck => k_is)
    (case c_l_deck => k_is)
    (case k_l_deck => k_is)
    (case a_l_draw => k_is)
    (case l_l_draw => k_is)
    (case c_l_draw => k_is)
    (case k_l_draw => k_is)
    (case a_l_board => k_is)
    (case l_l_board => k_is)
    (case c_l_board => k_is)
    (case k_l_board => k_is)
    (case a_l_way => k_is)
    (case l_l_way => k_is)
    (case c_l_way => k_is)
    (case k_l_way => k_is)
    (case a_l_uses => k_is)
    (case l_l_uses => k_is)
    (case c_l_uses => k_is)
    (case k_l_uses => k_is)
    (case a_l_walked => k_is)
    (case l_l_walked => k_is)
    (case c_l_walked => k_is)
    (case k_l_walked => k_is)
    (case a_l_told => k_is)
    (case l_l_told => k_is)
    (case c_l_told => k_is)
    (case k_l_told => k_is)
    (case a_l_tight => k_is)
    (case l_l_tight => k_is)
    (case c_l_tight => k_is)
    (case k_l_tight => k_is)
    (case a_law => k_is)
    (case l_law => k_is)
    (case c_law => k_is)
    (case k_law => k_is)
    (case a_cCE => first | k_is | rfl)
    (case a_cS => first | k_is | rfl)
    (case x_S => first | k_is | rfl)
    (case f_sa => first | k_is | rfl)
    (case f_ga => first | k_is | rfl)
    (case f_gg => first | k_is | rfl)
    (case f_no => first | k_is | rfl)
    (case f_iC => first | k_is | rfl)
    (case f_cl => first | k_is | rfl)
    (case t_fB => first | k_is | rfl)
    (case t_S => first | k_is | rfl)
    (case k_S => first | k_is | rfl)
    (case e_S => first | k_is | rfl)
    (case v_S => first | k_is | rfl)
    (case s_S => first | k_is | rfl)
    (case h_S => first | k_is | rfl)
    (case m_S => first | k_is | rfl)
    (case g_cl => first | k_is | rfl)
    (case t_cl => first | k_is | rfl)
    (case l_fB => first | k_is | rfl)
    (case c_fB => first | k_is | rfl)
    (case k_fB => first | k_is | rfl)
    (case i_CE => first | k_is | rfl)
    (case t_CE => first | k_is | rfl)
    (case s_CE => first | k_is | rfl)
    (case n_LE => first | k_is | rfl)
    (case z_LookupError => k_is)
    (case z_ValueError => k_is)
    (case z_abs => k_is)
    (case z_any => k_is)
    (case z_enumerate => k_is)
    (case z_int => k_is)
    (case z_isinstance => k_is)
    (case z_len => k_is)
    (case z_list => k_is)
    (case z_max => k_is)
    (case z_range => k_is)
    (case z_repr => k_is)
    (case z_set => k_is)
    (case z_sorted => k_is)
    (case z_tuple => k_is)

