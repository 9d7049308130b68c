import PyProof.Rows.All
import Wide.All
import OpenK.AllK
import Wide.FinOn
import HandS.ForMost
import HandS.Wide
import HandS.Codes
import PyProof.ReprRoads
import HandS.Conv
import HandS.IsInst
import HandS.Style
import HandS.TupAny
import HandS.ForExc
import HandS.ExcIs
import HandS.ExcInit
import HandS.ExcField
import HandS.ExcOwn
import KE.KExcIs
import HandS.Lambda
import HandS.EndOwn
import HandS.Gcd
import KE.KMathGC
import HandS.TupMul
import PySem.Challenge.RW_smallchange_k11_whole_far_partings
set_option Elab.async false
set_option linter.all false
set_option maxRecDepth 100000
set_option maxHeartbeats 4000000
namespace Sm
open PySem PySem.Spec PyProof.Rows L2
/-! ### promises of defs where no repr is under way: as FnOk, with A's guards empty -/
structure FnG (P : Program) (w : World) (K : PySem.W.Frag) (mg : Str → Option Value) (base : Heap) (k : Nat) (f : Addr) (fd : FuncData) (ps : List Str) (sp : Sp) : Prop where
  len : ∀ vs H Q E, sp vs H Q E → vs.length = ps.length
  run : ∀ (A : Around) (outer : List Env) (s : Shared) (H : Hp) (args : Args) (us : List Value) (vs : List V) (Q : VK) (E : XK), A.guards = some [] → Room k A →
    Env0 P w K mg base A outer s H → BindsTo s fd args (ps.zip us) → Vals vs us → sp vs H Q E → codeAny (model P w) A (.call (.ref f) args) (CR CX0 outer P w H s Q E) s
section
variable {P : Program} {w : World} {K : PySem.W.Frag} {mg : Str → Option Value} {base : Heap} {k : Nat} {f : Addr} {fd : FuncData} {ps : List Str} {sp : Sp}
theorem FnG.of (F : FnOk P w K mg base CX0 k f fd ps sp) : FnG P w K mg base k f fd ps sp :=
  ⟨F.len, fun A outer s H args us vs Q E _ hr e b v h => F.run A outer s H args us vs Q E hr e b v h⟩
theorem FnG.body {x : Str} {st : Stmt} {N : List Str} (F : Fun K x x st f fd) (S : FnScope N ps (defScope st)) (len : ∀ vs H Q E, sp vs H Q E → vs.length = ps.length)
    (hb : ∀ (cdv : Value) (A : Around) (outer : List Env) (s : Shared) (H : Hp) (vs : List V) (Q : VK) (E : XK), A.guards = some [] → Room k (A.deeper (envOfC x (defScope st) s.heap.objs.size f cdv)) → sp vs H Q E →
      ∃ t, PSs (cxOf CX0 P w K mg base N x (defScope st) f cdv A outer s H E).nox (defBody st) t ∧ t { nx := fun _ H' => Q .non H', rt := Q } (start N vs) H) : FnG P w K mg base (k + 1) f fd ps sp := by
  obtain ⟨oc, od, kV, doc, pm, an, cdv, ct, osl, efd, look, code⟩ := F.ex
  subst efd
  constructor
  · exact len
  intro A outer s H args us vs Q E guard room e0 bind rel want
  have inn : K.In s.heap := e0.mod.kin.keeps fun b o e => (e0.bs b o e).1
  have nolim : s.heap.NoLimit := e0.mod.nolimit.keeps fun b o e => (e0.bs b o e).1
  refine codeAny_call_function room.depth (inn _ _ look) rfl S.co S.gen rfl (PySem.W.codeRec_of inn code) (bind _ _ _ _ ?_)
  refine wpAny_newFunctionEnv_cells S.kind ?_ ?_
  · rintro ⟨n, v⟩ there
    have := S.par n (List.of_mem_zip there).1
    cases this with
    | inl q => exact .inl q
    | inr q => exact .inr ⟨q, PySem.W.cellsFrom_some _ _ _ (.inl q)⟩
  · intro env eenv s1 laid
    subst eenv
    refine ⟨nolim.keeps laid.toInCall.keep, codeAny_func ?_⟩
    obtain ⟨t, der, goal⟩ := hb cdv A outer s H vs Q E guard (room.deeper _) want
    have I := inv_start (CX := CX0) (E := E) S room.hd e0 (len _ _ _ _ want) rel laid
    refine wpAny_mono (der.nox.run [] s1 (start N vs) H _ I goal) (fun out s' got => ?_) fun e s' got => got
    match out, got with
    | .ret u, ⟨v, σ', H', J, rv, q⟩ => exact ⟨v, H', J.os, J.bare, J.base, J.hok, rv, q⟩
    | .next, ⟨σ', H', J, q⟩ => exact ⟨V.non, H', J.os, J.bare, J.base, J.hok, rfl, q⟩
    | .brk, ⟨_, _, _, q⟩ => exact q.elim
    | .cont, ⟨_, _, _, q⟩ => exact q.elim
end
section
variable {X : Cx} {k : Nat} {f : Addr} {fd : FuncData} {ps : List Str} {sp : Sp} {x : Str} {p pos : Pos} {e : Expr} {es : List Expr} {t : TA}
theorem pe_callG (F : FnG X.prog X.w X.K X.mg X.base k f fd ps sp) (gu : X.A.guards = some []) (hr : Room k X.A) (hg : Gl X x) (hm : X.mg x = some (.ref f)) (hk : PySem.W.keepIn X.K (.ref f) = true) (hb : Binds X.K fd ps [])
    (ha : PA X (e :: es) t) (hdb : (x == ("__debug__" : Str)) = false := by decide) (he : starEach (e :: es) X.env = (false, eval e X.env) :: starEach es X.env := by rfl) (hpl : (backTo pos (starEach es X.env)).any (·.1) = false := by rfl) :
    PE X (.Call (.Name x p) (e :: es) [] pos) (tCall sp [] E0 t) := by
  constructor
  intro pins s σ H Q I want
  refine wpAny_Call_Name_kw (ld_glob I hg hm ?_ hdb)
  refine PySem.W.callWith_K (h₀ := X.base) I.ok.mod.kin hk (thn (ha.run pos pins s σ H _ I want) ?_) he hpl
  rintro us s1 ⟨vs, H1, I1, rel, q⟩
  refine ⟨I1.kIn, ?_⟩
  have q : sp vs H1 Q E0 := by
    have q : sp (vs ++ []) H1 Q E0 := q
    rw [List.append_nil] at q
    exact q
  have b := hb s1 us I1.kIn (by rw [List.append_nil, ← rel.length]; exact F.len _ _ _ _ q)
  rw [List.append_nil] at b
  refine wpAny_call (codeAny_mono (F.run X.A X.stack s1 H1 ⟨us, []⟩ us vs Q E0 gu hr I1.env0 b rel q) ?_)
  rintro (e | out) s' got
  · exact got.elim
  · match out, got with
    | .ret u, got => exact I1.after got
    | .next, got => exact got.elim
    | .brk, got => exact got.elim
    | .cont, got => exact got.elim
/-- repr of data at any depth -/
theorem call_repr_data (gu : X.A.guards = some []) (room : ∃ k, Room k X.A) : CallR X (.builtin "repr") (fun xs H Q => ∃ a d, xs = [.ref a] ∧ Dp X.K H (.ref a) d ∧ PyData.showable d = true ∧ PyData.hasDict d = false ∧ d.depth ≤ 60 ∧ d.shown.length ≤ sizeLine ∧ Q (.str d.shown) H) := by
  intro pins s σ H xs us Q I rel want
  obtain ⟨a, d, rfl, data, sh, nd, dep, len, q⟩ := want
  obtain ⟨u, rfl, ru⟩ := vals1 rel
  obtain ⟨as, reads⟩ := Dp.reads I d _ u data ru
  cases ru
  obtain ⟨k, room⟩ := room
  have un := room.un
  exact repr_of_reads' reads sh (PyData.noDict_hsm nd) gu (by omega) (fun _ _ e => e) (fun h' v tk keep => ⟨.str d.shown, H, I.kept keep, ⟨_, rfl⟩, q⟩) len
end
/-! ### the law's own call, at the caller's place -/
theorem law_at {P : Program} {w : World} {K : PySem.W.Frag} {mg mb : Str → Option Value} {k : Nat} {fa a : Addr} {fd : FuncData} {x : Str} {sp : Sp} {s₁ : Shared} {vs : List Value} {ns : List Int}
    (KX : K.In s₁.heap) (hns : s₁.heap.Ns mainGlobals mg) (hb : s₁.heap.Ns builtinsNs mb) (hbb : ∀ x : Str, x ≠ "__name__" → mb x = bootBuiltins x) (hlim : s₁.heap.NoLimit) (hg : s₁.gens = #[])
    (ha : s₁.heap.get? a = some { cls := .type "list", data := .seq vs.toArray }) (hi : IntsAre vs ns) (hl : ns.length ≤ sizeLine) (hr : Room k callerA)
    (F : ∀ base : Heap, K.In base → base.Ns mainGlobals mg → FnG P w K mg base k fa fd [x] sp) (hbind : ∀ (s : Shared) (u : Value), BindsTo s fd ⟨[u], []⟩ [(x, u)])
    (hsp : ∀ H : Hp, SqL K H a (ns.map V.int) → sp [.ref a] H (fun v _ => v = .bl true) E0) :
    codeAny (model P w) callerA (.call (.ref fa) ⟨[.ref a], []⟩) (fun r s' => r = .ok (.ret (.bool true)) ∧ OldK s₁.heap s'.heap ∧ s'.os = s₁.os ∧ AllBare s'.gens) s₁ := by
  have ivs := vals_ints hi
  -- what is tracked: the script, if the module does not hold it itself
  obtain ⟨H, seq, ok, only, free⟩ : ∃ H : Hp, SqL K H a (ns.map V.int) ∧ HOk P w H s₁.heap ∧ (∀ b u, H b = some u → b = a ∧ u = .frz { cls := .type "list", data := .seq vs.toArray } (.lst (ns.map V.int))) ∧ ∀ b u, H b = some u → K.lookup b = none := by
    cases look : K.lookup a with
    | some o =>
      have same := KX a o look
      rw [ha] at same
      injection same with same
      subst same
      have empty : ∀ {u : HO}, (none : Option HO) = some u → False := fun z => nomatch z
      refine ⟨fun _ => none, .inr ⟨_, vs.toArray, _, look, rfl, rfl, rfl, ?_, ?_⟩, fun b u z => (empty z).elim, fun b u z => (empty z).elim, fun b u z => (empty z).elim⟩
      · rw [List.size_toArray, hi.length]
        exact hl
      · simpa using ivs
    | none =>
      have at_a : ∀ b u, (fun b => if b = a then some (HO.frz { cls := .type "list", data := .seq vs.toArray } (.lst (ns.map V.int))) else none : Hp) b = some u → b = a ∧ u = .frz { cls := .type "list", data := .seq vs.toArray } (.lst (ns.map V.int)) := by
        intro b u z
        by_cases e : b = a
        · have z := (if_pos e).symm.trans z
          exact ⟨e, (Option.some.inj z).symm⟩
        · exact nomatch (if_neg e).symm.trans z
      refine ⟨_, .inl (.inr ⟨_, if_pos rfl⟩), fun b u z => ?_, at_a, fun b u z => ?_⟩
      · obtain ⟨rfl, rfl⟩ := at_a b u z
        exact ⟨ha, by rw [List.length_map]; exact hl, vs, _, ivs, ha⟩
      · rw [(at_a b u z).1]
        exact look
  have stays : ∀ {b : Addr} {o : Obj}, s₁.heap.get? b = some o → (∀ u, H b ≠ some u) → (hidT s₁.heap H).get? b = some o := fun {b o} e no => hidT_get e (by
    cases z : H b with
    | none => rfl
    | some u => exact (no u z).elim)
  have spaces : ∀ {b : Addr} {m : Str → Option Value}, s₁.heap.Ns b m → (hidT s₁.heap H).Ns b m := by
    rintro b m ⟨o, es, ep, there, data, rest⟩
    refine ⟨o, es, ep, stays there fun u z => ?_, data, rest⟩
    rw [(only b u z).1, ha] at there
    injection there with there
    subst there
    exact nomatch data
  have inn : K.In (hidT s₁.heap H) := fun b o e => stays (KX b o e) fun u z => by
    rw [free b u z] at e
    exact nomatch e
  have mod : Mod K mg (hidT s₁.heap H) := by
    obtain ⟨mc, c1, c2⟩ := hlim
    exact ⟨inn, spaces hns, ⟨mb, spaces hb, hbb⟩, mc, spaces c1, c2⟩
  have e0 : Env0 P w K mg (hidT s₁.heap H) callerA [] s₁ H := by
    refine ⟨rfl, mod, fun b o e => of_hidT e, Nat.le_of_eq (hidT_size _ _), trivial, ?_, ok, .of_eq hg⟩
    intro b q
    exact absurd q (List.not_mem_nil (a := b))
  refine codeAny_mono ((F _ inn (spaces hns)).run callerA [] s₁ H ⟨[.ref a], []⟩ [.ref a] [.ref a] _ _ rfl hr e0 (hbind s₁ (.ref a)) (.cons rfl .nil) (hsp H seq)) ?_
  rintro (e | out) s' got
  · exact got.elim
  · match out, got with
    | .next, got => exact got.elim
    | .brk, got => exact got.elim
    | .cont, got => exact got.elim
    | .ret u, ⟨v, H', os, bare, un, ok', rel, q⟩ =>
      have q : v = V.bl true := q
      subst q
      have rel : u = Value.bool true := rel
      subst rel
      refine ⟨rfl, .of_keep fun b o e => ?_, os, bare⟩
      cases z : H b with
      | none => exact un.keep b o e z (List.not_mem_nil (a := b)) (List.not_mem_nil (a := b))
      | some u =>
        obtain ⟨rfl, rfl⟩ := only b u z
        have now := (ok' _ _ (un.frzs _ _ _ z)).1
        rw [ha] at e
        injection e with e
        rw [← e]
        exact now
theorem walk_at_law {l : PySem.W.OpenLaw} {k : Nat} {q : Program} {loose : List Str} {XP : (Str → Option Value) → Heap → Prop} {YP : World → Heap → Prop} {d : DefRec} {K : Params → PySem.W.Frag} {sp : PySem.W.Frag → Sp} {x : Str}
    (hn : l.most = some 63) (hdf : d.params.defaults = []) (hr : Room k callerA) (hY : ∀ (w : World) (h : Heap), YP w h → (K w.params).In h)
    (F : ∀ (w : World) (mg : Str → Option Value) (fa : Addr) (h : Heap), (K w.params).In h → h.Ns mainGlobals mg → mg d.name = some (.ref fa) →
      ∃ fd : FuncData, (∀ (s : Shared) (u : Value), BindsTo s fd ⟨[u], []⟩ [(x, u)]) ∧ ∀ base : Heap, (K w.params).In base → base.Ns mainGlobals mg → FnG l.prog w (K w.params) mg base k fa fd [x] (sp (K w.params)))
    (hsp : ∀ (K : PySem.W.Frag) (H : Hp) (a : Addr) (ns : List Int), ns.length ≤ 63 → SqL K H a (ns.map V.int) → sp K [.ref a] H (fun v _ => v = .bl true) E0) :
    PySem.W.WalkO q loose XP YP l.row.toRowW d [] (fun f vs => PySem.call f vs) := by
  refine Att.attach_call hn hdf ?_
  intro w s₀ s₁ mg mb fa o pm cd doc a vs ns G Y ho hd hcd hmg hobj hints hlen hg
  obtain ⟨fd, bind, each⟩ := F w mg fa _ (hY w _ Y) G.T.g hmg
  exact law_at (hY w _ Y) G.T.g G.T.b G.T.builtins G.T.nolimit hg hobj hints (Nat.le_trans hlen (by decide)) hr each bind fun H sq => hsp (K w.params) H a ns hlen sq
end Sm

set_option Elab.async false
set_option linter.all false
set_option maxRecDepth 100000
set_option maxHeartbeats 4000000
namespace Sm
open PySem PySem.Spec PyProof.Rows L2
section
variable {P : Program} {w : World} {K : PySem.W.Frag} {mg : Str → Option Value} {base : Heap}
def Df (K : PySem.W.Frag) (mg : Str → Option Value) (x : Str) (st : Stmt) (ps : List Str) : Prop :=
  ∃ (f : Addr) (fd : FuncData), Fun K x x st f fd ∧ mg x = some (.ref f) ∧ Binds K fd ps []
def Cal (P : Program) (w : World) (K : PySem.W.Frag) (mg : Str → Option Value) (base : Heap) (x : Str) (ps : List Str) (k : Nat) (sp : Sp) : Prop :=
  ∃ (f : Addr) (fd : FuncData), FnOk P w K mg base CX0 k f fd ps sp ∧ mg x = some (.ref f) ∧ PySem.W.keepIn K (.ref f) = true ∧ Binds K fd ps []
theorem Df.cal {x : Str} {st : Stmt} {N ps : List Str} {k : Nat} {sp : Sp} (D : Df K mg x st ps) (S : FnScope N ps (defScope st)) (len : ∀ vs H Q E, sp vs H Q E → vs.length = ps.length)
    (hbody : ∀ (f : Addr) (cdv : Value) (A : Around) (outer : List Env) (s : Shared) (H : Hp) (vs : List V) (Q : VK) (E : XK), Room k (A.deeper (envOfC x (defScope st) s.heap.objs.size f cdv)) → sp vs H Q E →
      ∃ t, PSs (cxOf CX0 P w K mg base N x (defScope st) f cdv A outer s H E).nox (defBody st) t ∧ t { nx := fun _ H' => Q .non H', rt := Q } (start N vs) H) : Cal P w K mg base x ps (k + 1) sp := by
  obtain ⟨f, fd, F, m, b⟩ := D
  exact ⟨f, fd, F.ok S len (fun cdv A outer s H vs Q E hr h => hbody f cdv A outer s H vs Q E hr h), m, F.kp, b⟩
theorem same_upd {H : Hp} {p : Addr} {o : HO} (h : H p = none) : Same H (upd H p o) := fun b x e => by
  rw [upd_ne (ne_of_none e h)]
  exact e
theorem iteP {p A B : Prop} [Decidable p] (h : p) (a : A) : if decide p = true then A else B := by
  rw [decide_eq_true h]
  exact iteT a
theorem iteN {p A B : Prop} [Decidable p] (h : ¬ p) (b : B) : if decide p = true then A else B := by
  rw [decide_eq_false h]
  exact iteF b
theorem iteNP {p A B : Prop} [Decidable p] (h : p) (b : B) : if (!decide p) = true then A else B := by
  rw [decide_eq_true h]
  exact iteF b
theorem iteNN {p A B : Prop} [Decidable p] (h : ¬ p) (a : A) : if (!decide p) = true then A else B := by
  rw [decide_eq_false h]
  exact iteT a
theorem ite3 {p A B : Prop} [Decidable p] (h1 : p → A) (h2 : ¬ p → B) : if decide p = true then A else B := by
  by_cases h : p
  · exact iteP h (h1 h)
  · exact iteN h (h2 h)
theorem fmod_pos {a b : Int} (h : 0 < b) : a.fmod b = a % b := Int.fmod_eq_emod_of_nonneg a (by omega)
end
/-! ### the deck -/
structure Deck (H : Hp) (p l : Addr) (n : Int) : Prop where
  hp : H p = some (.lst [.ref l, .int n])
  hl : ∃ cells : List Int, H l = some (.lst (cells.map V.int)) ∧ (∀ c ∈ cells, 0 ≤ c) ∧ cells.length ≤ 63
theorem deck_ne {l : Addr} {n : Int} {cells : List Int} : HO.lst [.ref l, .int n] ≠ HO.lst (cells.map V.int) := by
  intro q
  injection q with q
  cases cells with
  | nil => cases q
  | cons c r => cases (List.cons.inj q).1
/-- all but the deck is as it was -/
def Fr (p l : Addr) (H H' : Hp) : Prop := ∀ b o, b ≠ p → b ≠ l → H b = some o → H' b = some o
theorem Fr.trans {p l : Addr} {H H1 H2 : Hp} (a : Fr p l H H1) (b : Fr p l H1 H2) : Fr p l H H2 := fun c o h1 h2 h => b c o h1 h2 (a c o h1 h2 h)
theorem Same.fr {p l : Addr} {H H' : Hp} (s : Same H H') : Fr p l H H' := fun b o _ _ h => s b o h
theorem Deck.same {H H' : Hp} {p l : Addr} {n : Int} (D : Deck H p l n) (s : Same H H') : Deck H' p l n := by
  obtain ⟨cells, hl, hc⟩ := D.hl
  exact ⟨s _ _ D.hp, cells, s _ _ hl, hc⟩
theorem Fr.tup {H H' : Hp} {p l b : Addr} {n : Int} {xs : List V} (f : Fr p l H H') (D : Deck H p l n) (h : H b = some (.tup xs)) : H' b = some (.tup xs) := by
  obtain ⟨cells, hl, hc⟩ := D.hl
  exact f b _ (ne_of h D.hp (by intro q; cases q)) (ne_of h hl (by intro q; cases q)) h
def sp_l_deck (K : PySem.W.Frag) : Sp := fun vs H Q _ => ∃ (a : Addr) (ns : List Int), vs = [.ref a] ∧ SqL K H a (ns.map V.int) ∧ ns.length ≤ 63 ∧ ∀ H' p l, Same H H' → Deck H' p l 0 → Q (.ref p) H'
def sp_l_draw (K : PySem.W.Frag) : Sp := fun vs H Q _ => ∃ (p l : Addr) (n m : Int), vs = [.ref p, .int m] ∧ Deck H p l n ∧ 0 ≤ n ∧ n ≤ 1000000 ∧ 0 < m ∧ m ≤ 1000000000000000000000000000000000000000000000000000000000000 ∧
  ∀ r H', 0 ≤ r → r < m → Fr p l H H' → Deck H' p l (n + 1) → Q (.int r) H'
def sp_l_one (K : PySem.W.Frag) : Sp := fun vs H Q _ => ∃ (p l b : Addr) (n : Int) (xs : List V), vs = [.ref p, .ref b] ∧ Deck H p l n ∧ 0 ≤ n ∧ n ≤ 1000000 ∧ H b = some (.lst xs) ∧ b ≠ p ∧ b ≠ l ∧ 0 < xs.length ∧ xs.length ≤ 1000 ∧
  ∀ x H', x ∈ xs → Fr p l H H' → Deck H' p l (n + 1) → Q x H'
theorem cut63 {ns : List Int} (h : ns.length ≤ 63) : cutV (ns.map V.int) none (some 63) = ns.map V.int := by
  unfold cutV
  rw [HT.sIx_none, show HT.sIx (ns.map V.int).length (ns.map V.int).length (some 63) = min 63 (ns.map V.int).length from HT.sIx_nat _ _ 63]
  rw [List.length_map, Nat.min_eq_right h, List.drop_zero]
  exact List.take_of_length_le (by rw [List.length_map]; omega)
def absI (n : Int) : Int := if n < 0 then -n else n
theorem absI_pos (n : Int) : 0 ≤ absI n := by
  unfold absI
  split <;> omega
theorem div_draw {c m : Int} (h0 : 0 < m) (h : m ≤ 1000000000000000000000000000000000000000000000000000000000000) : CDivW c m :=
  wide_div (b := 300) h0 (by omega) (by decide) (by decide)
theorem cut_all {xs : List V} {n : Nat} : cutV xs none (some (n : Int)) = xs.take n := by
  unfold cutV
  rw [HT.sIx_none, HT.sIx_nat, List.drop_zero, Nat.sub_zero]
  rcases Nat.le_total n xs.length with h | h
  · rw [Nat.min_eq_left h]
  · rw [Nat.min_eq_right h, List.take_length, List.take_of_length_le h]
theorem ne_new {H : Hp} {p b : Addr} {o : HO} (h : H p = some o) (n : H b = none) : b ≠ p := (ne_of_none h n).symm
/-- what the deck's second list is not -/
theorem Deck.lne {H : Hp} {p l b : Addr} {n : Int} (D : Deck H p l n) (h : H b = none) : b ≠ p ∧ b ≠ l := by
  obtain ⟨cells, hl, hc⟩ := D.hl
  exact ⟨ne_new D.hp h, ne_new hl h⟩
section
variable {X : Cx}
/-- repr of an int or None -/
theorem call_repr_some : CallR X (.builtin "repr") (fun xs H Q => (∃ i, xs = [.int i] ∧ i.natAbs.log2 < 1920 ∧ Q (.str (toString i)) H) ∨ (xs = [.non] ∧ Q (.str "None") H)) := by
  intro pins s σ H xs us Q I r h
  rcases h with ⟨i, rfl, hz, q⟩ | ⟨rfl, q⟩
  · obtain ⟨u, rfl, t, rfl⟩ := vals1 r
    exact PySem.P.repr_of_int hz ⟨.str _, H, I.tok _, ⟨_, rfl⟩, q⟩
  · obtain ⟨u, rfl, rfl⟩ := vals1 r
    exact PySem.P.repr_of_none ⟨.str _, H, I.tok _, ⟨_, rfl⟩, q⟩
def dataI (ns : List Int) : PyData := .list (ns.map PyData.int)
theorem dp_ints {K : PySem.W.Frag} {H : Hp} : ∀ ns : List Int, DpAll K H (ns.map V.int) (ns.map PyData.int)
  | [] => .nil
  | n :: ns => .cons (.int n) (dp_ints ns)
theorem showable_ints : ∀ {ns : List Int}, (∀ n ∈ ns, n.natAbs.log2 < 1920) → PyData.showableAll (ns.map PyData.int) = true
  | [], _ => rfl
  | n :: ns, h => by
    have a := h n (List.mem_cons_self ..)
    have b := showable_ints (ns := ns) fun m hm => h m (List.mem_cons_of_mem _ hm)
    simp only [List.map_cons, PyData.showableAll, PyData.showable, decide_eq_true a, b, Bool.and_self]
theorem hasDict_ints : ∀ ns : List Int, PyData.hasDictAll (ns.map PyData.int) = false
  | [] => rfl
  | n :: ns => by
    simp only [List.map_cons, PyData.hasDictAll, PyData.hasDict, hasDict_ints ns, Bool.or_self]
theorem depth_ints : ∀ ns : List Int, PyData.depthAll (ns.map PyData.int) ≤ 1
  | [] => by simp [PyData.depthAll]
  | n :: ns => by
    have := depth_ints ns
    simp only [List.map_cons, PyData.depthAll, PyData.depth]
    omega
theorem shown_ints : ∀ {ns : List Int}, (∀ n ∈ ns, n.natAbs.log2 < 1920) → ((PyData.shownAll (ns.map PyData.int)).map (·.length)).sum ≤ 1921 * ns.length ∧ (PyData.shownAll (ns.map PyData.int)).length = ns.length
  | [], _ => by simp [PyData.shownAll]
  | n :: ns, h => by
    have a := PyProof.Rows.int_text_len_1921 (h n (List.mem_cons_self ..))
    obtain ⟨b, c⟩ := shown_ints (ns := ns) fun m hm => h m (List.mem_cons_of_mem _ hm)
    simp only [List.map_cons, PyData.shownAll, PyData.shown, List.sum_cons, List.length_cons]
    omega
/-- repr of a list of ints -/
theorem call_repr_ints (gu : X.A.guards = some []) (room : ∃ k, Room k X.A) : CallR X (.builtin "repr") (fun xs H Q => ∃ a ns, xs = [.ref a] ∧ SqL X.K H a (ns.map V.int) ∧ ns.length ≤ 5000 ∧ (∀ n ∈ ns, n.natAbs.log2 < 1920) ∧ Q (.str (dataI ns).shown) H) := by
  intro pins s σ H xs us Q I r h
  obtain ⟨a, ns, rfl, hS, len, small, q⟩ := h
  refine call_repr_data gu room pins s σ H _ us Q I r ⟨a, dataI ns, rfl, .lst hS (dp_ints ns), ?_, ?_, ?_, ?_, q⟩
  · unfold dataI
    simp only [PyData.showable, showable_ints small]
  · unfold dataI
    simp only [PyData.hasDict, hasDict_ints]
  · have := depth_ints ns
    unfold dataI
    simp only [PyData.depth]
    omega
  · obtain ⟨s1, s2⟩ := shown_ints small
    have := listText_len_le (PyData.shownAll (ns.map PyData.int))
    unfold dataI
    simp only [PyData.shown]
    rw [sizeLine_eq]
    omega
end
end Sm

set_option Elab.async false
set_option linter.all false
set_option maxRecDepth 100000
set_option maxHeartbeats 4000000
namespace Sm
open PySem PySem.Spec PyProof.Rows L2
/-! ### max of a list, with a default -/
theorem max_loop_kw {prog : Program} {w : World} {A : Around} {R : Result → Shared → Prop} {I : Addr} {fp wr : List Addr} {n : Nat} {P : Nat → Value → Prop} {St : Nat → Heap → Prop} (W : Walks prog w A.in1 I fp wr n P St) (bt : Nat → Nat → Bool) (hcmp : CmpOf prog w A.in1 CmpOp.Gt P bt)
    (S : Addr) (hSf : ¬ S ∈ fp) (kw : List (Str × Value)) : ∀ (k j : Nat) (s : Shared) (vb : Value) (c : Nat), n - (j + 1) = k → j + 1 ≤ n → St (j + 1) s.heap → P (argBest bt j) vb → s.heap.get? S = some { cls := Value.type "list", data := Data.seq #[vb, vb] c } →
      (∀ (v : Value) (h' : Heap) (tk : Nat), P (argBest bt (n - 1)) v → (∀ (b : Addr) (o : Obj), ¬ b ∈ wr → b ≠ S → s.heap.get? b = some o → h'.get? b = some o) → R (Except.ok (Flow.ret v)) { heap := h', gens := s.gens, drawn := s.drawn, toks := tk, os := s.os }) →
      codeAny (model prog w) A (Code.builtin "max.loop" { pos := [Value.ref I, Value.none, Value.ref S], kw := kw }) R s := by
  have hSw : ¬ S ∈ wr := fun h => hSf (W.sub S h)
  intro k
  induction k with
  | zero =>
    intro j s vb c hk hj hst hPb hS hR
    have hin : j + 1 = n := by omega
    refine codeAny_builtin F.entry_max_loop ?_
    rw [Around.under_plainId F.plain_max_loop]
    refine wpAny_bind (wpAny_seqItems hS rfl (wpAny_bind (wpAny_tryCatch (W.done s _ _ (hin ▸ hst) fun h' tk hk' => ?_))))
    have hS' := hk' S _ hSw hS
    refine wpAny_bind (wpAny_updateSeq hS' rfl (wpAny_bind (wpAny_letGo (wpAny_pure (hR vb _ tk ?_ fun b o hbw hbS e => ?_)))) ?_ ?_)
    · rw [← hin]
      exact hPb
    · exact (Heap.get?_update_other _ _ (Ne.symm hbS)).trans (hk' b o hbw e)
    · show 2 ≤ sizeLine
      decide
    · show 0 ≤ sizeLine + 1
      exact Nat.zero_le _
  | succ k ih =>
    intro j s vb c hk hj hst hPb hS hR
    have hlt : j + 1 < n := by omega
    refine codeAny_builtin F.entry_max_loop ?_
    rw [Around.under_plainId F.plain_max_loop]
    refine wpAny_bind (wpAny_seqItems hS rfl (wpAny_bind (wpAny_tryCatch (W.item (j + 1) s _ _ hlt hst fun v h' tk hP hst' hk' => ?_))))
    have hS' := hk' S _ hSw hS
    have hname : (toString "max" ++ toString ".loop" : String) = "max.loop" := by decide
    refine wpAny_bind (wpAny_pure ?_)
    refine wpAny_bind (wpAny_tryCatch (wpAny_holding (wpAny_bind (hcmp (j + 1) (argBest bt j) v vb _ _ _ hP hPb (wpAny_bind (wpAny_holding (wpAny_truthy_bool (wpAny_bind (wpAny_letGo (wpAny_pure ?_))))))))))
    have ab : argBest bt (j + 1) = if bt (j + 1) (argBest bt j) = true then j + 1 else argBest bt j := rfl
    cases hb : bt (j + 1) (argBest bt j) with
    | false =>
      rw [hb] at ab
      refine wpAny_ite_false rfl (wpAny_bind (wpAny_letGo ?_))
      rw [hname]
      exact wpAny_pure ⟨plainId_quiet F.plain_max_loop _, ih (j + 1) _ vb c (by omega) (by omega) hst' (by rw [ab]; exact hPb) hS' fun v' h'' tk'' hP' hk'' => hR v' h'' tk'' hP' fun b o hbw hbS e => hk'' b o hbw hbS (hk' b o hbw e)⟩
    | true =>
      rw [hb] at ab
      refine wpAny_ite_true rfl (wpAny_bind (wpAny_updateSeq hS' rfl (wpAny_bind (wpAny_letGo ?_)) ?_ ?_))
      · rw [hname]
        refine wpAny_pure ⟨plainId_quiet F.plain_max_loop _, ih (j + 1) _ v _ (by omega) (by omega) (W.frame _ _ _ hst' fun b hb' o e => (Heap.get?_update_other _ _ (fun q => hSf (by rw [q]; exact hb'))).trans e) (by rw [ab]; exact hP) (Heap.get?_update_self _ hS' rfl) fun v' h'' tk'' hP' hk'' => hR v' h'' tk'' hP' fun b o hbw hbS e => hk'' b o hbw hbS ((Heap.get?_update_other _ _ (Ne.symm hbS)).trans (hk' b o hbw e))⟩
      · show 2 ≤ sizeLine
        decide
      · show 2 ≤ sizeLine + 1
        decide
theorem max_first_kw {prog : Program} {w : World} {A : Around} {R : Result → Shared → Prop} {I : Addr} {fp wr : List Addr} {n : Nat} {P : Nat → Value → Prop} {St : Nat → Heap → Prop} (W : Walks prog w A.in1 I fp wr n P St) (bt : Nat → Nat → Bool) (hcmp : CmpOf prog w A.in1 CmpOp.Gt P bt)
    (S : Addr) (hSf : ¬ S ∈ fp) (x : Str) (d : Value) {s : Shared} {c : Nat} (hst : St 0 s.heap) (hS : s.heap.get? S = some { cls := Value.type "list", data := Data.seq #[] c })
    (h0 : n = 0 → ∀ h' tk, (∀ (b : Addr) (o : Obj), ¬ b ∈ wr → s.heap.get? b = some o → h'.get? b = some o) → R (Except.ok (Flow.ret d)) { heap := h', gens := s.gens, drawn := s.drawn, toks := tk, os := s.os })
    (hR : 0 < n → ∀ (v : Value) (h' : Heap) (tk : Nat), P (argBest bt (n - 1)) v → (∀ (b : Addr) (o : Obj), ¬ b ∈ wr → b ≠ S → s.heap.get? b = some o → h'.get? b = some o) → R (Except.ok (Flow.ret v)) { heap := h', gens := s.gens, drawn := s.drawn, toks := tk, os := s.os }) :
    codeAny (model prog w) A (Code.builtin "max.loop" { pos := [Value.ref I, Value.none, Value.ref S], kw := [(x, d)] }) R s := by
  have hSw : ¬ S ∈ wr := fun h => hSf (W.sub S h)
  have hname : (toString "max" ++ toString ".loop" : String) = "max.loop" := by decide
  refine codeAny_builtin F.entry_max_loop ?_
  rw [Around.under_plainId F.plain_max_loop]
  by_cases hn : 0 < n
  · refine wpAny_bind (wpAny_seqItems hS rfl (wpAny_bind (wpAny_tryCatch (W.item 0 s _ _ hn hst fun v h' tk hP hst' hk' => ?_))))
    have hS' := hk' S _ hSw hS
    refine wpAny_bind (wpAny_pure ?_)
    refine wpAny_bind (wpAny_updateSeq hS' rfl ?_ ?_ ?_)
    · rw [hname]
      refine wpAny_pure ⟨plainId_quiet F.plain_max_loop _, max_loop_kw W bt hcmp S hSf _ (n - (0 + 1)) 0 _ v _ rfl hn (W.frame _ _ _ hst' fun b hb' o e => (Heap.get?_update_other _ _ (fun q => hSf (by rw [q]; exact hb'))).trans e) hP (Heap.get?_update_self _ hS' rfl) fun v' h'' tk'' hP' hk'' => hR hn v' h'' tk'' hP' fun b o hbw hbS e => hk'' b o hbw hbS ((Heap.get?_update_other _ _ (Ne.symm hbS)).trans (hk' b o hbw e))⟩
    · show 0 ≤ sizeLine
      exact Nat.zero_le _
    · show 2 ≤ sizeLine + 1
      decide
  · have z : n = 0 := by omega
    subst z
    refine wpAny_bind (wpAny_seqItems hS rfl (wpAny_bind (wpAny_tryCatch (W.done s _ _ hst fun h' tk hk' => ?_))))
    exact wpAny_bind (wpAny_rule (wpAny_pure (h0 rfl h' tk hk')))
theorem intSize (xs : Array (Int × Tok)) : (intItems xs).size = xs.size := by simp [intItems]
theorem max_kw {prog : Program} {w : World} {A : Around} {E : Value → Shared → Prop} {s : Shared} {l : Addr} {xs : Array (Int × Tok)} {x : Value} {Q : Value → Shared → Prop} (hh : A.handled = none) (hl : s.heap.IsList l (intItems xs))
    (h0 : xs.size = 0 → ∀ h' tk, (∀ (b : Addr) (o : Obj), s.heap.get? b = some o → h'.get? b = some o) → Q x { heap := h', gens := s.gens, drawn := s.drawn, toks := tk, os := s.os })
    (hR : 0 < xs.size → ∀ v h' tk, (intItems xs)[argBest (fun i j => decide (numAt xs i > numAt xs j)) (xs.size - 1)]? = some v → (∀ (b : Addr) (o : Obj), s.heap.get? b = some o → h'.get? b = some o) → Q v { heap := h', gens := s.gens, drawn := s.drawn, toks := tk, os := s.os }) :
    wpAny (model prog w) A (call (Value.builtin "max") [Value.ref l] [(Str.ofString "default", x)]) Q E s := by
  have hname : (toString "max" ++ toString ".loop" : String) = "max.loop" := by decide
  refine PyProof.Rows.kmk_tree F.kind_max F.plain_max F.entry_max rfl ?_
  have hbind : Builtin.Builtins.bindParams "max" ["key", "default"] 0 { kw := [(Str.ofString "default", x)] } = pure [none, some x] := rfl
  refine wpAny_bind (wpAny_of_eq hbind (wpAny_bind (wpAny_pure ?_)))
  refine wpAny_bind (wpAny_pyIter_list hl (wpAny_bind (wpAny_newObj_type ?_ ?_)))
  rotate_left
  · show 0 ≤ sizeLine
    exact Nat.zero_le _
  have hlt : l < s.heap.objs.size := by
    obtain ⟨o, e, _⟩ := hl
    exact Heap.lt_size e
  have ne : l ≠ s.heap.objs.size := Nat.ne_of_lt hlt
  have sz : (s.heap.push { cls := Value.type "list_iterator", data := Data.fields #[Value.ref l, Value.int 0 0] }).objs.size = s.heap.objs.size + 1 := Heap.size_push _ _
  have keep : ∀ (b : Addr) (o : Obj), s.heap.get? b = some o → ((s.heap.push { cls := Value.type "list_iterator", data := Data.fields #[Value.ref l, Value.int 0 0] }).push { cls := Value.type "list", data := Data.seq #[] }).get? b = some o := fun b o e => Heap.get?_push_of_some _ (Heap.get?_push_of_some _ e)
  rw [hname]
  refine wpAny_pure ⟨plainId_quiet F.plain_max_loop _, ?_⟩
  refine max_first_kw (Walks.list (A := A.in1) hh s.heap.objs.size l ne (intItems xs)) (fun i j => decide (numAt xs i > numAt xs j)) (CmpOf.ints_gt (numAt xs) fun i v hv => ?_) _ ?_ _ _ ⟨⟨_, Heap.get?_push_of_some _ (Heap.get?_push_size s.heap rfl), rfl, rfl⟩, hl.at fun o e => keep l o e⟩ (Heap.get?_push_size _ rfl) (fun hz h' tk hk => ?_) (fun hn v h' tk hv hk => ?_)
  · obtain ⟨t, e⟩ := intItems_at hv
    exact ⟨t, e⟩
  · intro hm
    rw [sz] at hm
    rcases List.mem_cons.mp hm with q | q
    · exact absurd q (Nat.succ_ne_self _)
    · have q := List.mem_singleton.mp q
      exact absurd hlt (by rw [← q]; exact Nat.not_lt.mpr (Nat.le_succ _))
  · refine h0 (by rw [← intSize xs]; exact hz) h' tk fun b o e => hk b o ?_ (keep b o e)
    intro q
    have q := List.mem_singleton.mp q
    have lt := Heap.lt_size e
    rw [q] at lt
    exact Nat.lt_irrefl _ lt
  · refine hR ?_ v h' tk ?_ fun b o e => hk b o ?_ ?_ (keep b o e)
    · rw [← intSize xs]
      exact hn
    · rw [← intSize xs]
      exact hv
    · intro q
      have q := List.mem_singleton.mp q
      have lt := Heap.lt_size e
      rw [q] at lt
      exact Nat.lt_irrefl _ lt
    · rw [sz]
      have lt := Heap.lt_size e
      exact Nat.ne_of_lt (Nat.lt_succ_of_lt lt)
theorem max_kw_ints {prog : Program} {w : World} {A : Around} {E : Value → Shared → Prop} {s : Shared} {l : Addr} {its : List Value} {ns : List Int} {x : Value} {Q : Value → Shared → Prop} (hh : A.handled = none) (hl : s.heap.IsList l its.toArray) (hi : PyProof.Rows.IntsAre its ns)
    (h0 : ns = [] → ∀ h' tk, (∀ (b : Addr) (o : Obj), s.heap.get? b = some o → h'.get? b = some o) → Q x { heap := h', gens := s.gens, drawn := s.drawn, toks := tk, os := s.os })
    (hR : ∀ (h' : Heap) (tk : Nat) (M : Int) (t' : Tok), (∀ (b : Addr) (o : Obj), s.heap.get? b = some o → h'.get? b = some o) → M ∈ ns → (∀ a, a ∈ ns → a ≤ M) → Q (Value.int M t') { heap := h', gens := s.gens, drawn := s.drawn, toks := tk, os := s.os }) :
    wpAny (model prog w) A (call (Value.builtin "max") [Value.ref l] [(Str.ofString "default", x)]) Q E s := by
  obtain ⟨xs, e⟩ := AllInts.items (PyProof.Rows.IntsAre.allInts hi)
  have hn : numsOf (intItems xs).toList = ns := by
    rw [← e]
    exact PyProof.Rows.IntsAre.numsOf hi
  rw [nums_intItems] at hn
  rw [e] at hl
  have ln : ns.length = xs.size := by rw [← hn]; simp
  refine max_kw hh hl (fun hz h' tk hk => h0 (List.length_eq_zero_iff.mp (by rw [ln]; exact hz)) h' tk hk) (fun hp v h' tk hv hk => ?_)
  obtain ⟨t, rfl⟩ := intItems_at hv
  obtain ⟨g1, g2⟩ := argBest_gt (numAt xs) (xs.size - 1)
  have nd : ∀ j, numAt xs j = ns.getD j 0 := fun j => by rw [← hn]; exact numAt_eq xs j
  refine hR h' tk _ t hk ?_ fun a ha => ?_
  · rw [nd]
    have lt : argBest (fun i j => decide (numAt xs i > numAt xs j)) (xs.size - 1) < ns.length := by omega
    rw [List.getD_eq_getElem?_getD, List.getElem?_eq_getElem lt]
    exact List.getElem_mem lt
  · obtain ⟨j, hj, rfl⟩ := List.mem_iff_getElem.mp ha
    have q := g2 j (by omega)
    rw [nd j, List.getD_eq_getElem?_getD, List.getElem?_eq_getElem hj] at q
    exact q
section
variable {X : Cx}
def rMaxDef (K : PySem.W.Frag) (i : Int) : List V → Hp → VK → Prop := fun vs H Q => ∃ (a : Addr) (ns : List Int), vs = [V.ref a] ∧ SqL K H a (ns.map V.int) ∧ (ns = [] → Q (.int i) H) ∧ ∀ m, m ∈ ns → (∀ y, y ∈ ns → y ≤ m) → Q (.int m) H
theorem pe_maxDef {e : Expr} {t : TA} {p pos cp kp : Pos} {i : Int} {j : Nat} (hc : X.calm = true) (hg : Gl X "max") (hm : X.mg "max" = none) (ha : PA X [e] t) (he : starEach [e] X.env = (false, eval e X.env) :: starEach [] X.env := by rfl)
    (hpl : ((backTo pos (starEach [e] X.env)).any fun x => x.1) = false := by rfl) :
    PE X (.Call (.Name "max" p) [e] [{ arg := some "default", value := .Constant (.int i) j cp, pos := kp }] pos) (tCB (rMaxDef X.K i) t) := by
  constructor
  intro pins s σ H Q I want
  refine wpAny_Call_Name_kw (ld_blt I hg hm (u := .builtin "max") rfl ?_)
  refine PyProof.Rows.callWith_kw (thn (ha.run pos pins s σ H _ I want) ?_) (by rw [he]; rfl) hpl rfl rfl
  rintro us s1 ⟨vs, H1, I1, rel, a, ns, rfl, hs, h0, hR⟩
  refine wpAny_evalAll_cons ?_
  refine wpAny_bind (wpAny_mono ((pe_int (X := X) (i := i) (j := j) (pos := cp)).run pins s1 σ H1 (fun v H' => v = .int i ∧ H' = H1) I1 ⟨rfl, rfl⟩) ?_ (fun _ _ q => q))
  rintro u s2 ⟨v, H2, I2, ru, rfl, rfl⟩
  refine wpAny_bind (wpAny_standAt (wpAny_pure ?_))
  refine wpAny_evalAll_nil ?_
  obtain ⟨its, rv, hl, hz⟩ := I2.list hs
  rw [Vals.ref1 rel]
  exact max_kw_ints (I2.ok.hd hc) (PlainL.isList hl) (Vals.ints rv) (fun e h' tk hk => ⟨_, _, I2.kept hk, ru, h0 e⟩) (fun h' tk M t' hk h1 h2 => ⟨.int M, _, I2.kept hk, ⟨t', rfl⟩, hR M h1 h2⟩)
end
end Sm

set_option Elab.async false
set_option linter.all false
set_option maxRecDepth 100000
set_option maxHeartbeats 4000000
namespace Sm
open PySem PySem.Spec PyProof.Rows L2
section
variable {X : Cx}
/-- max(list, default=ed), ed told to be the int i -/
theorem pe_maxDefE {e ed : Expr} {t : TA} {td : TE} {p pos kp : Pos} {i : Int} (hc : X.calm = true) (hg : Gl X "max") (hm : X.mg "max" = none) (hd : PE X ed td) (hi : ∀ σ H (Q : VK), Q (.int i) H → td σ H Q) (ha : PA X [e] t) (he : starEach [e] X.env = (false, eval e X.env) :: starEach [] X.env := by rfl)
    (hpl : ((backTo pos (starEach [e] X.env)).any fun x => x.1) = false := by rfl) :
    PE X (.Call (.Name "max" p) [e] [{ arg := some "default", value := ed, pos := kp }] pos) (tCB (rMaxDef X.K i) t) := by
  constructor
  intro pins s σ H Q I want
  refine wpAny_Call_Name_kw (ld_blt I hg hm (u := .builtin "max") rfl ?_)
  refine PyProof.Rows.callWith_kw (thn (ha.run pos pins s σ H _ I want) ?_) (by rw [he]; rfl) hpl rfl rfl
  rintro us s1 ⟨vs, H1, I1, rel, a, ns, rfl, hs, h0, hR⟩
  refine wpAny_evalAll_cons ?_
  refine wpAny_bind (wpAny_mono (hd.run pins s1 σ H1 (fun v H' => v = .int i ∧ H' = H1) I1 (hi _ _ _ ⟨rfl, rfl⟩)) ?_ (fun _ _ q => q))
  rintro u s2 ⟨v, H2, I2, ru, rfl, rfl⟩
  refine wpAny_bind (wpAny_standAt (wpAny_pure ?_))
  refine wpAny_evalAll_nil ?_
  obtain ⟨its, rv, hl, hz⟩ := I2.list hs
  rw [Vals.ref1 rel]
  exact max_kw_ints (I2.ok.hd hc) (PlainL.isList hl) (Vals.ints rv) (fun e h' tk hk => ⟨_, _, I2.kept hk, ru, h0 e⟩) (fun h' tk M t' hk h1 h2 => ⟨.int M, _, I2.kept hk, ⟨t', rfl⟩, hR M h1 h2⟩)
end
end Sm

set_option Elab.async false
set_option linter.all false
set_option maxRecDepth 100000
set_option maxHeartbeats 4000000
namespace Sm
open PySem PySem.Spec PyProof.Rows L2
/-- isinstance of the exception that the suite holds, with its dict: one class, or a tuple of classes just laid -/
def rIsX (K : PySem.W.Frag) (cls : Value) (d : Option Addr) (a : Addr) : List V → Hp → VK → Prop := fun xs H Q => ∃ (D dd : Addr) (fs : List (Str × V)), cls = .ref D ∧ d = some dd ∧ H dd = some (.xd fs) ∧ ExcC K D ∧
  ((∃ (c : V) (cv : Value) (b : Bool), xs = [.ref a, c] ∧ ClsV c cv ∧ PySem.W.kitOne K (.ref D) cv = some b ∧ Q (.bl b) H) ∨
   ∃ (tp : Addr) (cs : List V) (us : List Value) (b : Bool), xs = [.ref a, .ref tp] ∧ H tp = some (.tup cs) ∧ Paired ClsV cs us ∧ PySem.W.kitAny K (.ref D) us = some b ∧ Q (.bl b) H)
theorem call_isX {X : Cx} {a : Addr} {cls : Value} {d : Option Addr} {oe : Obj} {pn : List (Addr × Obj)} (hz : Zc cls d oe) (hf : ∃ vs, oe.data = .fields vs) : CallR (X.suite a ((a, oe) :: pn)) (.builtin "isinstance") (rIsX X.K cls d a) := by
  intro pins s σ H xs us Q I r h
  obtain ⟨D, dd, fs, rfl, rfl, ea, C, h⟩ := h
  obtain ⟨ha, _⟩ := I.pin (a, oe) (List.mem_append_left _ List.mem_cons_self)
  obtain ⟨vs, hd⟩ := hf
  have hx : ObjOk X.prog X.w H s.heap dd (.xd fs) := I.hok dd _ ea
  obtain ⟨mA, hns, hr⟩ := hx
  obtain ⟨od, ho, hl⟩ := lookIn_ns hns
  have J : PySem.W.InstAt s.heap a oe D (some od) := ⟨ha, hz.1, by unfold PySem.W.notCls; rw [hd] <;> rfl, by rw [hz.2]; exact ho⟩
  obtain ⟨cd, hc, _⟩ := PySem.W.any_some C.hd
  have Z := PySem.W.kitx_exc (x := a) (ox := oe) (od := some od) (by rw [hc]; rfl) C.hg C.hk C.hs C.ha C.hn C.ht C.hm
  rcases h with ⟨c, cv, b, rfl, k, e, q⟩ | ⟨tp, cs, ws, b, rfl, hT, k, e, q⟩
  · obtain ⟨u1, u2, rfl, r1, r2⟩ := vals2 r
    cases (show u1 = Value.ref a from r1)
    cases k.eq r2
    exact PySem.W.kia_one Z I.kIn J e (fun z => nomatch z) fun tk => ⟨.bl b, H, I.kept (t' := tk) fun _ _ z => z, rfl, q⟩
  · obtain ⟨u1, u2, rfl, r1, r2⟩ := vals2 r
    cases (show u1 = Value.ref a from r1)
    cases (show u2 = Value.ref tp from r2)
    obtain ⟨_, its, rv, o, h1, h2, n, h3⟩ := (show ObjOk X.prog X.w H s.heap tp (.tup cs) from I.hok tp _ hT)
    have e3 := ClsV.all k rv
    subst e3
    obtain ⟨oc, od', dt, sl⟩ := o
    simp only at h2 h3
    subst h2 h3
    exact PySem.W.kia_tup Z I.kIn J h1 e (fun z => nomatch z) fun tk => ⟨.bl b, H, I.kept (t' := tk) fun _ _ z => z, rfl, q⟩
theorem kit_own {K : PySem.W.Frag} {D C : Addr} {b : Bool} (h1 : PySem.W.isClsIn K C = true) (h2 : PySem.W.typeIn K (.ref C) = some (.type "type")) (h3 : PySem.W.subIn K (.ref D) (.ref C) = some b) (h4 : PySem.W.subIn K (.ref D) (.ref D) = some true) : PySem.W.kitOne K (.ref D) (.ref C) = some b := by
  unfold PySem.W.kitOne
  by_cases e : D = C
  · subst e
    rw [h4] at h3
    rw [if_pos (beq_self_eq_true _)]
    exact h3
  · rw [if_neg (fun q => e (Value.ref.inj (beq_iff_eq.mp q)))]
    have h1' : (PySem.W.clsIn K C).isSome = true := h1
    have z : ((PySem.W.clsIn K C).isSome && PySem.W.typeIn K (.ref C) == some (.type "type")) = true := by rw [h1', h2] <;> rfl
    show (if ((PySem.W.clsIn K C).isSome && PySem.W.typeIn K (.ref C) == some (.type "type")) = true then PySem.W.subIn K (.ref D) (.ref C) else none) = some b
    rw [if_pos z]
    exact h3
theorem kit_valerr {K : PySem.W.Frag} {D : Addr} {b : Bool} (h : PySem.W.subIn K (.ref D) (.type "ValueError") = some b) : PySem.W.kitOne K (.ref D) (.type "ValueError") = some b := by
  have q : ((Value.ref D) == (Value.type "ValueError")) = false := beq_eq_false_iff_ne.mpr fun z => nomatch z
  unfold PySem.W.kitOne
  rw [if_neg (by rw [q]; exact Bool.false_ne_true)]
  show (if PySem.W.kitMeta "ValueError" = true then PySem.W.subIn K (.ref D) (.type "ValueError") else none) = some b
  rw [if_pos (by decide +kernel)]
  exact h
theorem kit_cons_false {K : PySem.W.Frag} {t c : Value} {cs : List Value} {b : Bool} (h : PySem.W.kitOne K t c = some false) (hr : PySem.W.kitAny K t cs = some b) : PySem.W.kitAny K t (c :: cs) = some b := by
  unfold PySem.W.kitAny
  rw [h]
  exact hr
/-- an own exception class with one field, made by its own __init__ -/
structure XcTxt (K : PySem.W.Frag) (mg : Str → Option Value) (nm fl : Str) (C fI : Addr) : Prop where
  g : mg nm = some (.ref C)
  oex : OexC K C
  no : PySem.W.findIn K (.ref C) fl = some none
  iC : PySem.W.findIn K (.ref C) "__init__" = some (some (.ref fI))
  tI : PySem.W.typeIn K (.ref fI) = some (.type "function")
  xf : XfC K C
  ec : ExcC K C
/-- C(e), told plainly: the new exception's dict holds the field -/
def tMkF (C : Addr) (fl : Str) (ta : TA) : L2.St → Hp → XK → Prop := fun σ H Q => ta σ H fun vs H1 => ∃ v, vs = [v] ∧ ∀ d, H1 d = none → Q (.ref C) (some d) (upd H1 d (.xd [(fl, v)]))
def sp_init (K : PySem.W.Frag) (fl : Str) : Sp := fun vs H Q _ => ∃ (a C : Addr) (v : V), vs = [.ref a, v] ∧ OexC K C ∧ PySem.W.findIn K (.ref C) fl = some none ∧ H a = some (exo a C none) ∧ ∀ dx, H dx = none → dx ≠ a → Q .non (upd (upd H dx (exd dx [(fl, v)])) a (exo a C (some dx)))
theorem xc_mk {C : Addr} {fl : Str} {K : PySem.W.Frag} {ta : TA} {σ : L2.St} {H : Hp} {Q : XK} (T : OexC K C) (no : PySem.W.findIn K (.ref C) fl = some none)
    (h : ta σ H fun vs H1 => ∃ v, vs = [v] ∧ ∀ d H2, Same H1 H2 → H2 d = some (.xd [(fl, v)]) → Q (.ref C) (some d) H2) (mono : ∀ {A B : List V → Hp → Prop}, (∀ vs H1, A vs H1 → B vs H1) → ta σ H A → ta σ H B) : tMkO C (sp_init K fl) [] ta σ H Q := by
  refine mono ?_ h
  rintro vs H1 ⟨v, rfl, k⟩
  refine ⟨by show 1 ≤ 1000; decide, fun a na => ⟨a, C, v, rfl, T, no, upd_same, fun dx nd da => ⟨rfl, dx, [(fl, v)], upd_same, ?_, ?_, ?_⟩⟩⟩
  · rw [upd_ne da, upd_same]
  · rw [upd_ne da] at nd
    exact nd
  · have nd1 : H1 dx = none := by
      rw [upd_ne da] at nd
      exact nd
    refine k dx _ (fun b o hb => ?_) upd_same
    rw [upd_ne (ne_of_none hb nd1), del_ne (ne_of_none hb na), upd_ne (ne_of_none hb na), upd_ne (ne_of_none hb nd1), upd_ne (ne_of_none hb na)]
    exact hb
end Sm

set_option Elab.async false
set_option linter.all false
set_option maxRecDepth 100000
set_option maxHeartbeats 4000000
namespace Sm
open PySem PySem.Spec PyProof.Rows L2 LamX
/-- told: try: return a() / except e as n: a suite that is told by ts -/
def TAs (K : PySem.W.Frag) (CS : Addr) (Ng : List Str) (i : Nat) (ts : Addr → Value → Option Addr → TS) : (XK → Hp → VK → Prop) → Hp → VK → Prop := fun tl H Q =>
  tl (fun cls d H' => ∃ b, PySem.W.exmOne K cls (.ref CS) = some b ∧ (b = true → ∀ (σ : L2.St) (c : Addr), σ.length = Ng.length → H' c = none → ts c cls d { nx := fun _ H2 => Q .non H2, rt := Q } (σ.set i (some (.ref c))) H') ∧ (b = false → False)) H Q
theorem set_read {σ : L2.St} {N : List Str} {n : Str} {i : Nat} {v : V} (h : σ.length = N.length) (hi : N[i]? = some n) : (σ.set i (some v))[i]? = some (some v) := by
  have := (List.getElem?_eq_some_iff.mp hi).1
  rw [List.getElem?_set_self (by omega)]
/-- where an exception is taken, all slots are there -/
theorem takes_len {X : Cx} {W : WX} (t : Takes X W) : Takes X (fun cls d σ H => σ.length = X.N.length → W cls d σ H) := fun u s' z => by
  obtain ⟨a, B, sI, pins, σ, H, cls, d, e, I, nb, up, sky, na, os, ag, w⟩ := z
  exact t u s' ⟨a, B, sI, pins, σ, H, cls, d, e, I, nb, up, sky, na, os, ag, w I.len⟩
section
variable {X : Cx} {Ng : List Str} {x a e n q : Str} {sg : Scope} {g CS : Addr} {cdg : Value} {i : Nat} {b₀ : Stmt} {suite : List Stmt} {p1 p2 p3 p4 p5 p6 : Pos} {ts : Addr → Value → Option Addr → TS}
/-- the def that calls what it got and holds the exception in a suite of its own -/
theorem as_gives (hge : sg.names.lookup e = some .globalImplicit) (hme : X.mg e = some (.ref CS)) (hde : (e == ("__debug__" : Str)) = false) (h0 : ∀ f : Addr, (L2.start Ng [V.ref f])[0]? = some (some (V.ref f))) (nd : Ng.Nodup) (hi : Ng[i]? = some n)
    (hln : ∀ (s : Shared) (H : Hp), (cxOf C8.CX0 X.prog X.w X.K X.mg X.base Ng x sg g cdg X.A X.stack s H C8.E0).nox.env.kindOf n = some .local)
    (hsu : ∀ (s : Shared) (H : Hp) (c : Addr) (oe : Obj) (cls : Value) (d : Option Addr) (pn : List (Addr × Obj)), Zc cls d oe → (∃ vs, oe.data = .fields vs) → PSs ((cxOf C8.CX0 X.prog X.w X.K X.mg X.base Ng x sg g cdg X.A X.stack s H C8.E0).nox.suite c ((c, oe) :: pn)) (b₀ :: suite) (ts c cls d)) :
    GivesTo X Ng x sg g cdg [.Try [.Return (some (.Call (.Name a p1) [] [] p2)) p3] [.ExceptHandler (some (.Name e p4)) (some n) (b₀ :: suite) p5] [] [] p6] a q (TAs X.K CS Ng i ts) := by
  intro f c' s H Q tl act known told
  let Z := (cxOf C8.CX0 X.prog X.w X.K X.mg X.base Ng x sg g cdg X.A X.stack s H C8.E0).nox
  have glob : Gl Z e := hge
  let body : WX → TS := fun W D σ H1 => ∃ out : XK, (∀ cls d (σ' : L2.St) H', out cls d H' → σ'.length = Ng.length → W cls d σ' H') ∧ σ[0]? = some (some (.ref f)) ∧ H1 c' = some (CodeO c' q) ∧ tl out H1 D.rt
  have inner : ∀ (W : WX) (pn : List (Addr × Obj)) (xe : Value → Shared → Prop), Takes (Z.tr pn xe) W → PassesOwn (model Z.prog Z.w) Z.A Z.env xe → PSs (Z.tr pn xe) [.Return (some (.Call (.Name a p1) [] [] p2)) p3] (body W) := by
    intro W pn xe tk _
    refine ⟨fun pins s' σ H' D I told' => ?_⟩
    obtain ⟨out, hW, h1, h2, h3⟩ := told'
    exact (pss_one (ps_ret (pos := p3) (act _ pn xe out p1 p2 (takes_len tk) hW))).run pins s' σ H' D I ⟨h1, h2, h3⟩
  refine ⟨_, pss_one (ps_try_as (X := Z) (c := .ref CS) (i := i) (tb := body) (ts := ts) (Wout := fun _ _ _ _ => False) rfl rfl nd hi (hln s H) ⟨glob, hde, .inl hme⟩ L2.takes0 inner (fun c oe cls d pn hz hf => hsu s H c oe cls d pn hz hf)), ?_⟩
  exact ⟨_, fun cls d σ' H' w len => by
    obtain ⟨b, e1, e2, e3⟩ := w
    exact ⟨b, e1, fun hb c nc => e2 hb σ' c len nc, fun hb => e3 hb⟩, h0 f, known, told⟩
end
end Sm

set_option Elab.async false
set_option linter.all false
set_option maxRecDepth 100000
set_option maxHeartbeats 4000000
namespace Sm
open PySem PySem.Spec PyProof.Rows L2 LamX
/-! ### the law's own call where the law makes lambdas: its table of code objects is tracked too -/
theorem law_atT {P : Program} {w : World} {K : PySem.W.Frag} {mg mb : Str → Option Value} {k : Nat} {fa a c Pt : Addr} {fd : FuncData} {x : Str} {sp : Sp} {s₁ : Shared} {vs : List Value} {ns : List Int}
    (inK : K.In s₁.heap) (names : s₁.heap.Ns mainGlobals mg) (bnames : s₁.heap.Ns builtinsNs mb) (boots : ∀ x : Str, x ≠ "__name__" → mb x = bootBuiltins x) (unlim : s₁.heap.NoLimit) (nogen : s₁.gens = #[])
    (empty : s₁.heap.get? Pt = some (PySem.W.tabObj #[])) (loose : K.lookup Pt = none) (head : PySem.W.codeHdIn K c Pt = true)
    (mods : ∃ (bm : Addr) (ob : Obj), mg "__builtins__" = some (.ref bm) ∧ bm ≠ builtinsNs ∧ s₁.heap.get? bm = some ob ∧ ob.cls = .type "module" ∧ ob.dict = some builtinsNs ∧ ob.data = .plain)
    (script : s₁.heap.get? a = some { cls := .type "list", data := .seq vs.toArray }) (whole : IntsAre vs ns) (few : ns.length ≤ sizeLine) (room : Room k callerA)
    (each : ∀ base : Heap, K.In base → base.Ns mainGlobals mg → TabB base mg c Pt → FnG P w K mg base k fa fd [x] sp) (binds : ∀ (s : Shared) (u : Value), BindsTo s fd ⟨[u], []⟩ [(x, u)])
    (asked : ∀ H : Hp, H Pt = some (.tbl #[]) → SqL K H a (ns.map V.int) → sp [.ref a] H (fun v _ => v = .bl true) E0) :
    codeAny (model P w) callerA (.call (.ref fa) ⟨[.ref a], []⟩) (fun r s' => r = .ok (.ret (.bool true)) ∧ OldK s₁.heap s'.heap ∧ s'.os = s₁.os ∧ AllBare s'.gens) s₁ := by
  have ivs := vals_ints whole
  have apart : a ≠ Pt := fun e => by
    rw [e, empty] at script
    have z : Data.fields #[] = Data.seq vs.toArray _ := congrArg Obj.data (Option.some.inj script)
    cases z
  -- what is tracked: the table, and the script if the module does not hold it itself
  obtain ⟨H, table, seq, ok, only, free⟩ : ∃ H : Hp, H Pt = some (.tbl #[]) ∧ SqL K H a (ns.map V.int) ∧ HOk P w H s₁.heap ∧ (∀ b u, H b = some u → (b = a ∧ u = .frz { cls := .type "list", data := .seq vs.toArray } (.lst (ns.map V.int))) ∨ (b = Pt ∧ u = .tbl #[])) ∧ ∀ b u, H b = some u → K.lookup b = none := by
    cases look : K.lookup a with
    | some o =>
      have same := inK a o look
      rw [script] at same
      injection same with same
      subst same
      have one : ∀ b u, (fun b => if b = Pt then some (HO.tbl #[]) else none : Hp) b = some u → b = Pt ∧ u = .tbl #[] := by
        intro b u z
        by_cases e : b = Pt
        · exact ⟨e, (Option.some.inj ((if_pos e).symm.trans z)).symm⟩
        · exact nomatch (if_neg e).symm.trans z
      refine ⟨fun b => if b = Pt then some (.tbl #[]) else none, if_pos rfl, .inr ⟨_, vs.toArray, _, look, rfl, rfl, rfl, ?_, ?_⟩, fun b u z => ?_, fun b u z => .inr (one b u z), fun b u z => ?_⟩
      · rw [List.size_toArray, whole.length]
        exact few
      · simpa using ivs
      · obtain ⟨rfl, rfl⟩ := one b u z
        exact empty
      · rw [(one b u z).1]
        exact loose
    | none =>
      have two : ∀ b u, (fun b => if b = a then some (HO.frz { cls := .type "list", data := .seq vs.toArray } (.lst (ns.map V.int))) else if b = Pt then some (HO.tbl #[]) else none : Hp) b = some u → (b = a ∧ u = .frz { cls := .type "list", data := .seq vs.toArray } (.lst (ns.map V.int))) ∨ (b = Pt ∧ u = .tbl #[]) := by
        intro b u z
        by_cases e : b = a
        · exact .inl ⟨e, (Option.some.inj ((if_pos e).symm.trans z)).symm⟩
        · have z := (if_neg e).symm.trans z
          by_cases e2 : b = Pt
          · exact .inr ⟨e2, (Option.some.inj ((if_pos e2).symm.trans z)).symm⟩
          · exact nomatch (if_neg e2).symm.trans z
      refine ⟨_, (if_neg apart.symm).trans (if_pos rfl), .inl (.inr ⟨_, if_pos rfl⟩), fun b u z => ?_, two, fun b u z => ?_⟩
      · rcases two b u z with ⟨rfl, rfl⟩ | ⟨rfl, rfl⟩
        · exact ⟨script, by rw [List.length_map]; exact few, vs, _, ivs, script⟩
        · exact empty
      · rcases two b u z with ⟨rfl, _⟩ | ⟨rfl, _⟩
        · exact look
        · exact loose
  have stays : ∀ {b : Addr} {o : Obj}, s₁.heap.get? b = some o → (∀ u, H b ≠ some u) → (hidT s₁.heap H).get? b = some o := fun {b o} e no => hidT_get e (by
    cases z : H b with
    | none => rfl
    | some u => exact (no u z).elim)
  have plainly : ∀ {b : Addr} {o : Obj}, s₁.heap.get? b = some o → (∀ v n, o.data ≠ .seq v n) → (∀ v, o.data ≠ .fields v) → (hidT s₁.heap H).get? b = some o := fun {b o} e n1 n2 => stays e fun u z => by
    rcases only b u z with ⟨rfl, _⟩ | ⟨rfl, _⟩
    · rw [script] at e
      injection e with e
      subst e
      exact n1 _ _ rfl
    · rw [empty] at e
      injection e with e
      subst e
      exact n2 _ rfl
  have spaces : ∀ {b : Addr} {m : Str → Option Value}, s₁.heap.Ns b m → (hidT s₁.heap H).Ns b m := by
    rintro b m ⟨o, es, ep, there, data, rest⟩
    refine ⟨o, es, ep, plainly there (fun v n z => ?_) (fun v z => ?_), data, rest⟩
    · rw [data] at z
      exact nomatch z
    · rw [data] at z
      exact nomatch z
  have inn : K.In (hidT s₁.heap H) := fun b o e => stays (inK b o e) fun u z => by
    rw [free b u z] at e
    exact nomatch e
  have mod : Mod K mg (hidT s₁.heap H) := by
    obtain ⟨mc, c1, c2⟩ := unlim
    exact ⟨inn, spaces names, ⟨mb, spaces bnames, boots⟩, mc, spaces c1, c2⟩
  have tb : TabB (hidT s₁.heap H) mg c Pt := by
    refine ⟨PySem.W.codeHd_of_K inn head, ?_, fun z => ?_⟩
    · obtain ⟨bm, ob, m1, m2, m3, m4, m5, m6⟩ := mods
      refine ⟨bm, ob, m1, m2, fun z => ?_, fun z => ?_, plainly m3 (fun v n z => ?_) (fun v z => ?_), m4, m5, m6⟩
      · obtain ⟨o, es, ep, there, data, _⟩ := names
        rw [z, there] at m3
        injection m3 with m3
        subst m3
        rw [data] at m6
        exact nomatch m6
      · rw [z, empty] at m3
        injection m3 with m3
        subst m3
        exact nomatch m6
      · rw [m6] at z
        exact nomatch z
      · rw [m6] at z
        exact nomatch z
    · obtain ⟨o, es, ep, there, data, _⟩ := names
      rw [z, empty] at there
      injection there with there
      subst there
      exact nomatch data
  have e0 : Env0 P w K mg (hidT s₁.heap H) callerA [] s₁ H := by
    refine ⟨rfl, mod, fun b o e => of_hidT e, Nat.le_of_eq (hidT_size _ _), trivial, ?_, ok, .of_eq nogen⟩
    intro b q
    exact absurd q (List.not_mem_nil (a := b))
  refine codeAny_mono ((each _ inn (spaces names) tb).run callerA [] s₁ H ⟨[.ref a], []⟩ [.ref a] [.ref a] _ _ rfl room e0 (binds s₁ (.ref a)) (.cons rfl .nil) (asked H table seq)) ?_
  rintro (e | out) s' got
  · exact got.elim
  · match out, got with
    | .next, got => exact got.elim
    | .brk, got => exact got.elim
    | .cont, got => exact got.elim
    | .ret u, ⟨v, H', os, bare, un, ok', rel, q⟩ =>
      have q : v = V.bl true := q
      subst q
      have rel : u = Value.bool true := rel
      subst rel
      have kept : ∀ b o, b ≠ Pt → s₁.heap.get? b = some o → s'.heap.get? b = some o := fun b o other e => by
        cases z : H b with
        | none => exact un.keep b o e z (List.not_mem_nil (a := b)) (List.not_mem_nil (a := b))
        | some u =>
          rcases only b u z with ⟨rfl, rfl⟩ | ⟨rfl, rfl⟩
          · have now := (ok' _ _ (un.frzs _ _ _ z)).1
            rw [script] at e
            injection e with e
            rw [← e]
            exact now
          · exact (other rfl).elim
      obtain ⟨more, grown⟩ := un.tbls Pt #[] table
      have grown := ok' Pt _ grown
      refine ⟨rfl, ⟨fun b o e => ?_, fun b o e => ?_⟩, os, bare⟩
      · by_cases eb : b = Pt
        · subst eb
          rw [empty] at e
          injection e with e
          subst e
          exact .inr (.inl ⟨((PySem.W.codeHd_of_K inK head).tab empty).isCodeTable, rfl, #[], _, rfl, by rw [Array.empty_append]; exact grown⟩)
        · exact .inl (kept b o eb e)
      · by_cases eb : b = Pt
        · subst eb
          exact ⟨_, grown⟩
        · exact ⟨o, kept b o eb e⟩
/-- at the end of a law that makes lambdas of its own -/
theorem walk_at_lawT {l : PySem.W.OpenLaw} {k : Nat} {q : Program} {loose : List Str} {XP : (Str → Option Value) → Heap → Prop} {YP : World → Heap → Prop} {d : DefRec} {K : Params → PySem.W.Frag} {sp : PySem.W.Frag → Addr → Sp} {x : Str}
    (hn : l.most = some 63) (hdf : d.params.defaults = []) (listed : ((recsOf q).any fun e => e.name == d.name) = true) (hr : Room k callerA) (hY : ∀ (w : World) (h : Heap), YP w h → (K w.params).In h)
    (F : ∀ (w : World) (mg : Str → Option Value) (fa : Addr) (h : Heap), (K w.params).In h → h.Ns mainGlobals mg → mg d.name = some (.ref fa) → OwnTab (K w.params) fa h →
      ∃ (fd : FuncData) (c Pt : Addr), h.get? Pt = some (PySem.W.tabObj #[]) ∧ (K w.params).lookup Pt = none ∧ PySem.W.codeHdIn (K w.params) c Pt = true ∧ (∀ (s : Shared) (u : Value), BindsTo s fd ⟨[u], []⟩ [(x, u)]) ∧
        ∀ base : Heap, (K w.params).In base → base.Ns mainGlobals mg → TabB base mg c Pt → FnG l.prog w (K w.params) mg base k fa fd [x] (sp (K w.params) Pt))
    (asked : ∀ (K : PySem.W.Frag) (Pt : Addr) (H : Hp) (a : Addr) (ns : List Int), ns.length ≤ 63 → H Pt = some (.tbl #[]) → SqL K H a (ns.map V.int) → sp K Pt [.ref a] H (fun v _ => v = .bl true) E0) :
    PySem.W.WalkO q loose XP YP l.row.toRowW d [] (fun f vs => PySem.call f vs) := by
  refine Att.attach_call hn hdf ?_
  intro w s₀ s₁ mg mb fa o pm cd doc a vs ns G Y ho hd hcd hmg hobj hints hlen hg
  have inn := hY w _ Y
  have mine : OwnTab (K w.params) fa s₁.heap := by
    intro c Pt o1 fd1 e dd vs1 sl z1 z2 z3 z4 z5
    obtain ⟨r, mem, same⟩ := List.any_eq_true.mp listed
    obtain ⟨a2, o2, fd2, c2, P2, y1, y2, y3, y4, _, ⟨oc, vc, x1, _, x3, x4⟩, there⟩ := G.T.tab r mem
    rw [beq_iff_eq.mp same, hmg] at y1
    obtain rfl : fa = a2 := by
      injection y1 with y1
      injection y1
    have f1 := inn _ _ z1
    rw [y2] at f1
    injection f1 with f1
    subst f1
    rw [z2] at y3
    injection y3 with y3
    subst y3
    rw [z3] at y4
    injection y4 with y4
    subst y4
    have f2 := inn _ _ z4
    rw [x1] at f2
    injection f2 with f2
    subst f2
    injection x3 with x3
    subst x3
    rw [z5] at x4
    injection x4 with x4
    injection x4 with x4
    subst x4
    exact there
  obtain ⟨fd, c, Pt, t1, t2, t3, bind, each⟩ := F w mg fa _ inn G.T.g hmg mine
  exact law_atT inn G.T.g G.T.b G.T.builtins G.T.nolimit hg t1 t2 t3 G.T.bmain hobj hints (Nat.le_trans hlen (by decide)) hr each bind fun H tb sq => asked (K w.params) Pt H a ns hlen tb sq
/-- the law's own def, its code object known -/
theorem FnG.bodyC {P : Program} {w : World} {K : PySem.W.Frag} {mg : Str → Option Value} {base : Heap} {k : Nat} {f c : Addr} {fd : FuncData} {ps : List Str} {sp : Sp} {x : Str} {st : Stmt} {N : List Str} (F : Fun K x x st f fd) (code : fd.code = .ref c) (S : FnScope N ps (defScope st)) (len : ∀ vs H Q E, sp vs H Q E → vs.length = ps.length)
    (hb : ∀ (A : Around) (outer : List Env) (s : Shared) (H : Hp) (vs : List V) (Q : VK) (E : XK), A.guards = some [] → Room k (A.deeper (envOfC x (defScope st) s.heap.objs.size f (.ref c))) → sp vs H Q E →
      ∃ t, PSs (cxOf CX0 P w K mg base N x (defScope st) f (.ref c) A outer s H E).nox (defBody st) t ∧ t { nx := fun _ H' => Q .non H', rt := Q } (L2.start N vs) H) : FnG P w K mg base (k + 1) f fd ps sp := by
  obtain ⟨oc, od, kV, doc, pm, an, cdv, ct, osl, efd, look, coded⟩ := F.ex
  subst efd
  have known : cdv = .ref c := code
  subst known
  constructor
  · exact len
  intro A outer s H args us vs Q E guard room e0 bind rel want
  have inn : K.In s.heap := e0.mod.kin.keeps fun b o e => (e0.bs b o e).1
  have nolim : s.heap.NoLimit := e0.mod.nolimit.keeps fun b o e => (e0.bs b o e).1
  refine codeAny_call_function room.depth (inn _ _ look) rfl S.co S.gen rfl (PySem.W.codeRec_of inn coded) (bind _ _ _ _ ?_)
  refine wpAny_newFunctionEnv_cells S.kind ?_ ?_
  · rintro ⟨n, v⟩ there
    have := S.par n (List.of_mem_zip there).1
    cases this with
    | inl q => exact .inl q
    | inr q => exact .inr ⟨q, PySem.W.cellsFrom_some _ _ _ (.inl q)⟩
  · intro env eenv s1 laid
    subst eenv
    refine ⟨nolim.keeps laid.toInCall.keep, codeAny_func ?_⟩
    obtain ⟨t, der, goal⟩ := hb A outer s H vs Q E guard (room.deeper _) want
    have I := inv_start (CX := CX0) (E := E) S room.hd e0 (len _ _ _ _ want) rel laid
    refine wpAny_mono (der.nox.run [] s1 (L2.start N vs) H _ I goal) (fun out s' got => ?_) fun e s' got => got
    match out, got with
    | .ret u, ⟨v, σ', H', J, rv, q⟩ => exact ⟨v, H', J.os, J.bare, J.base, J.hok, rv, q⟩
    | .next, ⟨σ', H', J, q⟩ => exact ⟨V.non, H', J.os, J.bare, J.base, J.hok, rfl, q⟩
    | .brk, ⟨_, _, _, q⟩ => exact q.elim
    | .cont, ⟨_, _, _, q⟩ => exact q.elim
end Sm

set_option Elab.async false
set_option linter.all false
set_option maxRecDepth 100000
set_option maxHeartbeats 4000000
namespace Sm
open PySem PySem.Spec PyProof.Rows L2 LamX
/-! ### the law's own call where the law makes lambdas: its table of code objects is tracked too -/
theorem law_atTs {P : Program} {w : World} {K : PySem.W.Frag} {mg mb : Str → Option Value} {k : Nat} {fa a : Addr} {ct : List (Addr × Addr)} {TT : List (Addr × Str)} {fd : FuncData} {x : Str} {sp : Sp} {s₁ : Shared} {vs : List Value} {ns : List Int}
    (inK : K.In s₁.heap) (names : s₁.heap.Ns mainGlobals mg) (bnames : s₁.heap.Ns builtinsNs mb) (boots : ∀ x : Str, x ≠ "__name__" → mb x = bootBuiltins x) (unlim : s₁.heap.NoLimit) (nogen : s₁.gens = #[])
    (empty : ∀ t ∈ ct, s₁.heap.get? t.2 = some (PySem.W.tabObj #[])) (loose : ∀ t ∈ ct, K.lookup t.2 = none) (head : ∀ t ∈ ct, PySem.W.codeHdIn K t.1 t.2 = true) (names2 : TT.map (·.1) = ct.map (·.2))
    (mods : ∃ (bm : Addr) (ob : Obj), mg "__builtins__" = some (.ref bm) ∧ bm ≠ builtinsNs ∧ s₁.heap.get? bm = some ob ∧ ob.cls = .type "module" ∧ ob.dict = some builtinsNs ∧ ob.data = .plain)
    (script : s₁.heap.get? a = some { cls := .type "list", data := .seq vs.toArray }) (whole : IntsAre vs ns) (few : ns.length ≤ sizeLine) (room : Room k callerA)
    (each : ∀ base : Heap, K.In base → base.Ns mainGlobals mg → (∀ t ∈ ct, TabB base mg t.1 t.2) → FnG P w K mg base k fa fd [x] sp) (binds : ∀ (s : Shared) (u : Value), BindsTo s fd ⟨[u], []⟩ [(x, u)])
    (asked : ∀ H : Hp, Tabs TT H → SqL K H a (ns.map V.int) → sp [.ref a] H (fun v _ => v = .bl true) E0) :
    codeAny (model P w) callerA (.call (.ref fa) ⟨[.ref a], []⟩) (fun r s' => r = .ok (.ret (.bool true)) ∧ OldK s₁.heap s'.heap ∧ s'.os = s₁.os ∧ AllBare s'.gens) s₁ := by
  have ivs := vals_ints whole
  obtain ⟨Ps, hPs⟩ : ∃ Ps, Ps = ct.map (·.2) := ⟨_, rfl⟩
  have emptyP : ∀ b ∈ Ps, s₁.heap.get? b = some (PySem.W.tabObj #[]) := fun b hb => by
    rw [hPs] at hb
    obtain ⟨t, ht, rfl⟩ := List.mem_map.mp hb
    exact empty t ht
  have looseP : ∀ b ∈ Ps, K.lookup b = none := fun b hb => by
    rw [hPs] at hb
    obtain ⟨t, ht, rfl⟩ := List.mem_map.mp hb
    exact loose t ht
  have headP : ∀ b ∈ Ps, ∃ c, PySem.W.codeHdIn K c b = true := fun b hb => by
    rw [hPs] at hb
    obtain ⟨t, ht, rfl⟩ := List.mem_map.mp hb
    exact ⟨t.1, head t ht⟩
  have apart : a ∉ Ps := fun e => by
    rw [emptyP a e] at script
    have z : Data.fields #[] = Data.seq vs.toArray _ := congrArg Obj.data (Option.some.inj script)
    cases z
  -- what is tracked: the table, and the script if the module does not hold it itself
  obtain ⟨H, table, seq, ok, only, free⟩ : ∃ H : Hp, (∀ b ∈ Ps, H b = some (.tbl #[])) ∧ SqL K H a (ns.map V.int) ∧ HOk P w H s₁.heap ∧ (∀ b u, H b = some u → (b = a ∧ u = .frz { cls := .type "list", data := .seq vs.toArray } (.lst (ns.map V.int))) ∨ (b ∈ Ps ∧ u = .tbl #[])) ∧ ∀ b u, H b = some u → K.lookup b = none := by
    cases look : K.lookup a with
    | some o =>
      have same := inK a o look
      rw [script] at same
      injection same with same
      subst same
      have one : ∀ b u, (fun b => if b ∈ Ps then some (HO.tbl #[]) else none : Hp) b = some u → b ∈ Ps ∧ u = .tbl #[] := by
        intro b u z
        by_cases e : b ∈ Ps
        · exact ⟨e, (Option.some.inj ((if_pos e).symm.trans z)).symm⟩
        · exact nomatch (if_neg e).symm.trans z
      refine ⟨fun b => if b ∈ Ps then some (.tbl #[]) else none, fun b hb => if_pos hb, .inr ⟨_, vs.toArray, _, look, rfl, rfl, rfl, ?_, ?_⟩, fun b u z => ?_, fun b u z => .inr (one b u z), fun b u z => ?_⟩
      · rw [List.size_toArray, whole.length]
        exact few
      · simpa using ivs
      · obtain ⟨mem, rfl⟩ := one b u z
        exact emptyP b mem
      · exact looseP b (one b u z).1
    | none =>
      have two : ∀ b u, (fun b => if b = a then some (HO.frz { cls := .type "list", data := .seq vs.toArray } (.lst (ns.map V.int))) else if b ∈ Ps then some (HO.tbl #[]) else none : Hp) b = some u → (b = a ∧ u = .frz { cls := .type "list", data := .seq vs.toArray } (.lst (ns.map V.int))) ∨ (b ∈ Ps ∧ u = .tbl #[]) := by
        intro b u z
        by_cases e : b = a
        · exact .inl ⟨e, (Option.some.inj ((if_pos e).symm.trans z)).symm⟩
        · have z := (if_neg e).symm.trans z
          by_cases e2 : b ∈ Ps
          · exact .inr ⟨e2, (Option.some.inj ((if_pos e2).symm.trans z)).symm⟩
          · exact nomatch (if_neg e2).symm.trans z
      refine ⟨fun b => if b = a then some (HO.frz { cls := .type "list", data := .seq vs.toArray } (.lst (ns.map V.int))) else if b ∈ Ps then some (HO.tbl #[]) else none, fun b hb => (if_neg (show ¬ b = a from fun e => apart (e ▸ hb))).trans (if_pos hb), .inl (.inr ⟨_, if_pos rfl⟩), fun b u z => ?_, two, fun b u z => ?_⟩
      · rcases two b u z with ⟨rfl, rfl⟩ | ⟨mem, rfl⟩
        · exact ⟨script, by rw [List.length_map]; exact few, vs, _, ivs, script⟩
        · exact emptyP b mem
      · rcases two b u z with ⟨rfl, _⟩ | ⟨mem, _⟩
        · exact look
        · exact looseP b mem
  have stays : ∀ {b : Addr} {o : Obj}, s₁.heap.get? b = some o → (∀ u, H b ≠ some u) → (hidT s₁.heap H).get? b = some o := fun {b o} e no => hidT_get e (by
    cases z : H b with
    | none => rfl
    | some u => exact (no u z).elim)
  have plainly : ∀ {b : Addr} {o : Obj}, s₁.heap.get? b = some o → (∀ v n, o.data ≠ .seq v n) → (∀ v, o.data ≠ .fields v) → (hidT s₁.heap H).get? b = some o := fun {b o} e n1 n2 => stays e fun u z => by
    rcases only b u z with ⟨rfl, _⟩ | ⟨mem, _⟩
    · rw [script] at e
      injection e with e
      subst e
      exact n1 _ _ rfl
    · rw [emptyP b mem] at e
      injection e with e
      subst e
      exact n2 _ rfl
  have spaces : ∀ {b : Addr} {m : Str → Option Value}, s₁.heap.Ns b m → (hidT s₁.heap H).Ns b m := by
    rintro b m ⟨o, es, ep, there, data, rest⟩
    refine ⟨o, es, ep, plainly there (fun v n z => ?_) (fun v z => ?_), data, rest⟩
    · rw [data] at z
      exact nomatch z
    · rw [data] at z
      exact nomatch z
  have inn : K.In (hidT s₁.heap H) := fun b o e => stays (inK b o e) fun u z => by
    rw [free b u z] at e
    exact nomatch e
  have mod : Mod K mg (hidT s₁.heap H) := by
    obtain ⟨mc, c1, c2⟩ := unlim
    exact ⟨inn, spaces names, ⟨mb, spaces bnames, boots⟩, mc, spaces c1, c2⟩
  have tb : ∀ t ∈ ct, TabB (hidT s₁.heap H) mg t.1 t.2 := fun t ht => by
    have empty := empty t ht
    refine ⟨PySem.W.codeHd_of_K inn (head t ht), ?_, fun z => ?_⟩
    · obtain ⟨bm, ob, m1, m2, m3, m4, m5, m6⟩ := mods
      refine ⟨bm, ob, m1, m2, fun z => ?_, fun z => ?_, plainly m3 (fun v n z => ?_) (fun v z => ?_), m4, m5, m6⟩
      · obtain ⟨o, es, ep, there, data, _⟩ := names
        rw [z, there] at m3
        injection m3 with m3
        subst m3
        rw [data] at m6
        exact nomatch m6
      · rw [z, empty] at m3
        injection m3 with m3
        subst m3
        exact nomatch m6
      · rw [m6] at z
        exact nomatch z
      · rw [m6] at z
        exact nomatch z
    · obtain ⟨o, es, ep, there, data, _⟩ := names
      rw [z, empty] at there
      injection there with there
      subst there
      exact nomatch data
  have e0 : Env0 P w K mg (hidT s₁.heap H) callerA [] s₁ H := by
    refine ⟨rfl, mod, fun b o e => of_hidT e, Nat.le_of_eq (hidT_size _ _), trivial, ?_, ok, .of_eq nogen⟩
    intro b q
    exact absurd q (List.not_mem_nil (a := b))
  refine codeAny_mono ((each _ inn (spaces names) tb).run callerA [] s₁ H ⟨[.ref a], []⟩ [.ref a] [.ref a] _ _ rfl room e0 (binds s₁ (.ref a)) (.cons rfl .nil) (asked H (fun y hy => by
    have m : y.1 ∈ Ps := by
      rw [hPs, ← names2]
      exact List.mem_map.mpr ⟨y, hy, rfl⟩
    exact TabS.nil (table _ m)) seq)) ?_
  rintro (e | out) s' got
  · exact got.elim
  · match out, got with
    | .next, got => exact got.elim
    | .brk, got => exact got.elim
    | .cont, got => exact got.elim
    | .ret u, ⟨v, H', os, bare, un, ok', rel, q⟩ =>
      have q : v = V.bl true := q
      subst q
      have rel : u = Value.bool true := rel
      subst rel
      have kept : ∀ b o, b ∉ Ps → s₁.heap.get? b = some o → s'.heap.get? b = some o := fun b o other e => by
        cases z : H b with
        | none => exact un.keep b o e z (List.not_mem_nil (a := b)) (List.not_mem_nil (a := b))
        | some u =>
          rcases only b u z with ⟨rfl, rfl⟩ | ⟨mem, rfl⟩
          · have now := (ok' _ _ (un.frzs _ _ _ z)).1
            rw [script] at e
            injection e with e
            rw [← e]
            exact now
          · exact (other mem).elim
      have grow : ∀ b ∈ Ps, ∃ more : Array Value, s'.heap.get? b = some (PySem.W.tabObj (#[] ++ more)) := fun b hb => by
        obtain ⟨more, grown⟩ := un.tbls b #[] (table b hb)
        exact ⟨more, ok' b _ grown⟩
      refine ⟨rfl, ⟨fun b o e => ?_, fun b o e => ?_⟩, os, bare⟩
      · by_cases eb : b ∈ Ps
        · obtain ⟨more, grown⟩ := grow b eb
          obtain ⟨c, hc⟩ := headP b eb
          have e0 := emptyP b eb
          rw [e0] at e
          injection e with e
          subst e
          exact .inr (.inl ⟨((PySem.W.codeHd_of_K inK hc).tab e0).isCodeTable, rfl, #[], _, rfl, by rw [Array.empty_append]; rw [Array.empty_append] at grown; exact grown⟩)
        · exact .inl (kept b o eb e)
      · by_cases eb : b ∈ Ps
        · obtain ⟨more, grown⟩ := grow b eb
          exact ⟨_, grown⟩
        · exact ⟨o, kept b o eb e⟩
/-- at the end of a law that makes lambdas of its own -/
theorem walk_at_lawTs {l : PySem.W.OpenLaw} {k : Nat} {q : Program} {loose : List Str} {XP : (Str → Option Value) → Heap → Prop} {YP : World → Heap → Prop} {d : DefRec} {K : Params → PySem.W.Frag} {sp : PySem.W.Frag → List (Addr × Str) → Sp} {x : Str}
    (hn : l.most = some 63) (hdf : d.params.defaults = []) (hr : Room k callerA) (hY : ∀ (w : World) (h : Heap), YP w h → (K w.params).In h)
    (F : ∀ (w : World) (mg : Str → Option Value) (fa : Addr) (h : Heap), (K w.params).In h → h.Ns mainGlobals mg → mg d.name = some (.ref fa) → (∀ (nm : Str) (f : Addr), ((recsOf q).any fun e => e.name == nm) = true → mg nm = some (.ref f) → OwnTab (K w.params) f h) →
      ∃ (fd : FuncData) (ct : List (Addr × Addr)) (TT : List (Addr × Str)), (∀ t ∈ ct, h.get? t.2 = some (PySem.W.tabObj #[])) ∧ (∀ t ∈ ct, (K w.params).lookup t.2 = none) ∧ (∀ t ∈ ct, PySem.W.codeHdIn (K w.params) t.1 t.2 = true) ∧ TT.map (·.1) = ct.map (·.2) ∧ (∀ (s : Shared) (u : Value), BindsTo s fd ⟨[u], []⟩ [(x, u)]) ∧
        ∀ base : Heap, (K w.params).In base → base.Ns mainGlobals mg → (∀ t ∈ ct, TabB base mg t.1 t.2) → FnG l.prog w (K w.params) mg base k fa fd [x] (sp (K w.params) TT))
    (asked : ∀ (K : PySem.W.Frag) (TT : List (Addr × Str)) (H : Hp) (a : Addr) (ns : List Int), ns.length ≤ 63 → Tabs TT H → SqL K H a (ns.map V.int) → sp K TT [.ref a] H (fun v _ => v = .bl true) E0) :
    PySem.W.WalkO q loose XP YP l.row.toRowW d [] (fun f vs => PySem.call f vs) := by
  refine Att.attach_call hn hdf ?_
  intro w s₀ s₁ mg mb fa o pm cd doc a vs ns G Y ho hd hcd hmg hobj hints hlen hg
  have inn := hY w _ Y
  have mine : ∀ (nm : Str) (f : Addr), ((recsOf q).any fun e => e.name == nm) = true → mg nm = some (.ref f) → OwnTab (K w.params) f s₁.heap := by
    intro nm fa listed hmg c Pt o1 fd1 e dd vs1 sl z1 z2 z3 z4 z5
    obtain ⟨r, mem, same⟩ := List.any_eq_true.mp listed
    obtain ⟨a2, o2, fd2, c2, P2, y1, y2, y3, y4, _, ⟨oc, vc, x1, _, x3, x4⟩, there⟩ := G.T.tab r mem
    rw [beq_iff_eq.mp same, hmg] at y1
    obtain rfl : fa = a2 := by
      injection y1 with y1
      injection y1
    have f1 := inn _ _ z1
    rw [y2] at f1
    injection f1 with f1
    subst f1
    rw [z2] at y3
    injection y3 with y3
    subst y3
    rw [z3] at y4
    injection y4 with y4
    subst y4
    have f2 := inn _ _ z4
    rw [x1] at f2
    injection f2 with f2
    subst f2
    injection x3 with x3
    subst x3
    rw [z5] at x4
    injection x4 with x4
    injection x4 with x4
    subst x4
    exact there
  obtain ⟨fd, ct, TT, t1, t2, t3, t4, bind, each⟩ := F w mg fa _ inn G.T.g hmg mine
  exact law_atTs inn G.T.g G.T.b G.T.builtins G.T.nolimit hg t1 t2 t3 t4 G.T.bmain hobj hints (Nat.le_trans hlen (by decide)) hr each bind fun H tb sq => asked (K w.params) TT H a ns hlen tb sq
end Sm

set_option maxHeartbeats 4000000
namespace Sm
/-! rules: a table that repeats -/
def vl (T : List Int) (p : Nat) (r : Int) (x : Nat) : Int :=
  if x < T.length then T.getD x 0 else T.getD (x - ((x - T.length) / p + 1) * p) 0 + (((x - T.length) / p + 1 : Nat) : Int) * r
structure RuleOk (T : List Int) (p : Nat) (r : Int) : Prop where
  p0 : 0 < p
  p1 : p ≤ T.length
  r0 : 0 ≤ r
  nn : ∀ i, i < T.length → 0 ≤ T.getD i 0
  mono : ∀ i, i + 1 < T.length → T.getD i 0 ≤ T.getD (i + 1) 0
  wrap : T.getD (T.length - 1) 0 ≤ T.getD (T.length - p) 0 + r
theorem place {n p x : Nat} (hp : 0 < p) (hpn : p ≤ n) (h : n ≤ x) : ((x - n) / p + 1) * p ≤ x ∧ n - p ≤ x - ((x - n) / p + 1) * p ∧ x - ((x - n) / p + 1) * p < n := by
  have a := Nat.div_add_mod (x - n) p
  have b := Nat.mod_lt (x - n) hp
  have c : ((x - n) / p + 1) * p = p * ((x - n) / p) + p := by rw [Nat.add_mul, Nat.one_mul, Nat.mul_comm]
  omega
theorem vl_lt {T : List Int} {p : Nat} {r : Int} {x : Nat} (h : x < T.length) : vl T p r x = T.getD x 0 := if_pos h
theorem vl_step {T : List Int} {p : Nat} {r : Int} {x : Nat} (hp : 0 < p) (hpn : p ≤ T.length) (h : T.length ≤ x) : vl T p r x = vl T p r (x - p) + r := by
  by_cases q : x - p < T.length
  · have e : (x - T.length) / p = 0 := Nat.div_eq_of_lt (by omega)
    rw [vl_lt q]
    unfold vl
    rw [if_neg (by omega), e]
    simp
  · have e : (x - T.length) / p = (x - p - T.length) / p + 1 := by
      rw [Nat.div_eq_sub_div hp (by omega), show x - T.length - p = x - p - T.length by omega]
    unfold vl
    rw [if_neg (by omega), if_neg q, e]
    have i : x - ((x - p - T.length) / p + 1 + 1) * p = x - p - ((x - p - T.length) / p + 1) * p := by
      rw [Nat.add_mul ((x - p - T.length) / p + 1) 1 p, Nat.one_mul]
      omega
    rw [i]
    have k : (((x - p - T.length) / p + 1 + 1 : Nat) : Int) * r = (((x - p - T.length) / p + 1 : Nat) : Int) * r + r := by
      rw [Int.natCast_add ((x - p - T.length) / p + 1) 1, Int.add_mul]
      simp
    rw [k, Int.add_assoc]
theorem vl_add {T : List Int} {p : Nat} {r : Int} {x : Nat} (hp : 0 < p) (hpn : p ≤ T.length) (h : T.length - p ≤ x) : vl T p r (x + p) = vl T p r x + r := by
  rw [vl_step hp hpn (by omega), Nat.add_sub_cancel]
theorem vl_addk {T : List Int} {p : Nat} {r : Int} {x : Nat} (hp : 0 < p) (hpn : p ≤ T.length) (h : T.length - p ≤ x) : ∀ k : Nat, vl T p r (x + k * p) = vl T p r x + (k : Int) * r
  | 0 => by simp
  | k + 1 => by
    have ih := vl_addk (r := r) hp hpn h k
    rw [show x + (k + 1) * p = x + k * p + p by rw [Nat.add_mul, Nat.one_mul, Nat.add_assoc], vl_add hp hpn (by omega), ih]
    rw [Int.natCast_add, Int.add_mul]
    simp
    omega
section
variable {T : List Int} {p : Nat} {r : Int}
theorem RuleOk.up (o : RuleOk T p r) : ∀ x, vl T p r x ≤ vl T p r (x + 1) := by
  intro x
  induction x using Nat.strongRecOn with
  | _ x ih =>
    have p0 := o.p0
    have p1 := o.p1
    by_cases a : x + 1 < T.length
    · rw [vl_lt a, vl_lt (by omega)]
      exact o.mono x a
    · by_cases b : x < T.length
      · rw [vl_lt b, vl_step p0 p1 (by omega), vl_lt (by omega)]
        have w := o.wrap
        rw [show x = T.length - 1 by omega]
        rw [show T.length - 1 + 1 - p = T.length - p by omega]
        exact w
      · rw [vl_step p0 p1 (by omega), vl_step (x := x + 1) p0 p1 (by omega)]
        have := ih (x - p) (by omega)
        rw [show x - p + 1 = x + 1 - p by omega] at this
        omega
theorem RuleOk.le (o : RuleOk T p r) {x y : Nat} (h : x ≤ y) : vl T p r x ≤ vl T p r y := by
  obtain ⟨k, rfl⟩ := Nat.le.dest h
  induction k with
  | zero => exact Int.le_refl _
  | succ k ih => exact Int.le_trans (ih (by omega)) (o.up _)
theorem RuleOk.pos (o : RuleOk T p r) (x : Nat) : 0 ≤ vl T p r x := by
  have a := o.le (Nat.zero_le x)
  have p0 := o.p0
  have p1 := o.p1
  rw [vl_lt (x := 0) (by omega)] at a
  have := o.nn 0 (by omega)
  omega
theorem RuleOk.row (o : RuleOk T p r) {i j : Nat} (h : i ≤ j) (hj : j < T.length) : T.getD i 0 ≤ T.getD j 0 := by
  have a := o.le h
  rw [vl_lt hj, vl_lt (by omega)] at a
  exact a
/-- the values of the last period repeat by s, increased by c -/
def Rep (T : List Int) (p : Nat) (r : Int) (s : Nat) (c : Int) : Prop := ∀ i, T.length - p ≤ i → i < T.length → vl T p r (i + s) = T.getD i 0 + c
theorem rep_all {s : Nat} {c : Int} (o : RuleOk T p r) (h : Rep T p r s c) : ∀ y, T.length - p ≤ y → vl T p r (y + s) = vl T p r y + c := by
  intro y
  induction y using Nat.strongRecOn with
  | _ y ih =>
    intro hy
    have p0 := o.p0
    have p1 := o.p1
    by_cases a : y < T.length
    · rw [vl_lt a]
      exact h y hy a
    · have e := ih (y - p) (by omega) (by omega)
      rw [vl_step (x := y) p0 p1 (by omega), vl_step (x := y + s) p0 p1 (by omega), show y + s - p = y - p + s by omega, e]
      omega
theorem rep_self (o : RuleOk T p r) : Rep T p r p r := fun i h1 h2 => by
  rw [vl_add o.p0 o.p1 h1, vl_lt h2]
theorem getD_take {n i : Nat} (h : i < n) : (T.take n).getD i 0 = T.getD i 0 := by
  rw [List.getD_eq_getElem?_getD, List.getD_eq_getElem?_getD, List.getElem?_take_of_lt h]
/-- the table cut: still a rule, with the same values -/
theorem cut_ok {a s : Nat} {c : Int} (o : RuleOk T p r) (hs : 0 < s) (ha : a + s ≤ T.length) (c0 : 0 ≤ c) (h : ∀ y, a ≤ y → vl T p r (y + s) = vl T p r y + c) : RuleOk (T.take (a + s)) s c := by
  have len : (T.take (a + s)).length = a + s := by rw [List.length_take]; omega
  refine ⟨hs, by omega, c0, fun i hi => ?_, fun i hi => ?_, ?_⟩
  · rw [getD_take (by omega)]
    exact o.nn i (by omega)
  · rw [getD_take (by omega), getD_take (by omega)]
    exact o.mono i (by omega)
  · rw [len, getD_take (by omega), getD_take (by omega), show a + s - s = a by omega]
    have e := h a (Nat.le_refl _)
    have u := o.up (a + s - 1)
    rw [show a + s - 1 + 1 = a + s by omega, e, vl_lt (by omega), vl_lt (by omega)] at u
    exact u
theorem cut_vl {a s : Nat} {c : Int} (hs : 0 < s) (ha : a + s ≤ T.length) (h : ∀ y, a ≤ y → vl T p r (y + s) = vl T p r y + c) : ∀ x, vl (T.take (a + s)) s c x = vl T p r x := by
  have len : (T.take (a + s)).length = a + s := by rw [List.length_take]; omega
  intro x
  induction x using Nat.strongRecOn with
  | _ x ih =>
    by_cases q : x < a + s
    · rw [vl_lt (by omega), vl_lt (by omega), getD_take q]
    · rw [vl_step hs (by omega) (by omega), ih (x - s) (by omega), ← h (x - s) (by omega), show x - s + s = x by omega]
/-- the least amount, or none -/
def IsLf (T : List Int) (p : Nat) (r : Int) (y : Int) : Option Nat → Prop
  | none => r = 0 ∧ T.getD (T.length - 1) 0 < y
  | some x => y ≤ vl T p r x ∧ ∀ z, z < x → vl T p r z < y
theorem lf_near {y : Int} {i : Nat} (hi : i < T.length) (h1 : y ≤ T.getD i 0) (h2 : ∀ j, j < i → T.getD j 0 < y) : IsLf T p r y (some i) :=
  ⟨by rw [vl_lt hi]; exact h1, fun z hz => by rw [vl_lt (by omega)]; exact h2 z hz⟩
theorem lf_far {y : Int} {i k : Nat} (o : RuleOk T p r) (k0 : 0 < k) (hk : T.getD (T.length - 1) 0 + ((k : Int) - 1) * r < y) (h0 : T.length - p ≤ i) (hi : i < T.length) (h1 : y - (k : Int) * r ≤ T.getD i 0)
    (h2 : ∀ j, T.length - p ≤ j → j < i → T.getD j 0 < y - (k : Int) * r) : IsLf T p r y (some (i + k * p)) := by
  have p0 := o.p0
  have p1 := o.p1
  refine ⟨?_, fun z hz => ?_⟩
  · rw [vl_addk p0 p1 h0, vl_lt hi]
    omega
  · have kp : p ≤ k * p := Nat.le_mul_of_pos_left p k0
    refine Int.lt_of_le_of_lt (o.le (show z ≤ i + k * p - 1 by omega)) ?_
    by_cases q : i = T.length - p
    · obtain ⟨k, rfl⟩ : ∃ j, k = j + 1 := ⟨k - 1, by omega⟩
      have e : i + (k + 1) * p - 1 = T.length - 1 + k * p := by
        rw [Nat.add_mul, Nat.one_mul] at kp ⊢
        omega
      rw [e, vl_addk p0 p1 (by omega), vl_lt (by omega)]
      have c : ((k + 1 : Nat) : Int) - 1 = (k : Int) := by omega
      rw [c] at hk
      exact hk
    · rw [show i + k * p - 1 = i - 1 + k * p by omega, vl_addk p0 p1 (by omega), vl_lt (by omega)]
      have := h2 (i - 1) (by omega) (by omega)
      omega
theorem lf_one {y : Int} {a b : Option Nat} (o : RuleOk T p r) (ha : IsLf T p r y a) (hb : IsLf T p r y b) : a = b := by
  have no : ∀ {x : Nat}, IsLf T p r y none → IsLf T p r y (some x) → False := by
    rintro x ⟨h1, h2⟩ ⟨h3, _⟩
    have p0 := o.p0
    have p1 := o.p1
    have all : ∀ x, vl T p r x ≤ T.getD (T.length - 1) 0 := by
      intro x
      induction x using Nat.strongRecOn with
      | _ x ih =>
        by_cases q : x < T.length
        · rw [vl_lt q]
          exact o.row (by omega) (by omega)
        · rw [vl_step p0 p1 (by omega)]
          have := ih (x - p) (by omega)
          omega
    have := all x
    omega
  match a, b, ha, hb with
  | none, none, _, _ => rfl
  | none, some x, ha, hb => exact (no ha hb).elim
  | some x, none, ha, hb => exact (no hb ha).elim
  | some x, some z, ⟨h1, h2⟩, ⟨h3, h4⟩ =>
    rcases Nat.lt_trichotomy x z with q | q | q
    · have := h4 x q
      omega
    · rw [q]
    · have := h2 z q
      omega
end
theorem div_cast {x n p : Nat} (h : n ≤ x) : ((x : Int) - (n : Int)) / (p : Int) + 1 = (((x - n) / p + 1 : Nat) : Int) := by
  rw [← Int.natCast_sub h]
  rfl
theorem ceil_lo {a r : Int} (hr : 0 < r) : a ≤ (a + r - 1) / r * r ∧ ((a + r - 1) / r - 1) * r < a := by
  have h1 := Int.mul_ediv_add_emod (a + r - 1) r
  have h2 := Int.emod_nonneg (a + r - 1) (show r ≠ 0 by omega)
  have h3 := Int.emod_lt_of_pos (a + r - 1) hr
  have e : (a + r - 1) / r * r = r * ((a + r - 1) / r) := Int.mul_comm _ _
  have e2 : ((a + r - 1) / r - 1) * r = r * ((a + r - 1) / r) - r := by rw [Int.sub_mul, Int.mul_comm]; omega
  omega
end Sm

set_option maxHeartbeats 4000000
namespace Sm
structure RuleW (T : List Int) (p : Nat) (r : Int) : Prop where
  p0 : 0 < p
  p1 : p ≤ T.length
  r0 : 0 ≤ r
theorem RuleOk.w {T : List Int} {p : Nat} {r : Int} (o : RuleOk T p r) : RuleW T p r := ⟨o.p0, o.p1, o.r0⟩
section
variable {T : List Int} {p : Nat} {r : Int}
theorem rep_allW {s : Nat} {c : Int} (o : RuleW T p r) (h : Rep T p r s c) : ∀ y, T.length - p ≤ y → vl T p r (y + s) = vl T p r y + c := by
  intro y
  induction y using Nat.strongRecOn with
  | _ y ih =>
    intro hy
    have p0 := o.p0
    have p1 := o.p1
    by_cases a : y < T.length
    · rw [vl_lt a]
      exact h y hy a
    · have e := ih (y - p) (by omega) (by omega)
      rw [vl_step (x := y) p0 p1 (by omega), vl_step (x := y + s) p0 p1 (by omega), show y + s - p = y - p + s by omega, e]
      omega
theorem rep_selfW (o : RuleW T p r) : Rep T p r p r := fun i h1 h2 => by
  rw [vl_add o.p0 o.p1 h1, vl_lt h2]
/-- a weak rule that does not fall within its table and behind it is a rule -/
theorem W_ok (o : RuleW T p r) (nn : ∀ i, i < T.length → 0 ≤ T.getD i 0) (h : ∀ x, x < T.length → T.getD x 0 ≤ vl T p r (x + 1)) : RuleOk T p r := by
  have p0 := o.p0
  have p1 := o.p1
  refine ⟨p0, p1, o.r0, nn, fun i hi => ?_, ?_⟩
  · have := h i (by omega)
    rw [vl_lt hi] at this
    exact this
  · have := h (T.length - 1) (by omega)
    rw [vl_step p0 p1 (by omega), show T.length - 1 + 1 - p = T.length - p by omega, vl_lt (by omega)] at this
    exact this
end
section
variable {T1 T2 : List Int} {p1 p2 : Nat} {r1 r2 : Int}
def gp (T1 : List Int) (p1 : Nat) (r1 : Int) (T2 : List Int) (p2 : Nat) (r2 : Int) (x : Nat) : Int := vl T1 p1 r1 x - vl T2 p2 r2 x
/-- the first amount at which the one is above, or none -/
def IsFst (T1 : List Int) (p1 : Nat) (r1 : Int) (T2 : List Int) (p2 : Nat) (r2 : Int) : Option Nat → Prop
  | none => ∀ x, gp T1 p1 r1 T2 p2 r2 x ≤ 0
  | some x => 0 < gp T1 p1 r1 T2 p2 r2 x ∧ ∀ z, z < x → gp T1 p1 r1 T2 p2 r2 z ≤ 0
theorem fst_one {a b : Option Nat} (ha : IsFst T1 p1 r1 T2 p2 r2 a) (hb : IsFst T1 p1 r1 T2 p2 r2 b) : a = b := by
  match a, b, ha, hb with
  | none, none, _, _ => rfl
  | none, some x, ha, hb =>
    have := ha x
    have := hb.1
    omega
  | some x, none, ha, hb =>
    have := hb x
    have := ha.1
    omega
  | some x, some z, ⟨h1, h2⟩, ⟨h3, h4⟩ =>
    rcases Nat.lt_trichotomy x z with q | q | q
    · have := h4 x q
      omega
    · rw [q]
    · have := h2 z q
      omega
/-- by a common turn t = a p1 = b p2 the gap grows by g, from a start of both on -/
theorem gp_turn {B a b : Nat} (w1 : RuleW T1 p1 r1) (w2 : RuleW T2 p2 r2) (hB1 : T1.length - p1 ≤ B) (hB2 : T2.length - p2 ≤ B) (e : a * p1 = b * p2) {x : Nat} (hx : B ≤ x) :
    gp T1 p1 r1 T2 p2 r2 (x + a * p1) = gp T1 p1 r1 T2 p2 r2 x + ((a : Int) * r1 - (b : Int) * r2) := by
  unfold gp
  rw [vl_addk w1.p0 w1.p1 (by omega) a, e, vl_addk w2.p0 w2.p1 (by omega) b]
  omega
theorem gp_turns {B t : Nat} {g : Int} (h : ∀ x, B ≤ x → gp T1 p1 r1 T2 p2 r2 (x + t) = gp T1 p1 r1 T2 p2 r2 x + g) {x : Nat} (hx : B ≤ x) : ∀ k : Nat, gp T1 p1 r1 T2 p2 r2 (x + k * t) = gp T1 p1 r1 T2 p2 r2 x + (k : Int) * g
  | 0 => by simp
  | k + 1 => by
    have ih := gp_turns h hx k
    rw [show x + (k + 1) * t = x + k * t + t by rw [Nat.add_mul, Nat.one_mul, Nat.add_assoc], h _ (by omega), ih, Int.natCast_add, Int.add_mul]
    simp
    omega
theorem split_turn {B t z : Nat} (t0 : 0 < t) (hz : B ≤ z) : ∃ x k, B ≤ x ∧ x < B + t ∧ z = x + k * t := by
  have a := Nat.div_add_mod (z - B) t
  have b := Nat.mod_lt (z - B) t0
  refine ⟨B + (z - B) % t, (z - B) / t, by omega, by omega, ?_⟩
  rw [Nat.mul_comm]
  omega
theorem none_of {B t : Nat} {g : Int} (t0 : 0 < t) (h : ∀ x, B ≤ x → gp T1 p1 r1 T2 p2 r2 (x + t) = gp T1 p1 r1 T2 p2 r2 x + g) (hg : g ≤ 0) (early : ∀ x, x < B + t → gp T1 p1 r1 T2 p2 r2 x ≤ 0) : IsFst T1 p1 r1 T2 p2 r2 none := by
  intro z
  by_cases q : z < B
  · exact early z (by omega)
  · obtain ⟨x, k, h1, h2, rfl⟩ := split_turn t0 (show B ≤ z by omega)
    rw [gp_turns h h1 k]
    have := early x h2
    have : (k : Int) * g ≤ 0 := Int.mul_nonpos_of_nonneg_of_nonpos (by omega) hg
    omega
/-- the least of the first amounts of all rests -/
theorem some_of {B t m : Nat} {g : Int} (t0 : 0 < t) (h : ∀ x, B ≤ x → gp T1 p1 r1 T2 p2 r2 (x + t) = gp T1 p1 r1 T2 p2 r2 x + g) (hg : 0 < g) (early : ∀ x, x < B + t → gp T1 p1 r1 T2 p2 r2 x ≤ 0)
    (hm : ∃ x, B ≤ x ∧ x < B + t ∧ (m : Int) = (x : Int) + (t : Int) * ((-gp T1 p1 r1 T2 p2 r2 x) / g + 1)) (least : ∀ x, B ≤ x → x < B + t → (m : Int) ≤ (x : Int) + (t : Int) * ((-gp T1 p1 r1 T2 p2 r2 x) / g + 1)) : IsFst T1 p1 r1 T2 p2 r2 (some m) := by
  constructor
  · obtain ⟨x, h1, h2, e⟩ := hm
    have ex := early x h2
    have q0 : 0 ≤ (-gp T1 p1 r1 T2 p2 r2 x) / g := Int.ediv_nonneg (by omega) (by omega)
    obtain ⟨k, hk⟩ : ∃ k : Nat, (-gp T1 p1 r1 T2 p2 r2 x) / g = (k : Int) := ⟨_, (Int.toNat_of_nonneg q0).symm⟩
    have e2 : m = x + (k + 1) * t := by
      rw [hk] at e
      have : ((x + (k + 1) * t : Nat) : Int) = (x : Int) + (t : Int) * ((k : Int) + 1) := by
        rw [Int.natCast_add, Int.natCast_mul, Int.mul_comm]
        rfl
      omega
    rw [e2, gp_turns h h1]
    have d1 := Int.mul_ediv_add_emod (-gp T1 p1 r1 T2 p2 r2 x) g
    have d2 := Int.emod_lt_of_pos (-gp T1 p1 r1 T2 p2 r2 x) hg
    rw [hk] at d1
    have e3 : ((k + 1 : Nat) : Int) * g = g * (k : Int) + g := by rw [Int.natCast_add, Int.add_mul, Int.mul_comm]; simp
    omega
  · intro z hz
    by_cases q : z < B
    · exact early z (by omega)
    · obtain ⟨x, k, h1, h2, rfl⟩ := split_turn t0 (show B ≤ z by omega)
      rcases Int.lt_or_le 0 (gp T1 p1 r1 T2 p2 r2 (x + k * t)) with w | w
      · exfalso
        have l := least x h1 h2
        rw [gp_turns h h1 k] at w
        have d1 := Int.mul_ediv_add_emod (-gp T1 p1 r1 T2 p2 r2 x) g
        have d2 := Int.emod_nonneg (-gp T1 p1 r1 T2 p2 r2 x) (show g ≠ 0 by omega)
        have lt : (-gp T1 p1 r1 T2 p2 r2 x) / g < (k : Int) := by
          rcases Int.lt_or_le ((-gp T1 p1 r1 T2 p2 r2 x) / g) (k : Int) with c | c
          · exact c
          · have := Int.mul_le_mul_of_nonneg_left c (show 0 ≤ g by omega)
            rw [Int.mul_comm g (k : Int)] at this
            omega
        have le := Int.mul_le_mul_of_nonneg_left (show (-gp T1 p1 r1 T2 p2 r2 x) / g + 1 ≤ (k : Int) by omega) (show 0 ≤ (t : Int) by omega)
        have c1 : ((k * t : Nat) : Int) = (t : Int) * (k : Int) := by rw [Int.natCast_mul, Int.mul_comm]
        omega
      · exact w
end
end Sm

set_option maxHeartbeats 4000000
namespace Sm
/-! just one shortest tuple has given values -/
structure Short (T : List Int) (p : Nat) (r : Int) : Prop where
  ok : RuleOk T p r
  turn : ∀ s c, 0 < s → s < p → s ∣ p → ¬ Rep T p r s c
  start : p = T.length ∨ vl T p r (T.length - 1) ≠ T.getD (T.length - p - 1) 0 + r
theorem vl_ge_turn {T : List Int} {p : Nat} {r : Int} (o : RuleOk T p r) {x : Nat} (h : T.length - p ≤ x) (k : Nat) : vl T p r (x + k * p) = vl T p r x + (k : Int) * r := vl_addk o.p0 o.p1 h k
/-- what holds far off holds from the start of the turns on -/
theorem rep_down {T : List Int} {p s A : Nat} {r c : Int} (o : RuleOk T p r) (h : ∀ x, A ≤ x → vl T p r (x + s) = vl T p r x + c) {x : Nat} (hx : T.length - p ≤ x) : vl T p r (x + s) = vl T p r x + c := by
  have p0 := o.p0
  have e1 := vl_ge_turn o (x := x) hx A
  have e2 := vl_ge_turn o (x := x + s) (by omega) A
  have far : A ≤ x + A * p := by
    have : A * 1 ≤ A * p := Nat.mul_le_mul_left A p0
    omega
  have e3 := h _ far
  rw [show x + A * p + s = x + s + A * p by omega] at e3
  omega
/-- two turns have a turn as long as their greatest common divisor -/
theorem gcd_turn {f : Nat → Int} {A : Nat} : ∀ (n p q : Nat), p + q ≤ n → 0 < p → 0 < q → (∃ r, ∀ x, A ≤ x → f (x + p) = f x + r) → (∃ t, ∀ x, A ≤ x → f (x + q) = f x + t) → ∃ c, ∀ x, A ≤ x → f (x + Nat.gcd p q) = f x + c
  | 0, p, q, h, p0, q0, _, _ => by omega
  | n + 1, p, q, h, p0, q0, ⟨r, hr⟩, ⟨t, ht⟩ => by
    rcases Nat.lt_trichotomy p q with l | l | l
    · have g : Nat.gcd p (q - p) = Nat.gcd p q := Nat.gcd_sub_self_right (Nat.le_of_lt l)
      rw [← g]
      refine gcd_turn n p (q - p) (by omega) p0 (by omega) ⟨r, hr⟩ ⟨t - r, fun x hx => ?_⟩
      have e1 := ht x hx
      have e2 := hr (x + (q - p)) (by omega)
      rw [show x + (q - p) + p = x + q by omega] at e2
      omega
    · subst l
      rw [Nat.gcd_self]
      exact ⟨r, hr⟩
    · have g : Nat.gcd (p - q) q = Nat.gcd p q := Nat.gcd_sub_self_left (Nat.le_of_lt l)
      rw [← g]
      refine gcd_turn n (p - q) q (by omega) (by omega) q0 ⟨r - t, fun x hx => ?_⟩ ⟨t, ht⟩
      have e1 := hr x hx
      have e2 := ht (x + (p - q)) (by omega)
      rw [show x + (p - q) + q = x + p by omega] at e2
      omega
theorem short_le {T1 T2 : List Int} {p1 p2 : Nat} {r1 r2 : Int} (s1 : Short T1 p1 r1) (o2 : RuleOk T2 p2 r2) (h : ∀ x, vl T1 p1 r1 x = vl T2 p2 r2 x) : Nat.gcd p1 p2 = p1 := by
  have o1 := s1.ok
  obtain ⟨c, hc⟩ := gcd_turn (f := vl T1 p1 r1) (A := max (T1.length - p1) (T2.length - p2)) _ p1 p2 (Nat.le_refl _) o1.p0 o2.p0 ⟨r1, fun x hx => vl_add o1.p0 o1.p1 (by omega)⟩ ⟨r2, fun x hx => by rw [h, h]; exact vl_add o2.p0 o2.p1 (by omega)⟩
  have g0 : 0 < Nat.gcd p1 p2 := Nat.gcd_pos_of_pos_left _ o1.p0
  have gl : Nat.gcd p1 p2 ≤ p1 := Nat.le_of_dvd o1.p0 (Nat.gcd_dvd_left ..)
  by_cases q : Nat.gcd p1 p2 = p1
  · exact q
  · exact absurd (fun i h1 h2 => by rw [← vl_lt (p := p1) (r := r1) h2]; exact rep_down o1 hc h1) (s1.turn _ c g0 (by omega) (Nat.gcd_dvd_left ..))
theorem short_start {T1 T2 : List Int} {p : Nat} {r : Int} (s1 : Short T1 p r) (s2 : Short T2 p r) (h : ∀ x, vl T1 p r x = vl T2 p r x) : T2.length ≤ T1.length := by
  have o1 := s1.ok
  have o2 := s2.ok
  have p0 := o1.p0
  have l1 := o1.p1
  have l2 := o2.p1
  rcases Nat.lt_or_ge T1.length T2.length with q | q
  · exfalso
    rcases s2.start with e | e
    · omega
    · apply e
      have := vl_add (T := T1) (p := p) (r := r) p0 l1 (x := T2.length - p - 1) (by omega)
      rw [show T2.length - p - 1 + p = T2.length - 1 by omega, h, h, vl_lt (T := T2) (x := T2.length - p - 1) (by omega)] at this
      exact this
  · exact q
/-- just one shortest tuple has given values -/
theorem short_one {T1 T2 : List Int} {p1 p2 : Nat} {r1 r2 : Int} (s1 : Short T1 p1 r1) (s2 : Short T2 p2 r2) (h : ∀ x, vl T1 p1 r1 x = vl T2 p2 r2 x) : T1 = T2 ∧ p1 = p2 ∧ r1 = r2 := by
  have a := short_le s1 s2.ok h
  have b := short_le s2 s1.ok fun x => (h x).symm
  rw [Nat.gcd_comm] at b
  obtain rfl : p1 = p2 := a.symm.trans b
  have o1 := s1.ok
  have o2 := s2.ok
  have e1 := vl_add o1.p0 o1.p1 (r := r1) (x := max (T1.length - p1) (T2.length - p1)) (by omega)
  have e2 := vl_add o2.p0 o2.p1 (r := r2) (x := max (T1.length - p1) (T2.length - p1)) (by omega)
  rw [h, h] at e1
  obtain rfl : r1 = r2 := by omega
  have l : T1.length = T2.length := Nat.le_antisymm (short_start s2 s1 fun x => (h x).symm) (short_start s1 s2 h)
  refine ⟨List.ext_getElem l fun i h1 h2 => ?_, rfl, rfl⟩
  have e := h i
  rw [vl_lt h1, vl_lt h2, List.getD_eq_getElem?_getD, List.getD_eq_getElem?_getD, List.getElem?_eq_getElem h1, List.getElem?_eq_getElem h2] at e
  exact e
theorem rep_slope {T : List Int} {p s : Nat} {r c : Int} (o : RuleOk T p r) (sd : s ∣ p) (h : Rep T p r s c) : r * (s : Int) = c * (p : Int) := by
  obtain ⟨k, rfl⟩ := sd
  have all := rep_all o h
  have up : ∀ n : Nat, vl T (s * k) r (T.length - s * k + n * s) = vl T (s * k) r (T.length - s * k) + (n : Int) * c := by
    intro n
    induction n with
    | zero => simp
    | succ n ih =>
      rw [show T.length - s * k + (n + 1) * s = T.length - s * k + n * s + s by rw [Nat.add_mul]; omega, all _ (by omega), ih, Int.natCast_add, Int.add_mul]
      simp
      omega
  have e1 := up k
  have e2 := vl_add o.p0 o.p1 (r := r) (x := T.length - s * k) (Nat.le_refl _)
  rw [Nat.mul_comm k s, e2] at e1
  have e3 : r = (k : Int) * c := by omega
  rw [e3, Int.natCast_mul, Int.mul_comm (k : Int) c, Int.mul_assoc, Int.mul_comm (k : Int)]
theorem rep_quot {T : List Int} {p s : Nat} {r c : Int} (o : RuleOk T p r) (sd : s ∣ p) (h : Rep T p r s c) : r * (s : Int) / (p : Int) = c ∧ r * (s : Int) % (p : Int) = 0 := by
  have p0 := o.p0
  rw [rep_slope o sd h]
  exact ⟨Int.mul_ediv_cancel _ (by omega), Int.mul_emod_left _ _⟩
theorem cut_short {T : List Int} {p a s : Nat} {r c : Int} (o : RuleOk T p r) (hs : 0 < s) (sd : s ∣ p) (ha : a ≤ T.length - p) (c0 : 0 ≤ c) (h : ∀ y, a ≤ y → vl T p r (y + s) = vl T p r y + c)
    (hm : ∀ s' c', 0 < s' → s' < s → s' ∣ p → ¬ Rep T p r s' c') (st : a = 0 ∨ vl T p r (a - 1 + s) ≠ T.getD (a - 1) 0 + c) : Short (T.take (a + s)) s c := by
  have p1 := o.p1
  have sp : s ≤ p := Nat.le_of_dvd o.p0 sd
  have ok := cut_ok o hs (by omega) c0 h
  have eq := cut_vl (T := T) (p := p) (r := r) hs (show a + s ≤ T.length by omega) h
  have len : (T.take (a + s)).length = a + s := by rw [List.length_take]; omega
  refine ⟨ok, fun s' c' h1 h2 h3 rep => hm s' c' h1 h2 (Nat.dvd_trans h3 sd) fun i g1 g2 => ?_, ?_⟩
  · have all := rep_all ok rep i (by rw [len]; omega)
    rw [eq, eq, vl_lt (T := T) g2] at all
    exact all
  · by_cases z : a = 0
    · left
      rw [len, z, Nat.zero_add]
    · right
      rw [len, eq, show a + s - 1 = a - 1 + s by omega, show a + s - s - 1 = a - 1 by omega, getD_take (by omega)]
      rcases st with q | q
      · exact absurd q z
      · exact q
theorem dvd_of {p i : Nat} (h : (p : Int).fmod (1 + (i : Int)) = 0) : 1 + i ∣ p := by
  rw [Int.fmod_eq_emod_of_nonneg _ (by omega)] at h
  exact Int.natCast_dvd_natCast.mp (Int.dvd_of_emod_eq_zero (b := (p : Int)) (a := ((1 + i : Nat) : Int)) h)
theorem of_dvd {p i : Nat} (h : 1 + i ∣ p) : (p : Int).fmod (1 + (i : Int)) = 0 := by
  rw [Int.fmod_eq_emod_of_nonneg _ (by omega)]
  exact Int.emod_eq_zero_of_dvd (a := ((1 + i : Nat) : Int)) (Int.natCast_dvd_natCast.mpr h)
end Sm

set_option maxHeartbeats 4000000
namespace Sm
/-! a list that comes back when it is turned; the steps of the last period -/
def Rot (I : List Int) (s : Nat) : Prop := I = I.drop s ++ I.take s
structure Cyc (I : List Int) (s : Nat) : Prop where
  s0 : 0 < s
  s1 : s ≤ I.length
  dv : s ∣ I.length
  rot : s < I.length → Rot I s
  least : ∀ t, 0 < t → t < s → t ∣ I.length → ¬ Rot I t
def stepsOf (T : List Int) (p : Nat) (r : Int) : List Int := (List.range p).map fun i => vl T p r (T.length - p + i + 1) - vl T p r (T.length - p + i)
theorem stepsOf_len (T : List Int) (p : Nat) (r : Int) : (stepsOf T p r).length = p := by
  unfold stepsOf
  rw [List.length_map, List.length_range]
theorem stepsOf_get {T : List Int} {p : Nat} {r : Int} {i : Nat} (h : i < p) : (stepsOf T p r)[i]? = some (vl T p r (T.length - p + i + 1) - vl T p r (T.length - p + i)) := by
  unfold stepsOf
  rw [List.getElem?_map, List.getElem?_range h]
  rfl
theorem rot_get {I : List Int} {s i : Nat} (h : Rot I s) (hs : s ≤ I.length) (hi : i < I.length) : I[i]? = if i + s < I.length then I[i + s]? else I[i + s - I.length]? := by
  have e : I[i]? = (I.drop s ++ I.take s)[i]? := congrArg (fun l => l[i]?) h
  rw [e, List.getElem?_append, List.length_drop]
  by_cases q : i < I.length - s
  · rw [if_pos q, if_pos (by omega), List.getElem?_drop, Nat.add_comm]
  · rw [if_neg q, if_neg (by omega), List.getElem?_take_of_lt (by omega), show i - (I.length - s) = i + s - I.length by omega]
theorem of_rot {I : List Int} {s : Nat} (hs : s ≤ I.length) (h : ∀ i, i < I.length → I[i]? = if i + s < I.length then I[i + s]? else I[i + s - I.length]?) : Rot I s := by
  refine List.ext_getElem? fun i => ?_
  by_cases hi : i < I.length
  · rw [h i hi, List.getElem?_append, List.length_drop]
    by_cases q : i < I.length - s
    · rw [if_pos q, if_pos (by omega), List.getElem?_drop, Nat.add_comm]
    · rw [if_neg q, if_neg (by omega), List.getElem?_take_of_lt (by omega), show i - (I.length - s) = i + s - I.length by omega]
  · rw [List.getElem?_eq_none (by omega), List.getElem?_eq_none (by rw [List.length_append, List.length_drop, List.length_take]; omega)]
theorem rot_rep {T : List Int} {p s : Nat} {r : Int} (o : RuleW T p r) (sp : s < p) (h : Rot (stepsOf T p r) s) : Rep T p r s (vl T p r (T.length - p + s) - vl T p r (T.length - p)) := by
  have p0 := o.p0
  have p1 := o.p1
  have ln := stepsOf_len T p r
  have d : ∀ j, j < p → vl T p r (T.length - p + (j + s) + 1) - vl T p r (T.length - p + (j + s)) = vl T p r (T.length - p + j + 1) - vl T p r (T.length - p + j) := by
    intro j hj
    have e := rot_get h (by omega) (i := j) (by omega)
    rw [ln, stepsOf_get hj] at e
    by_cases q : j + s < p
    · rw [if_pos q, stepsOf_get q] at e
      exact (Option.some.inj e).symm
    · rw [if_neg q, stepsOf_get (by omega)] at e
      have e := Option.some.inj e
      have e1 := vl_add p0 p1 (r := r) (x := T.length - p + (j + s - p) + 1) (by omega)
      have e2 := vl_add p0 p1 (r := r) (x := T.length - p + (j + s - p)) (by omega)
      rw [show T.length - p + (j + s - p) + 1 + p = T.length - p + (j + s) + 1 by omega] at e1
      rw [show T.length - p + (j + s - p) + p = T.length - p + (j + s) by omega] at e2
      omega
  have all : ∀ j, j ≤ p → vl T p r (T.length - p + j + s) = vl T p r (T.length - p + j) + (vl T p r (T.length - p + s) - vl T p r (T.length - p)) := by
    intro j
    induction j with
    | zero => intro _; simp; omega
    | succ j ih =>
      intro hj
      have a := ih (by omega)
      have b := d j (by omega)
      rw [show T.length - p + (j + s) + 1 = T.length - p + (j + 1) + s by omega, show T.length - p + (j + s) = T.length - p + j + s by omega] at b
      rw [show T.length - p + (j + 1) = T.length - p + j + 1 by omega] at b ⊢
      omega
  intro i h1 h2
  have := all (i - (T.length - p)) (by omega)
  rw [show T.length - p + (i - (T.length - p)) = i by omega] at this
  rw [this, vl_lt h2]
theorem rep_rot {T : List Int} {p s : Nat} {r c : Int} (o : RuleW T p r) (sp : s ≤ p) (h : Rep T p r s c) : Rot (stepsOf T p r) s := by
  have p0 := o.p0
  have p1 := o.p1
  have ln := stepsOf_len T p r
  have all := rep_allW o h
  refine of_rot (by omega) fun i hi => ?_
  rw [ln] at hi ⊢
  rw [stepsOf_get hi]
  have a := all (T.length - p + i) (by omega)
  have b := all (T.length - p + i + 1) (by omega)
  by_cases q : i + s < p
  · rw [if_pos q, stepsOf_get q]
    rw [show T.length - p + i + s = T.length - p + (i + s) by omega] at a
    rw [show T.length - p + i + 1 + s = T.length - p + (i + s) + 1 by omega] at b
    congr 1
    omega
  · rw [if_neg q, stepsOf_get (by omega)]
    have e1 := vl_add p0 p1 (r := r) (x := T.length - p + (i + s - p) + 1) (by omega)
    have e2 := vl_add p0 p1 (r := r) (x := T.length - p + (i + s - p)) (by omega)
    rw [show T.length - p + (i + s - p) + 1 + p = T.length - p + i + 1 + s by omega] at e1
    rw [show T.length - p + (i + s - p) + p = T.length - p + i + s by omega] at e2
    congr 1
    omega
/-- the least turn of the steps is the rule's least turn -/
theorem cyc_rule {T : List Int} {p s : Nat} {r : Int} (o : RuleOk T p r) (h : Cyc (stepsOf T p r) s) : 0 < s ∧ s ≤ p ∧ s ∣ p ∧ Rep T p r s (r * (s : Int) / (p : Int)) ∧ ∀ s' c', 0 < s' → s' < s → s' ∣ p → ¬ Rep T p r s' c' := by
  obtain ⟨s0, s1, dv, rot, least⟩ := h
  rw [stepsOf_len] at s1 dv rot least
  have p0 := o.p0
  refine ⟨s0, s1, dv, ?_, fun s' c' h1 h2 h3 rep => least s' h1 h2 h3 (rep_rot o.w (by omega) rep)⟩
  by_cases q : s < p
  · have rep := rot_rep o.w q (rot q)
    rw [(rep_quot o dv rep).1]
    exact rep
  · obtain rfl : s = p := by omega
    rw [Int.mul_ediv_cancel _ (by omega)]
    exact rep_self o
/-! values told by a function, as a rule -/
theorem tab_getD {f : Nat → Int} {n i : Nat} (h : i < n) : ((List.range n).map f).getD i 0 = f i := by
  rw [List.getD_eq_getElem?_getD, List.getElem?_map, List.getElem?_range h]
  rfl
theorem tab_len {f : Nat → Int} {n : Nat} : ((List.range n).map f).length = n := by rw [List.length_map, List.length_range]
theorem tab_vl {f : Nat → Int} {B t : Nat} {R : Int} (t0 : 0 < t) (h : ∀ x, B ≤ x → f (x + t) = f x + R) : ∀ x, vl ((List.range (B + t)).map f) t R x = f x := by
  intro x
  induction x using Nat.strongRecOn with
  | _ x ih =>
    by_cases q : x < B + t
    · rw [vl_lt (by rw [tab_len]; exact q), tab_getD q]
    · rw [vl_step t0 (by rw [tab_len]; omega) (by rw [tab_len]; omega), ih (x - t) (by omega)]
      have := h (x - t) (by omega)
      rw [show x - t + t = x by omega] at this
      omega
theorem tab_ok {f : Nat → Int} {B t : Nat} {R : Int} (t0 : 0 < t) (R0 : 0 ≤ R) (h : ∀ x, B ≤ x → f (x + t) = f x + R) (f0 : ∀ x, 0 ≤ f x) (up : ∀ x, f x ≤ f (x + 1)) : RuleOk ((List.range (B + t)).map f) t R := by
  refine ⟨t0, by rw [tab_len]; omega, R0, fun i hi => ?_, fun i hi => ?_, ?_⟩
  · rw [tab_len] at hi
    rw [tab_getD hi]
    exact f0 i
  · rw [tab_len] at hi
    rw [tab_getD hi, tab_getD (by omega)]
    exact up i
  · rw [tab_len, tab_getD (by omega), tab_getD (by omega), show B + t - t = B by omega]
    have a := h B (Nat.le_refl _)
    have b := up (B + t - 1)
    rw [show B + t - 1 + 1 = B + t by omega] at b
    omega
end Sm

set_option maxHeartbeats 4000000
namespace Sm
/-! the second rule's value at the first one's -/
section
variable {T1 T2 : List Int} {p1 p2 : Nat} {r1 r2 : Int}
def thn (T1 : List Int) (p1 : Nat) (r1 : Int) (T2 : List Int) (p2 : Nat) (r2 : Int) (x : Nat) : Int := vl T2 p2 r2 (vl T1 p1 r1 x).toNat
theorem thn_pos (o2 : RuleOk T2 p2 r2) (x : Nat) : 0 ≤ thn T1 p1 r1 T2 p2 r2 x := o2.pos _
theorem thn_up (o1 : RuleOk T1 p1 r1) (o2 : RuleOk T2 p2 r2) (x : Nat) : thn T1 p1 r1 T2 p2 r2 x ≤ thn T1 p1 r1 T2 p2 r2 (x + 1) := by
  have := o1.up x
  exact o2.le (by omega)
theorem thn_turn {B a b : Nat} (o1 : RuleOk T1 p1 r1) (o2 : RuleOk T2 p2 r2) (hB : T1.length - p1 ≤ B) (hab : (a : Int) * r1 = (b : Int) * (p2 : Int)) (hb : b = 0 ∨ ((T2.length - p2 : Nat) : Int) ≤ vl T1 p1 r1 B) :
    ∀ x, B ≤ x → thn T1 p1 r1 T2 p2 r2 (x + a * p1) = thn T1 p1 r1 T2 p2 r2 x + (b : Int) * r2 := by
  intro x hx
  unfold thn
  have e1 := vl_addk o1.p0 o1.p1 (r := r1) (x := x) (by omega) a
  rw [e1, hab]
  have n1 := o1.pos x
  have up := o1.le hx
  rcases hb with rfl | hb
  · simp
  · have e : (vl T1 p1 r1 x + (b : Int) * (p2 : Int)).toNat = (vl T1 p1 r1 x).toNat + b * p2 := by
      rw [← Int.natCast_mul]
      omega
    rw [e]
    exact vl_addk o2.p0 o2.p1 (r := r2) (by omega) b
/-- the turns that then_rule takes -/
theorem thn_times (p0 : 0 < p2) (r0 : 0 ≤ r1) : 0 < p2 / Nat.gcd p2 r1.natAbs ∧ p2 / Nat.gcd p2 r1.natAbs ≤ p2 ∧ ((p2 / Nat.gcd p2 r1.natAbs : Nat) : Int) * r1 = ((r1.natAbs * (p2 / Nat.gcd p2 r1.natAbs) / p2 : Nat) : Int) * (p2 : Int) := by
  have g0 := Nat.gcd_pos_of_pos_left r1.natAbs p0
  obtain ⟨c, hc⟩ := Nat.gcd_dvd_left p2 r1.natAbs
  obtain ⟨d, hd⟩ := Nat.gcd_dvd_right p2 r1.natAbs
  have e : p2 / Nat.gcd p2 r1.natAbs = c := by
    rw [Nat.div_eq_of_eq_mul_right g0 hc]
  rw [e]
  have c0 : 0 < c := by
    rcases Nat.eq_zero_or_pos c with z | z
    · rw [z, Nat.mul_zero] at hc
      omega
    · exact z
  refine ⟨c0, ?_, ?_⟩
  · rw [← e]
    exact Nat.div_le_self ..
  · generalize Nat.gcd p2 r1.natAbs = g at *
    have m : r1.natAbs * c / p2 = d := by
      rw [hd, hc, show g * d * c = g * c * d by rw [Nat.mul_assoc, Nat.mul_comm d c, Nat.mul_assoc]]
      exact Nat.mul_div_cancel_left _ (Nat.mul_pos g0 c0)
    rw [m]
    have er : r1 = ((g * d : Nat) : Int) := by omega
    rw [er, hc, ← Int.natCast_mul, ← Int.natCast_mul]
    congr 1
    rw [Nat.mul_comm d, Nat.mul_assoc, Nat.mul_left_comm]
end
/-- one step, at the end -/
def stepT (N : Nat) : List Int := List.replicate N 0 ++ [9]
theorem step_len (N : Nat) : (stepT N).length = N + 1 := by
  unfold stepT
  rw [List.length_append, List.length_replicate]
  rfl
theorem step_at {N i : Nat} : (stepT N).getD i 0 = if i = N then 9 else 0 := by
  unfold stepT
  rw [List.getD_eq_getElem?_getD, List.getElem?_append, List.length_replicate]
  split
  · rw [if_neg (by omega), List.getElem?_replicate]
    split <;> rfl
  · split
    · rename_i h
      rw [h, Nat.sub_self]
      rfl
    · rw [List.getElem?_eq_none (by rw [List.length_singleton]; omega)]
      rfl
theorem step_ok {N : Nat} {r : Int} (h : 0 ≤ r) : RuleOk (stepT N) 1 r := by
  have l := step_len N
  refine ⟨by decide, by omega, h, fun i hi => ?_, fun i hi => ?_, ?_⟩
  · rw [step_at]
    split <;> omega
  · rw [step_at, step_at]
    split <;> split <;> omega
  · rw [l, Nat.add_sub_cancel]
    omega
theorem step_vl {N : Nat} (x : Nat) : vl (stepT N) 1 0 x = if x < N then 0 else 9 := by
  have l := step_len N
  unfold vl
  rw [l]
  split
  · rw [step_at]
    split <;> split <;> omega
  · rw [if_neg (by omega), Nat.div_one, Nat.mul_one, show x - (x - (N + 1) + 1) = N by omega, step_at, if_pos rfl, Int.mul_zero, Int.add_zero]
theorem step_short {N : Nat} (h : 0 < N) : Short (stepT N) 1 0 := by
  have l := step_len N
  refine ⟨step_ok (by decide), fun s c h1 h2 => by omega, .inr ?_⟩
  rw [step_vl, step_at, l, if_neg (by omega), if_neg (by omega)]
  decide
end Sm

set_option linter.all false
set_option maxRecDepth 100000
namespace Sm
section
variable {T1 T2 : List Int} {p1 p2 : Nat} {r1 r2 : Int}
/-- two rules that are equal far off: the shorter one's period divides the other one's -/
theorem far_le {A : Nat} (s1 : Short T1 p1 r1) (o2 : RuleOk T2 p2 r2) (h : ∀ x, A ≤ x → vl T1 p1 r1 x = vl T2 p2 r2 x) : Nat.gcd p1 p2 = p1 := by
  have o1 := s1.ok
  obtain ⟨c, hc⟩ := gcd_turn (f := vl T1 p1 r1) (A := max A (max (T1.length - p1) (T2.length - p2))) _ p1 p2 (Nat.le_refl _) o1.p0 o2.p0 ⟨r1, fun x hx => vl_add o1.p0 o1.p1 (by omega)⟩
    ⟨r2, fun x hx => by rw [h x (by omega), h (x + p2) (by omega)]; exact vl_add o2.p0 o2.p1 (by omega)⟩
  have g0 : 0 < Nat.gcd p1 p2 := Nat.gcd_pos_of_pos_left _ o1.p0
  have gl : Nat.gcd p1 p2 ≤ p1 := Nat.le_of_dvd o1.p0 (Nat.gcd_dvd_left ..)
  by_cases q : Nat.gcd p1 p2 = p1
  · exact q
  · refine absurd (fun i h1 h2 => ?_) (s1.turn (Nat.gcd p1 p2) c g0 (by omega) (Nat.gcd_dvd_left ..))
    have := rep_down o1 hc (x := i) h1
    rw [vl_lt h2] at this
    exact this
theorem far_turn {A : Nat} (s1 : Short T1 p1 r1) (s2 : Short T2 p2 r2) (h : ∀ x, A ≤ x → vl T1 p1 r1 x = vl T2 p2 r2 x) : p1 = p2 ∧ r1 = r2 := by
  have a := far_le s1 s2.ok h
  have b := far_le s2 s1.ok fun x hx => (h x hx).symm
  rw [Nat.gcd_comm] at b
  have e : p1 = p2 := a.symm.trans b
  refine ⟨e, ?_⟩
  subst e
  have e1 := vl_add (r := r1) s1.ok.p0 s1.ok.p1 (x := A + T1.length + T2.length) (by omega)
  have e2 := vl_add (r := r2) s2.ok.p0 s2.ok.p1 (x := A + T1.length + T2.length) (by omega)
  rw [h _ (by omega), h _ (by omega)] at e1
  omega
/-- from B on the one is nowhere below: the greater values repeat as it does -/
theorem over_turn {B : Nat} (o1 : RuleOk T1 p1 r1) (hB : T1.length - p1 ≤ B) (hL : ∀ x, B ≤ x → vl T2 p2 r2 x ≤ vl T1 p1 r1 x) : ∀ x, B ≤ x → max (vl T1 p1 r1 (x + p1)) (vl T2 p2 r2 (x + p1)) = max (vl T1 p1 r1 x) (vl T2 p2 r2 x) + r1 := by
  intro x hx
  have a := hL x hx
  have b := hL (x + p1) (by omega)
  have c := vl_add o1.p0 o1.p1 (r := r1) (x := x) (by omega)
  omega
/-- the shortest table of the greater values: it ends a period behind the last amount at which the flat one is above -/
theorem over_len {T : List Int} {p L : Nat} {r : Int} (s : Short T p r) (s1 : Short T1 p1 r1) (hv : ∀ x, vl T p r x = max (vl T1 p1 r1 x) (vl T2 p2 r2 x)) (hL : T1.length - p1 ≤ L) (above : vl T1 p1 r1 L < vl T2 p2 r2 L) (behind : ∀ x, L < x → vl T2 p2 r2 x ≤ vl T1 p1 r1 x) :
    p = p1 ∧ r = r1 ∧ T.length = L + 1 + p1 := by
  have far : ∀ x, L + 1 ≤ x → vl T p r x = vl T1 p1 r1 x := fun x hx => by
    rw [hv]
    have := behind x (by omega)
    omega
  obtain ⟨rfl, rfl⟩ := far_turn s s1 far
  refine ⟨rfl, rfl, ?_⟩
  have o := s.ok
  have o1 := s1.ok
  have p0 := o.p0
  have q1 := o.p1
  rcases Nat.lt_trichotomy T.length (L + 1 + p) with l | l | l
  · exfalso
    have a := vl_add (r := r) p0 q1 (x := L) (by omega)
    have b := vl_add (r := r) p0 o1.p1 (x := L) hL
    rw [far (L + p) (by omega), b, hv L] at a
    omega
  · exact l
  · exfalso
    rcases s.start with e | e
    · omega
    · apply e
      have c := far (T.length - 1) (by omega)
      have d := far (T.length - p - 1) (by omega)
      have f := vl_add (r := r) p0 o1.p1 (x := T.length - p - 1) (by omega)
      rw [show T.length - p - 1 + p = T.length - 1 by omega] at f
      rw [c, f, ← d, vl_lt (by omega)]
end
end Sm

set_option linter.all false
set_option maxRecDepth 100000
namespace Sm
/-- the last amount at which d is above 0, or -1 -/
def IsLast (d : Nat → Int) (L : Int) : Prop := (L = -1 ∨ ∃ n : Nat, L = (n : Int) ∧ 0 < d n) ∧ ∀ x : Nat, 0 < d x → (x : Int) ≤ L
def earlyL (d : Nat → Int) (n : Nat) : List Int := ((List.range n).filter fun x => decide (0 < d x)).map fun (x : Nat) => (x : Int)
def lateL (d : Nat → Int) (B t : Nat) (g : Int) (n : Nat) : List Int := ((List.range n).filter fun i => decide (0 < d (B + i))).map fun i => ((B + i : Nat) : Int) + (t : Int) * ((d (B + i) - 1) / g)
theorem down_turns {d : Nat → Int} {B t : Nat} {g : Int} (h : ∀ x, B ≤ x → d (x + t) = d x - g) {x : Nat} (hx : B ≤ x) : ∀ k : Nat, d (x + k * t) = d x - (k : Int) * g
  | 0 => by simp
  | k + 1 => by
    have ih := down_turns h hx k
    rw [show x + (k + 1) * t = x + k * t + t by rw [Nat.add_mul, Nat.one_mul, Nat.add_assoc], h _ (by omega), ih, Int.natCast_add, Int.add_mul]
    simp
    omega
theorem last_of {d : Nat → Int} {B t : Nat} {g M : Int} (t0 : 0 < t) (hg : 0 < g) (h : ∀ x, B ≤ x → d (x + t) = d x - g) (up : ∀ y ∈ earlyL d B ++ lateL d B t g t, y ≤ M) : ∀ x : Nat, 0 < d x → (x : Int) ≤ M := by
  intro x hx
  by_cases q : x < B
  · refine up _ (List.mem_append_left _ (List.mem_map.mpr ⟨x, List.mem_filter.mpr ⟨List.mem_range.mpr q, decide_eq_true hx⟩, rfl⟩))
  · obtain ⟨y, k, h1, h2, rfl⟩ := split_turn t0 (show B ≤ x by omega)
    have e := down_turns h h1 k
    rw [e] at hx
    have k0 : 0 ≤ (k : Int) * g := Int.mul_nonneg (by omega) (by omega)
    have hk : (k : Int) ≤ (d y - 1) / g := (Int.le_ediv_iff_mul_le hg).mpr (by omega)
    have m := up (((B + (y - B) : Nat) : Int) + (t : Int) * ((d (B + (y - B)) - 1) / g)) (List.mem_append_right _ (List.mem_map.mpr ⟨y - B, List.mem_filter.mpr ⟨List.mem_range.mpr (by omega), decide_eq_true (by rw [show B + (y - B) = y by omega]; omega)⟩, rfl⟩))
    rw [show B + (y - B) = y by omega] at m
    have hm : (t : Int) * (k : Int) ≤ (t : Int) * ((d y - 1) / g) := Int.mul_le_mul_of_nonneg_left hk (by omega)
    rw [Int.natCast_add, Int.natCast_mul, Int.mul_comm]
    omega
theorem last_in {d : Nat → Int} {B t : Nat} {g M : Int} (hg : 0 < g) (h : ∀ x, B ≤ x → d (x + t) = d x - g) (hm : M ∈ earlyL d B ++ lateL d B t g t) : ∃ n : Nat, M = (n : Int) ∧ 0 < d n := by
  rcases List.mem_append.mp hm with m | m
  · obtain ⟨x, hx, rfl⟩ := List.mem_map.mp m
    exact ⟨x, rfl, of_decide_eq_true (List.mem_filter.mp hx).2⟩
  · obtain ⟨i, hi, rfl⟩ := List.mem_map.mp m
    have di := of_decide_eq_true (List.mem_filter.mp hi).2
    have q0 : 0 ≤ (d (B + i) - 1) / g := Int.ediv_nonneg (by omega) (by omega)
    refine ⟨B + i + ((d (B + i) - 1) / g).toNat * t, ?_, ?_⟩
    · rw [Int.natCast_add (B + i), Int.natCast_mul, Int.toNat_of_nonneg q0, Int.mul_comm]
    · rw [down_turns h (by omega), Int.toNat_of_nonneg q0]
      have a := Int.mul_ediv_add_emod (d (B + i) - 1) g
      have b := Int.emod_nonneg (d (B + i) - 1) (show g ≠ 0 by omega)
      rw [Int.mul_comm] at a
      omega
theorem last_is {d : Nat → Int} {B t : Nat} {g : Int} (t0 : 0 < t) (hg : 0 < g) (h : ∀ x, B ≤ x → d (x + t) = d x - g) {ns : List Int} (hns : ns = earlyL d B ++ lateL d B t g t) :
    (ns = [] → IsLast d (-1)) ∧ ∀ m, m ∈ ns → (∀ y, y ∈ ns → y ≤ m) → IsLast d m := by
  subst hns
  refine ⟨fun e => ⟨.inl rfl, last_of t0 hg h fun y hy => by rw [e] at hy; exact nomatch hy⟩, fun m hm hle => ⟨.inr (last_in hg h hm), last_of t0 hg h hle⟩⟩
end Sm

set_option maxHeartbeats 4000000
namespace Sm
/-! the two written pairs of rules at the end of the law -/
theorem vl_flat {c : Int} (x : Nat) : vl [c] 1 0 x = c := by
  unfold vl
  split
  · rename_i h
    rw [show x = 0 by simp at h; omega]
    rfl
  · rename_i h
    simp only [List.length_cons, List.length_nil] at h ⊢
    rw [show x - ((x - (0 + 1)) / 1 + 1) * 1 = 0 by rw [Nat.div_one]; omega, Int.mul_zero, Int.add_zero]
    rfl
theorem zeros_at {i n : Nat} : (List.replicate n (0 : Int)).getD i 0 = 0 := by
  rw [List.getD_eq_getElem?_getD, List.getElem?_replicate]
  split <;> rfl
theorem vl_stairs {r : Int} (x : Nat) : vl (List.replicate 40 0) 40 r x = ((x / 40 : Nat) : Int) * r := by
  unfold vl
  rw [List.length_replicate, zeros_at, zeros_at]
  split
  · rename_i h
    rw [show x / 40 = 0 by omega]
    simp
  · rename_i h
    rw [show (x - 40) / 40 + 1 = x / 40 by omega, Int.zero_add]
theorem flat_short {c : Int} (c0 : 0 ≤ c) : Short [c] 1 0 := by
  refine ⟨⟨by decide, Nat.le_refl 1, by decide, fun i hi => ?_, fun i hi => ?_, ?_⟩, fun s c h1 h2 => by omega, .inl rfl⟩
  · simp only [List.length_cons, List.length_nil] at hi
    rw [show i = 0 by omega]
    exact c0
  · simp only [List.length_cons, List.length_nil] at hi
    omega
  · show c ≤ c + 0
    omega
theorem stairs_short {r : Int} (r0 : 0 < r) : Short (List.replicate 40 0) 40 r := by
  refine ⟨⟨by decide, by rw [List.length_replicate]; exact Nat.le_refl _, by omega, fun i hi => ?_, fun i hi => ?_, ?_⟩, fun s c h1 h2 _ h => ?_, .inl (by rw [List.length_replicate])⟩
  · rw [zeros_at]
    exact Int.le_refl _
  · rw [zeros_at, zeros_at]
    exact Int.le_refl _
  · rw [zeros_at, zeros_at]
    omega
  · have a := h 0 (by rw [List.length_replicate]; omega) (by rw [List.length_replicate]; decide)
    have b := h 39 (by rw [List.length_replicate]; omega) (by rw [List.length_replicate]; decide)
    rw [vl_stairs, zeros_at, show (0 + s) / 40 = 0 by omega] at a
    rw [vl_stairs, zeros_at, show (39 + s) / 40 = 1 by omega] at b
    simp at a b
    omega
theorem far_len {T : List Int} {p : Nat} {r : Int} (s : Short T p r) (hv : ∀ x, vl T p r x = max (vl (List.replicate 40 0) 40 1 x) (vl [999999999999] 1 0 x)) : T.length = 40000000000000 := by
  have := over_len (L := 39999999999959) s (stairs_short (r := 1) (by decide)) hv (by rw [List.length_replicate]; omega) (by rw [vl_stairs, vl_flat]; decide) fun x hx => by
    rw [vl_stairs, vl_flat]
    omega
  omega
theorem near_tab {T : List Int} {p : Nat} {r : Int} (s : Short T p r) (hv : ∀ x, vl T p r x = max (vl [4960] 1 0 x) (vl (List.replicate 40 0) 40 40 x)) : T = (List.range 5000).map (fun x => max 4960 (((x / 40 : Nat) : Int) * 40)) ∧ p = 40 ∧ r = 40 := by
  have hv2 : ∀ x, vl T p r x = max (vl (List.replicate 40 0) 40 40 x) (vl [4960] 1 0 x) := fun x => by rw [hv, Int.max_comm]
  obtain ⟨e1, e2, e3⟩ := over_len (L := 4959) s (stairs_short (r := 40) (by decide)) hv2 (by rw [List.length_replicate]; omega) (by rw [vl_stairs, vl_flat]; decide) fun x hx => by
    rw [vl_stairs, vl_flat]
    omega
  refine ⟨List.ext_getElem (by rw [List.length_map, List.length_range]; omega) fun i h1 h2 => ?_, e1, e2⟩
  have h := hv i
  rw [vl_lt h1, vl_flat, vl_stairs, List.getD_eq_getElem?_getD, List.getElem?_eq_getElem h1] at h
  rw [List.getElem_map, List.getElem_range]
  exact h
end Sm

set_option maxHeartbeats 4000000
namespace Sm
/-! each rule has a shortest tuple -/
theorem least_of {Q : Nat → Prop} (h : ∃ n, Q n) : ∃ n, Q n ∧ ∀ m, m < n → ¬ Q m := by
  obtain ⟨n, hn⟩ := h
  induction n using Nat.strongRecOn with
  | _ n ih =>
    by_cases q : ∃ m, m < n ∧ Q m
    · obtain ⟨m, hm, hq⟩ := q
      exact ih m hm hq
    · exact ⟨n, hn, fun m hm hq => q ⟨m, hm, hq⟩⟩
theorem short_is {T : List Int} {p : Nat} {r : Int} (o : RuleOk T p r) : ∃ T' p' r', Short T' p' r' ∧ ∀ x, vl T' p' r' x = vl T p r x := by
  have p0 := o.p0
  have p1 := o.p1
  obtain ⟨s, ⟨s0, sd, c, hc⟩, low⟩ := least_of (Q := fun s => 0 < s ∧ s ∣ p ∧ ∃ c, Rep T p r s c) ⟨p, p0, Nat.dvd_refl p, r, rep_self o⟩
  have sp : s ≤ p := Nat.le_of_dvd p0 sd
  have all := rep_all o hc
  have slope := rep_slope o sd hc
  have c0 : 0 ≤ c := by
    have h1 : 0 ≤ r * (s : Int) := Int.mul_nonneg o.r0 (by omega)
    rw [slope] at h1
    by_cases q : 0 ≤ c
    · exact q
    · have h2 : c * (p : Int) < 0 := Int.mul_neg_of_neg_of_pos (by omega) (by omega)
      omega
  obtain ⟨a, ⟨ha, hall⟩, lowa⟩ := least_of (Q := fun a => a ≤ T.length - p ∧ ∀ y, a ≤ y → vl T p r (y + s) = vl T p r y + c) ⟨T.length - p, Nat.le_refl _, all⟩
  refine ⟨T.take (a + s), s, c, cut_short o s0 sd ha c0 hall (fun s' c' h1 h2 h3 h4 => low s' h2 ⟨h1, h3, c', h4⟩) ?_, cut_vl s0 (by omega) hall⟩
  by_cases z : a = 0
  · exact .inl z
  · refine .inr fun e => lowa (a - 1) (by omega) ⟨by omega, fun y hy => ?_⟩
    by_cases q : y = a - 1
    · rw [q, e, vl_lt (by omega)]
    · exact hall y (by omega)
end Sm

set_option linter.all false
set_option maxHeartbeats 4000000
namespace Sm
/-! the inverse of a rule that ends rising: the least amounts -/
section
variable {T : List Int} {p : Nat} {r : Int}
theorem lf_is (o : RuleOk T p r) (r0 : 0 < r) (y : Nat) : ∃ i, IsLf T p r (y : Int) (some i) := by
  have far : (y : Int) ≤ vl T p r (T.length + y * p) := by
    have a := vl_addk o.p0 o.p1 (r := r) (x := T.length) (by omega) y
    have c := o.pos T.length
    have d : (y : Int) * 1 ≤ (y : Int) * r := Int.mul_le_mul_of_nonneg_left (by omega) (by omega)
    rw [a]
    omega
  obtain ⟨i, hi, low⟩ := least_of (Q := fun x => (y : Int) ≤ vl T p r x) ⟨_, far⟩
  exact ⟨i, hi, fun z hz => by have := low z hz; omega⟩
noncomputable def lf (T : List Int) (p : Nat) (r : Int) (y : Nat) : Nat :=
  open Classical in if h : ∃ i, IsLf T p r (y : Int) (some i) then Classical.choose h else 0
theorem lf_sp (o : RuleOk T p r) (r0 : 0 < r) (y : Nat) : IsLf T p r (y : Int) (some (lf T p r y)) := by
  have h := lf_is o r0 y
  unfold lf
  rw [dif_pos h]
  exact Classical.choose_spec h
theorem lf_le (o : RuleOk T p r) (r0 : 0 < r) {x y : Nat} : lf T p r y ≤ x ↔ (y : Int) ≤ vl T p r x := by
  obtain ⟨a, b⟩ := lf_sp o r0 y
  constructor
  · intro h
    have := o.le h
    omega
  · intro h
    rcases Nat.lt_or_ge x (lf T p r y) with q | q
    · have := b x q
      omega
    · exact q
theorem lf_up (o : RuleOk T p r) (r0 : 0 < r) (y : Nat) : lf T p r y ≤ lf T p r (y + 1) := by
  rw [lf_le o r0]
  have := (lf_sp o r0 (y + 1)).1
  omega
/-- from where on the inverse repeats: one more than this -/
def invB (T : List Int) (p : Nat) (r : Int) : Int := max (if p < T.length then T.getD (T.length - p - 1) 0 else -1) (T.getD (T.length - 1) 0 - r)
theorem invB_lo (o : RuleOk T p r) : -1 ≤ invB T p r := by
  unfold invB
  split
  · have := o.nn (T.length - p - 1) (by have := o.p0; omega)
    omega
  · omega
theorem inv_begin (o : RuleOk T p r) {x : Nat} (h : invB T p r < vl T p r x) : T.length - p ≤ x := by
  unfold invB at h
  have p0 := o.p0
  rcases Nat.lt_or_ge x (T.length - p) with q | q
  · have := o.le (show x ≤ T.length - p - 1 by omega)
    rw [vl_lt (x := T.length - p - 1) (by omega)] at this
    rw [if_pos (by omega)] at h
    omega
  · exact q
theorem inv_end (o : RuleOk T p r) {x : Nat} (h : invB T p r + r < vl T p r x) : T.length ≤ x := by
  unfold invB at h
  have p0 := o.p0
  have p1 := o.p1
  rcases Nat.lt_or_ge x T.length with q | q
  · have := o.le (show x ≤ T.length - 1 by omega)
    rw [vl_lt (x := T.length - 1) (by omega)] at this
    omega
  · exact q
theorem lf_turn (o : RuleOk T p r) (r0 : 0 < r) {s B : Nat} (hs : (s : Int) = r) (hB : invB T p r < (B : Int)) : ∀ y, B ≤ y → lf T p r (y + s) = lf T p r y + p := by
  intro y hy
  have p0 := o.p0
  have p1 := o.p1
  obtain ⟨a, b⟩ := lf_sp o r0 y
  obtain ⟨c, d⟩ := lf_sp o r0 (y + s)
  have h1 : T.length - p ≤ lf T p r y := inv_begin o (by omega)
  have h2 : T.length ≤ lf T p r (y + s) := inv_end o (by omega)
  have e1 := vl_add p0 p1 (r := r) (x := lf T p r y) h1
  have e2 := vl_add p0 p1 (r := r) (x := lf T p r (y + s) - p) (by omega)
  rw [show lf T p r (y + s) - p + p = lf T p r (y + s) by omega] at e2
  refine Nat.le_antisymm ?_ ?_
  · rw [lf_le o r0]
    omega
  · have : lf T p r y ≤ lf T p r (y + s) - p := by
      rw [lf_le o r0]
      omega
    omega
def invN (T : List Int) (p : Nat) (r : Int) : Nat := (invB T p r + 1).toNat
noncomputable def invT (T : List Int) (p : Nat) (r : Int) : List Int := (List.range (invN T p r + r.toNat)).map fun y => (lf T p r y : Int)
theorem inv_ok (o : RuleOk T p r) (r0 : 0 < r) : RuleOk (invT T p r) r.toNat (p : Int) ∧ ∀ y, vl (invT T p r) r.toNat (p : Int) y = (lf T p r y : Int) := by
  have b := invB_lo o
  have turn : ∀ x, invN T p r ≤ x → ((lf T p r (x + r.toNat) : Nat) : Int) = (lf T p r x : Int) + (p : Int) := fun x hx => by
    rw [lf_turn o r0 (s := r.toNat) (B := invN T p r) (by omega) (by unfold invN; omega) x hx, Int.natCast_add]
  exact ⟨tab_ok (f := fun y => (lf T p r y : Int)) (by omega) (by omega) turn (fun x => by omega) (fun x => by have := lf_up o r0 x; omega), tab_vl (f := fun y => (lf T p r y : Int)) (by omega) turn⟩
theorem invT_len : (invT T p r).length = invN T p r + r.toNat := by
  unfold invT
  rw [List.length_map, List.length_range]
/-- the inverse of the shortest tuple is the shortest of its values -/
theorem inv_short (s : Short T p r) (r0 : 0 < r) : Short (invT T p r) r.toNat (p : Int) := by
  have o := s.ok
  have p0 := o.p0
  have p1 := o.p1
  obtain ⟨oi, hv⟩ := inv_ok o r0
  have bl := invB_lo o
  have ln : (invT T p r).length = invN T p r + r.toNat := invT_len
  refine ⟨oi, fun u c u0 u1 ud rep => ?_, ?_⟩
  · -- no lesser turn
    have all := rep_all oi rep
    have slope := rep_slope oi ud rep
    have c0 : 0 < c := by
      by_cases q : 0 < c
      · exact q
      · have h1 : c * ((r.toNat : Nat) : Int) ≤ 0 := Int.mul_nonpos_of_nonpos_of_nonneg (by omega) (by omega)
        have h2 : 0 < (p : Int) * (u : Int) := Int.mul_pos (by omega) (by omega)
        omega
    have cp : c < (p : Int) := by
      by_cases q : c < (p : Int)
      · exact q
      · have h1 : (p : Int) * (u : Int) < (p : Int) * ((r.toNat : Nat) : Int) := Int.mul_lt_mul_of_pos_left (by omega) (by omega)
        have h2 : (p : Int) * ((r.toNat : Nat) : Int) ≤ c * ((r.toNat : Nat) : Int) := Int.mul_le_mul_of_nonneg_right (by omega) (by omega)
        omega
    obtain ⟨cn, hc⟩ : ∃ cn : Nat, c = (cn : Int) := ⟨c.toNat, (Int.toNat_of_nonneg (by omega)).symm⟩
    subst hc
    have far : ∀ y, invN T p r ≤ y → lf T p r (y + u) = lf T p r y + cn := fun y hy => by
      have := all y (by omega)
      rw [hv, hv] at this
      omega
    -- so the rule itself has a lesser turn
    have back : ∀ x, lf T p r (invN T p r) ≤ x → vl T p r (x + cn) = vl T p r x + (u : Int) := fun x hx => by
      have n0 := o.pos x
      have h1 := (lf_le o r0).mp hx
      obtain ⟨v, hvx⟩ : ∃ v : Nat, vl T p r x = (v : Int) := ⟨(vl T p r x).toNat, (Int.toNat_of_nonneg n0).symm⟩
      have a1 : lf T p r v ≤ x := by
        rw [lf_le o r0]
        omega
      have a2 : x < lf T p r (v + 1) := by
        rcases Nat.lt_or_ge x (lf T p r (v + 1)) with q | q
        · exact q
        · rw [ge_iff_le, lf_le o r0] at q
          omega
      have b1 := far v (by omega)
      have b2 := far (v + 1) (by omega)
      have d1 : ((v + u : Nat) : Int) ≤ vl T p r (x + cn) := by
        rw [← lf_le o r0]
        omega
      have d2 : ¬ ((v + 1 + u : Nat) : Int) ≤ vl T p r (x + cn) := by
        rw [← lf_le o r0]
        omega
      omega
    have key : Nat.gcd p cn = p := by
      obtain ⟨g, hg⟩ := gcd_turn (f := vl T p r) (A := max (lf T p r (invN T p r)) (T.length - p)) _ p cn (Nat.le_refl _) p0 (by omega) ⟨r, fun x hx => vl_add p0 p1 (by omega)⟩ ⟨(u : Int), fun x hx => back x (by omega)⟩
      have gl : Nat.gcd p cn ≤ p := Nat.le_of_dvd p0 (Nat.gcd_dvd_left ..)
      have g0 : 0 < Nat.gcd p cn := Nat.gcd_pos_of_pos_left _ p0
      by_cases q : Nat.gcd p cn = p
      · exact q
      · refine absurd (fun i h1 h2 => ?_) (s.turn (Nat.gcd p cn) g g0 (by omega) (Nat.gcd_dvd_left ..))
        have := rep_down o hg (x := i) h1
        rw [vl_lt h2] at this
        exact this
    have := Nat.le_of_dvd (show 0 < cn by omega) (Nat.gcd_dvd_right p cn)
    omega
  · -- no lesser start
    by_cases z : invN T p r = 0
    · left
      omega
    right
    obtain ⟨y, hy⟩ : ∃ y, invN T p r = y + 1 := ⟨invN T p r - 1, by omega⟩
    have yb : (y : Int) = invB T p r := by
      unfold invN at hy
      omega
    have g : (invT T p r).getD y 0 = (lf T p r y : Int) := by
      rw [← vl_lt (p := r.toNat) (r := (p : Int)) (by omega), hv]
    rw [ln, hv, hy, show y + 1 + r.toNat - 1 = y + r.toNat by omega, show y + 1 + r.toNat - r.toNat - 1 = y by omega, g]
    intro e
    have e : lf T p r (y + r.toNat) = lf T p r y + p := by omega
    obtain ⟨a, b⟩ := lf_sp o r0 y
    obtain ⟨c, d⟩ := lf_sp o r0 (y + r.toNat)
    have wrap := o.wrap
    unfold invB at yb
    by_cases q : p < T.length
    · rw [if_pos q] at yb
      have st := s.start
      rcases st with w | w
      · omega
      rw [vl_lt (by omega)] at w
      rcases Int.lt_or_le (T.getD (T.length - 1) 0 - r) (T.getD (T.length - p - 1) 0) with h | h
      · -- the one before
        have l1 : lf T p r y ≤ T.length - p - 1 := by
          rw [lf_le o r0, vl_lt (by omega)]
          omega
        have l2 : T.length ≤ lf T p r (y + r.toNat) := by
          rcases Nat.lt_or_ge (lf T p r (y + r.toNat)) T.length with q2 | q2
          · have := o.le (show lf T p r (y + r.toNat) ≤ T.length - 1 by omega)
            rw [vl_lt (x := T.length - 1) (by omega)] at this
            omega
          · exact q2
        omega
      · -- the one behind
        have l1 : T.length - p ≤ lf T p r y := by
          rcases Nat.lt_or_ge (lf T p r y) (T.length - p) with q2 | q2
          · have := o.le (show lf T p r y ≤ T.length - p - 1 by omega)
            rw [vl_lt (x := T.length - p - 1) (by omega)] at this
            omega
          · exact q2
        have l2 : lf T p r (y + r.toNat) ≤ T.length - 1 := by
          rw [lf_le o r0, vl_lt (by omega)]
          omega
        omega
    · rw [if_neg q] at yb
      have l2 : lf T p r (y + r.toNat) ≤ T.length - 1 := by
        rw [lf_le o r0, vl_lt (by omega)]
        omega
      omega
end
end Sm

set_option linter.all false
set_option maxHeartbeats 4000000
namespace Sm
/-- a shortest tuple is no longer than any other of the same values -/
theorem short_len {T T2 : List Int} {p p2 : Nat} {r r2 : Int} (s : Short T p r) (o2 : RuleOk T2 p2 r2) (h : ∀ x, vl T p r x = vl T2 p2 r2 x) : T.length ≤ T2.length := by
  have o := s.ok
  have p0 := o.p0
  have p1 := o.p1
  have q0 := o2.p0
  have q1 := o2.p1
  have g := short_le s o2 h
  have hd : p ≤ p2 := Nat.le_of_dvd q0 (by
    have := Nat.gcd_dvd_right p p2
    rwa [g] at this)
  rcases Nat.lt_or_ge T2.length T.length with q | q
  · exfalso
    rcases s.start with e | e
    · omega
    · have far : ∀ x, T.length - p ≤ x → vl T2 p2 r2 (x + p) = vl T2 p2 r2 x + r := fun x hx => by
        rw [← h, ← h]
        exact vl_add p0 p1 hx
      by_cases z : p = T.length
      · omega
      · have := rep_down o2 far (x := T.length - p - 1) (by omega)
        rw [← h, ← h, show T.length - p - 1 + p = T.length - 1 by omega, vl_lt (x := T.length - p - 1) (by omega)] at this
        exact e this
  · exact q
section
variable {T T1 T2 Tc : List Int} {p p1 p2 pc : Nat} {r r1 r2 rc : Int}
/-- the inverse's inverse -/
theorem lf_inv (o : RuleOk T p r) (r0 : 0 < r) (x : Nat) : lf (invT T p r) r.toNat (p : Int) x = if x = 0 then 0 else (vl T p r (x - 1) + 1).toNat := by
  obtain ⟨oi, hv⟩ := inv_ok o r0
  have p0 : (0 : Int) < (p : Int) := by have := o.p0; omega
  have key : ∀ y, lf (invT T p r) r.toNat (p : Int) x ≤ y ↔ x ≤ lf T p r y := fun y => by
    rw [lf_le oi p0, hv]
    omega
  split
  · rename_i h
    have := (key 0).mpr (by omega)
    omega
  · rename_i h
    have n := o.pos (x - 1)
    have a : lf (invT T p r) r.toNat (p : Int) x ≤ (vl T p r (x - 1) + 1).toNat := by
      rw [key]
      rcases Nat.lt_or_ge (lf T p r (vl T p r (x - 1) + 1).toNat) x with q | q
      · have : lf T p r (vl T p r (x - 1) + 1).toNat ≤ x - 1 := by omega
        rw [lf_le o r0] at this
        omega
      · exact q
    have b : ¬ lf (invT T p r) r.toNat (p : Int) x ≤ (vl T p r (x - 1)).toNat := by
      rw [key]
      intro q
      have : lf T p r (vl T p r (x - 1)).toNat ≤ x - 1 := by
        rw [lf_le o r0]
        omega
      omega
    omega
/-- the inverse of one rule behind another -/
theorem lf_thn (o1 : RuleOk T1 p1 r1) (o2 : RuleOk T2 p2 r2) (oc : RuleOk Tc pc rc) (r10 : 0 < r1) (r20 : 0 < r2) (rc0 : 0 < rc) (hv : ∀ x, vl Tc pc rc x = thn T1 p1 r1 T2 p2 r2 x) (y : Nat) : lf Tc pc rc y = lf T1 p1 r1 (lf T2 p2 r2 y) := by
  have key : ∀ x, lf Tc pc rc y ≤ x ↔ lf T1 p1 r1 (lf T2 p2 r2 y) ≤ x := fun x => by
    have n := o1.pos x
    rw [lf_le oc rc0, hv, lf_le o1 r10]
    unfold thn
    rw [← lf_le o2 r20]
    omega
  have a := (key _).mp (Nat.le_refl _)
  have b := (key _).mpr (Nat.le_refl _)
  omega
theorem thn_rises (o1 : RuleOk T1 p1 r1) (o2 : RuleOk T2 p2 r2) (oc : RuleOk Tc pc rc) (r10 : 0 < r1) (r20 : 0 < r2) (hv : ∀ x, vl Tc pc rc x = thn T1 p1 r1 T2 p2 r2 x) : 0 < rc := by
  have rc0 := oc.r0
  by_cases z : rc = 0
  · exfalso
    obtain ⟨B, hB⟩ : ∃ B, B = T1.length + T2.length * p1 + Tc.length := ⟨_, rfl⟩
    have reach : ((T2.length - p2 : Nat) : Int) ≤ vl T1 p1 r1 B := by
      have a := vl_addk o1.p0 o1.p1 (r := r1) (x := T1.length) (by omega) T2.length
      have b := o1.le (show T1.length + T2.length * p1 ≤ B by omega)
      have c := o1.pos T1.length
      have d : (T2.length : Int) * 1 ≤ (T2.length : Int) * r1 := Int.mul_le_mul_of_nonneg_left (by omega) (by omega)
      omega
    have t := thn_turn (B := B) (a := p2) (b := r1.toNat) o1 o2 (by omega) (by rw [Int.toNat_of_nonneg (by omega), Int.mul_comm]) (.inr reach) B (Nat.le_refl _)
    have u := vl_addk oc.p0 oc.p1 (r := rc) (x := B) (by omega) (p2 * p1)
    have m : B + p2 * p1 ≤ B + p2 * p1 * pc := by
      have := Nat.le_mul_of_pos_right (p2 * p1) oc.p0
      omega
    have w := oc.le m
    rw [u, hv, hv, t] at w
    rw [z, Int.mul_zero, Int.add_zero] at w
    have : 0 < ((r1.toNat : Nat) : Int) * r2 := Int.mul_pos (by omega) r20
    omega
  · omega
/-- the rule behind its inverse, the inverse behind the rule -/
theorem over_ge (o : RuleOk T p r) (r0 : 0 < r) (y : Nat) : (y : Int) ≤ thn (invT T p r) r.toNat (p : Int) T p r y := by
  unfold thn
  rw [(inv_ok o r0).2, Int.toNat_natCast]
  exact (lf_sp o r0 y).1
theorem under_le (o : RuleOk T p r) (r0 : 0 < r) (x : Nat) : thn T p r (invT T p r) r.toNat (p : Int) x ≤ (x : Int) := by
  unfold thn
  rw [(inv_ok o r0).2]
  have n := o.pos x
  have : lf T p r (vl T p r x).toNat ≤ x := by
    rw [lf_le o r0]
    omega
  omega
theorem plain_vl (x : Nat) : vl [0] 1 1 x = (x : Int) := by
  unfold vl
  split
  · rename_i h
    simp at h
    rw [h]
    rfl
  · rename_i h
    simp at h
    rw [Nat.div_one, Nat.mul_one, List.length_singleton, show x - (x - 1 + 1) = 0 by omega, show x - 1 + 1 = x by omega, Int.mul_one]
    simp
theorem plain_short : Short [0] 1 1 := by
  refine ⟨⟨by decide, by decide, by decide, fun i hi => ?_, fun i hi => ?_, by decide⟩, fun s c h1 h2 => by omega, .inl rfl⟩
  · have hi : i < 1 := hi
    rw [show i = 0 by omega]
    decide
  · have hi : i + 1 < 1 := hi
    omega
/-- how long the tables are -/
theorem inv_over (s : Short Tc pc rc) (o : RuleOk T p r) (r0 : 0 < r) (hv : ∀ x, vl Tc pc rc x = thn (invT T p r) r.toNat (p : Int) T p r x) : Tc.length ≤ invN T p r + r.toNat := by
  obtain ⟨oi, hi⟩ := inv_ok o r0
  have bl := invB_lo o
  have t := thn_turn (B := invN T p r) (a := 1) (b := 1) oi o (by rw [invT_len]; omega) (by omega) (.inr (by
    rw [hi]
    have := inv_begin o (x := lf T p r (invN T p r)) (by have := (lf_sp o r0 (invN T p r)).1; unfold invN at *; omega)
    omega))
  have t : ∀ x, invN T p r ≤ x → thn (invT T p r) r.toNat (p : Int) T p r (x + r.toNat) = thn (invT T p r) r.toNat (p : Int) T p r x + r := fun x hx => by
    have := t x hx
    rw [Nat.one_mul] at this
    rw [this]
    omega
  have ok := tab_ok (f := thn (invT T p r) r.toNat (p : Int) T p r) (B := invN T p r) (t := r.toNat) (R := r) (by omega) (by omega) t (thn_pos o) (thn_up oi o)
  have := short_len s ok fun x => by rw [hv, tab_vl (f := thn (invT T p r) r.toNat (p : Int) T p r) (by omega) t]
  rwa [tab_len] at this
theorem inv_under (s : Short Tc pc rc) (o : RuleOk T p r) (r0 : 0 < r) (hv : ∀ x, vl Tc pc rc x = thn T p r (invT T p r) r.toNat (p : Int) x) : Tc.length ≤ T.length + p := by
  obtain ⟨oi, hi⟩ := inv_ok o r0
  have p0 := o.p0
  have p1 := o.p1
  have t := thn_turn (B := T.length) (a := 1) (b := 1) o oi (by omega) (by omega) (.inr (by
    rw [invT_len]
    have a := vl_add p0 p1 (r := r) (x := T.length - p) (Nat.le_refl _)
    rw [show T.length - p + p = T.length by omega] at a
    have a2 : vl T p r (T.length - p) = T.getD (T.length - p) 0 := vl_lt (by omega)
    have wrap := o.wrap
    have : invB T p r < vl T p r T.length := by
      unfold invB
      split
      · have := o.row (show T.length - p - 1 ≤ T.length - p by omega) (by omega)
        omega
      · have := o.pos T.length
        have g := o.nn (T.length - p) (by omega)
        omega
    have nn := o.pos T.length
    unfold invN
    omega))
  have t : ∀ x, T.length ≤ x → thn T p r (invT T p r) r.toNat (p : Int) (x + p) = thn T p r (invT T p r) r.toNat (p : Int) x + (p : Int) := fun x hx => by
    have := t x hx
    rw [Nat.one_mul] at this
    rw [this]
    omega
  have ok := tab_ok (f := thn T p r (invT T p r) r.toNat (p : Int)) (B := T.length) (t := p) (R := (p : Int)) p0 (by omega) t (thn_pos oi) (thn_up o oi)
  have := short_len s ok fun x => by rw [hv, tab_vl (f := thn T p r (invT T p r) r.toNat (p : Int)) p0 t]
  rwa [tab_len] at this
theorem thn_len (s : Short Tc pc rc) (o1 : RuleOk T1 p1 r1) (o2 : RuleOk T2 p2 r2) (r10 : 0 < r1) (hv : ∀ x, vl Tc pc rc x = thn T1 p1 r1 T2 p2 r2 x) : Tc.length ≤ T1.length + T2.length * p1 + p2 * p1 := by
  have reach : ((T2.length - p2 : Nat) : Int) ≤ vl T1 p1 r1 (T1.length + T2.length * p1) := by
    have a := vl_addk o1.p0 o1.p1 (r := r1) (x := T1.length) (by omega) T2.length
    have c := o1.pos T1.length
    have d : (T2.length : Int) * 1 ≤ (T2.length : Int) * r1 := Int.mul_le_mul_of_nonneg_left (by omega) (by omega)
    omega
  have t := thn_turn (B := T1.length + T2.length * p1) (a := p2) (b := r1.toNat) o1 o2 (by omega) (by rw [Int.toNat_of_nonneg (by omega), Int.mul_comm]) (.inr reach)
  have t0 : 0 < p2 * p1 := Nat.mul_pos o2.p0 o1.p0
  have R0 : 0 ≤ ((r1.toNat : Nat) : Int) * r2 := Int.mul_nonneg (by omega) o2.r0
  have ok := tab_ok (f := thn T1 p1 r1 T2 p2 r2) t0 R0 t (thn_pos o2) (thn_up o1 o2)
  have := short_len s ok fun x => by rw [hv, tab_vl (f := thn T1 p1 r1 T2 p2 r2) t0 t]
  rwa [tab_len] at this
theorem lf_small (o : RuleOk T p r) (r0 : 0 < r) (y : Nat) : lf T p r y ≤ T.length + y * p := by
  rw [lf_le o r0]
  have a := vl_addk o.p0 o.p1 (r := r) (x := T.length) (by omega) y
  have c := o.pos T.length
  have d : (y : Int) * 1 ≤ (y : Int) * r := Int.mul_le_mul_of_nonneg_left (by omega) (by omega)
  rw [a]
  omega
end
end Sm

set_option linter.all false
set_option maxHeartbeats 4000000
namespace Sm
/-! the best parting of an amount between two rules -/
def IsC (f g : Nat → Int) (n x : Nat) (v : Int) : Prop := (∃ a, a < n ∧ a ≤ x ∧ v = f a + g (x - a)) ∧ ∀ a, a < n → a ≤ x → f a + g (x - a) ≤ v
theorem IsC.one {f g : Nat → Int} {n x : Nat} {v w : Int} (h : IsC f g n x v) (k : IsC f g n x w) : v = w := by
  obtain ⟨⟨a, a1, a2, a3⟩, h2⟩ := h
  obtain ⟨⟨b, b1, b2, b3⟩, k2⟩ := k
  have := h2 b b1 b2
  have := k2 a a1 a2
  omega
theorem IsC.swap {f g : Nat → Int} {x : Nat} {v : Int} (h : IsC f g (x + 1) x v) : IsC g f (x + 1) x v := by
  obtain ⟨⟨a, a1, a2, a3⟩, h2⟩ := h
  refine ⟨⟨x - a, by omega, by omega, ?_⟩, fun b b1 b2 => ?_⟩
  · rw [show x - (x - a) = a by omega]
    omega
  · have := h2 (x - b) (by omega) (by omega)
    rw [show x - (x - b) = b by omega] at this
    omega
def cm (f g : Nat → Int) (x : Nat) : Nat → Int
  | 0 => f 0 + g x
  | k + 1 => if k + 1 ≤ x then max (cm f g x k) (f (k + 1) + g (x - (k + 1))) else cm f g x k
theorem cm_is (f g : Nat → Int) (x : Nat) : ∀ k, IsC f g (k + 1) x (cm f g x k)
  | 0 => ⟨⟨0, by omega, by omega, rfl⟩, fun a h1 h2 => by
      rw [show a = 0 by omega]
      exact Int.le_refl _⟩
  | k + 1 => by
    obtain ⟨⟨a, a1, a2, a3⟩, h2⟩ := cm_is f g x k
    unfold cm
    split
    · rename_i hk
      constructor
      · by_cases q : cm f g x k ≤ f (k + 1) + g (x - (k + 1))
        · exact ⟨k + 1, by omega, hk, by omega⟩
        · exact ⟨a, by omega, a2, by omega⟩
      · intro b b1 b2
        by_cases e : b = k + 1
        · subst e
          omega
        · have := h2 b (by omega) b2
          omega
    · rename_i hk
      refine ⟨⟨a, by omega, a2, a3⟩, fun b b1 b2 => h2 b (by omega) b2⟩
/-- what rises by r each p places from b on -/
structure Pd (f : Nat → Int) (b p : Nat) (r : Int) : Prop where
  p0 : 0 < p
  r0 : 0 ≤ r
  up : ∀ x, f x ≤ f (x + 1)
  nn : ∀ x, 0 ≤ f x
  turn : ∀ x, b ≤ x → f (x + p) = f x + r
theorem RuleOk.pd {T : List Int} {p : Nat} {r : Int} (o : RuleOk T p r) : Pd (vl T p r) (T.length - p) p r := ⟨o.p0, o.r0, o.up, o.pos, fun _ h => vl_add o.p0 o.p1 h⟩
section
variable {f g : Nat → Int} {b p c q : Nat} {r t : Int}
theorem Pd.le (h : Pd f b p r) : ∀ {x y}, x ≤ y → f x ≤ f y := by
  intro x y e
  obtain ⟨k, rfl⟩ := Nat.le.dest e
  clear e
  induction k with
  | zero => exact Int.le_refl _
  | succ k ih => exact Int.le_trans ih (h.up (x + k))
theorem Pd.turnk (h : Pd f b p r) {x : Nat} (hx : b ≤ x) : ∀ k, f (x + k * p) = f x + (k : Int) * r
  | 0 => by simp
  | k + 1 => by
    rw [Nat.succ_mul, ← Nat.add_assoc, h.turn _ (by omega), h.turnk hx k]
    rw [show ((k + 1 : Nat) : Int) = (k : Int) + 1 from rfl, Int.add_mul, Int.one_mul]
    omega
theorem cm_up (hg : Pd g c q t) (x k : Nat) : cm f g x k ≤ cm f g (x + 1) k := by
  obtain ⟨⟨a, a1, a2, a3⟩, _⟩ := cm_is f g x k
  have := (cm_is f g (x + 1) k).2 a a1 (by omega)
  have u := hg.le (show x - a ≤ x + 1 - a by omega)
  omega
theorem cm_pos (hf : ∀ x, 0 ≤ f x) (hg : ∀ x, 0 ≤ g x) (x k : Nat) : 0 ≤ cm f g x k := by
  have := (cm_is f g x k).2 0 (by omega) (by omega)
  have := hf 0
  have := hg (x - 0)
  omega
theorem cm_turn (hg : Pd g c q t) {x k : Nat} (hx : k + c ≤ x) : cm f g (x + q) k = cm f g x k + t := by
  obtain ⟨⟨a, a1, a2, a3⟩, h⟩ := cm_is f g x k
  obtain ⟨⟨d, d1, d2, d3⟩, e⟩ := cm_is f g (x + q) k
  have h1 := h d d1 (by omega)
  have h2 := e a a1 (by omega)
  rw [show x + q - a = x - a + q by omega, hg.turn _ (by omega)] at h2
  rw [show x + q - d = x - d + q by omega, hg.turn _ (by omega)] at d3
  omega
theorem cm_pd (hf : Pd f b p r) (hg : Pd g c q t) (k : Nat) : Pd (fun x => cm f g x k) (k + c) q t := ⟨hg.p0, hg.r0, fun x => cm_up hg x k, fun x => cm_pos hf.nn hg.nn x k, fun _ hx => cm_turn hg hx⟩
end
section
variable {f s : Nat → Int} {bf pf bs ps : Nat} {rf rs : Int}
/-- the common turn: its rises -/
theorem turns {L : Nat} (hf : Pd f bf pf rf) (hs : Pd s bs ps rs) (h1 : pf ∣ L) (h2 : ps ∣ L) (sl : rf * (ps : Int) ≤ rs * (pf : Int)) : ∃ F S : Int, F ≤ S ∧ (∀ x, bf ≤ x → f (x + L) = f x + F) ∧ ∀ x, bs ≤ x → s (x + L) = s x + S := by
  obtain ⟨kf, e1⟩ := h1
  obtain ⟨ks, e2⟩ := h2
  refine ⟨(kf : Int) * rf, (ks : Int) * rs, ?_, fun x hx => ?_, fun x hx => ?_⟩
  · have p0 := hs.p0
    have a : (kf : Int) * rf * (ps : Int) ≤ (ks : Int) * rs * (ps : Int) := by
      have h : (kf : Int) * (rf * (ps : Int)) ≤ (kf : Int) * (rs * (pf : Int)) := Int.mul_le_mul_of_nonneg_left sl (by omega)
      have e : (kf : Int) * (rs * (pf : Int)) = (ks : Int) * rs * (ps : Int) := by
        have e3 : (kf : Int) * (pf : Int) = (ks : Int) * (ps : Int) := by
          have : kf * pf = ks * ps := by rw [Nat.mul_comm, ← e1, e2, Nat.mul_comm]
          exact_mod_cast this
        rw [Int.mul_left_comm, e3, Int.mul_left_comm, Int.mul_assoc]
      rw [Int.mul_assoc, ← e]
      exact h
    exact Int.le_of_mul_le_mul_right a (by omega)
  · rw [e1, Nat.mul_comm]
    exact hf.turnk hx kf
  · rw [e2, Nat.mul_comm]
    exact hs.turnk hx ks
/-- the flat part, where the steep one is in its turns -/
theorem flat_part {L : Nat} (L0 : 0 < L) {F S : Int} (FS : F ≤ S) (hf : ∀ x, bf ≤ x → f (x + L) = f x + F) (hs : ∀ x, bs ≤ x → s (x + L) = s x + S) (x : Nat) : ∀ a, a ≤ x → bs ≤ x - a → f a + s (x - a) ≤ cm f s x (bf + L - 1) := by
  intro a
  induction a using Nat.strongRecOn with
  | _ a ih =>
    intro ha hb
    by_cases q : a < bf + L
    · exact (cm_is f s x (bf + L - 1)).2 a (by omega) ha
    · have := ih (a - L) (by omega) (by omega) (by omega)
      have e1 := hf (a - L) (by omega)
      have e2 := hs (x - a) hb
      rw [show a - L + L = a by omega] at e1
      rw [show x - a + L = x - (a - L) by omega] at e2
      omega
theorem split_all {L : Nat} (L0 : 0 < L) {F S : Int} (FS : F ≤ S) (hf : ∀ x, bf ≤ x → f (x + L) = f x + F) (hs : ∀ x, bs ≤ x → s (x + L) = s x + S) (z : bs = 0) (x : Nat) : IsC f s (x + 1) x (cm f s x (bf + L - 1)) := by
  obtain ⟨⟨a, a1, a2, a3⟩, _⟩ := cm_is f s x (bf + L - 1)
  exact ⟨⟨a, by omega, a2, a3⟩, fun b _ b2 => flat_part L0 FS hf hs x b b2 (by omega)⟩
theorem split_both {L : Nat} (L0 : 0 < L) {F S : Int} (FS : F ≤ S) (hf : ∀ x, bf ≤ x → f (x + L) = f x + F) (hs : ∀ x, bs ≤ x → s (x + L) = s x + S) (z : 0 < bs) (x : Nat) : IsC f s (x + 1) x (max (cm s f x (bs - 1)) (cm f s x (bf + L - 1))) := by
  obtain ⟨⟨a, a1, a2, a3⟩, _⟩ := cm_is f s x (bf + L - 1)
  obtain ⟨⟨c, c1, c2, c3⟩, h⟩ := cm_is s f x (bs - 1)
  constructor
  · by_cases q : cm s f x (bs - 1) ≤ cm f s x (bf + L - 1)
    · exact ⟨a, by omega, a2, by omega⟩
    · exact ⟨x - c, by omega, by omega, by rw [show x - (x - c) = c by omega]; omega⟩
  · intro b _ b2
    by_cases q : bs ≤ x - b
    · have := flat_part L0 FS hf hs x b b2 q
      omega
    · have := h (x - b) (by omega) (by omega)
      rw [show x - (x - b) = b by omega] at this
      omega
/-- far off the steep one is in its turns -/
theorem split_far {L : Nat} (hf : Pd f bf pf rf) (hs : Pd s bs ps rs) (L0 : 0 < L) (h1 : pf ∣ L) (h2 : ps ∣ L) (sl : rf * (ps : Int) < rs * (pf : Int)) (z : 0 < bs) {S X : Nat} (hS : (S : Int) = rs * (pf : Int)) (hX : bs + bf + (bs + ps * pf) * S ≤ X) : cm s f X (bs - 1) ≤ cm f s X (bf + L - 1) := by
  obtain ⟨F', S', FS, tf, ts⟩ := turns hf hs h1 h2 (by omega)
  obtain ⟨⟨a, a1, a2, a3⟩, _⟩ := cm_is s f X (bs - 1)
  have pp : 0 < ps * pf := Nat.mul_pos hs.p0 hf.p0
  obtain ⟨P, hP⟩ : ∃ P, P = ps * pf := ⟨_, rfl⟩
  rw [← hP] at pp hX
  obtain ⟨m, hm⟩ : ∃ m, m = (bs - 1) / P + 1 := ⟨_, rfl⟩
  have m1 : bs ≤ m * P := by
    have := Nat.div_add_mod (bs - 1) P
    have := Nat.mod_lt (bs - 1) pp
    rw [hm, Nat.add_mul, Nat.one_mul, Nat.mul_comm]
    omega
  have m2 : m * P ≤ bs + P := by
    have := Nat.div_mul_le_self (bs - 1) P
    rw [hm, Nat.add_mul, Nat.one_mul]
    omega
  have S0 : 0 < S := by
    have r0 := hf.r0
    have : 0 ≤ rf * (ps : Int) := Int.mul_nonneg r0 (by omega)
    omega
  have km : m ≤ m * S := Nat.le_mul_of_pos_right m S0
  have kP : m * S * P ≤ (bs + P) * S := by
    rw [Nat.mul_right_comm]
    exact Nat.mul_le_mul_right S m2
  have kP2 : m * P ≤ m * S * P := Nat.mul_le_mul_right P km
  -- the flat part's fall
  have e1 : f (X - a - m * S * P + m * S * P) = f (X - a - m * S * P) + ((m * S * ps : Nat) : Int) * rf := by
    have := hf.turnk (x := X - a - m * S * P) (by omega) (m * S * ps)
    rw [Nat.mul_assoc (m * S) ps pf, ← hP] at this
    exact this
  -- the steep part's rise
  have e2 : s (a + m * P + (m * S - m) * P) = s (a + m * P) + (((m * S - m) * pf : Nat) : Int) * rs := by
    have := hs.turnk (x := a + m * P) (by omega) ((m * S - m) * pf)
    rw [Nat.mul_assoc (m * S - m) pf ps, Nat.mul_comm pf ps, ← hP] at this
    exact this
  have e3 : a + m * P + (m * S - m) * P = X - (X - a - m * S * P) := by
    rw [Nat.sub_mul]
    omega
  have e4 := hs.le (show a ≤ a + m * P by omega)
  have e5 := flat_part L0 FS tf ts X (X - a - m * S * P) (by omega) (by omega)
  rw [e3] at e2
  rw [show X - a - m * S * P + m * S * P = X - a by omega] at e1
  -- k (S - F) ≥ m S
  have e6 : ((m * S * ps : Nat) : Int) * rf ≤ (((m * S - m) * pf : Nat) : Int) * rs := by
    have i1 : ((m * S * ps : Nat) : Int) * rf = (m : Int) * (S : Int) * (rf * (ps : Int)) := by
      rw [Int.natCast_mul, Int.natCast_mul, Int.mul_assoc, Int.mul_comm (ps : Int) rf]
    have i2 : (((m * S - m) * pf : Nat) : Int) * rs = ((m : Int) * (S : Int) - (m : Int)) * (S : Int) := by
      rw [Int.natCast_mul, Int.natCast_sub km, Int.natCast_mul, Int.mul_assoc, Int.mul_comm (pf : Int) rs, ← hS]
    rw [i1, i2, Int.sub_mul]
    have i3 : (m : Int) * (S : Int) * (rf * (ps : Int)) ≤ (m : Int) * (S : Int) * ((S : Int) - 1) := Int.mul_le_mul_of_nonneg_left (by omega) (Int.mul_nonneg (by omega) (by omega))
    rw [Int.mul_sub, Int.mul_one] at i3
    exact i3
  omega
/-- the rule of the best partings, and how long it is -/
theorem split_is {L : Nat} (hf : Pd f bf pf rf) (hs : Pd s bs ps rs) (L0 : 0 < L) (h1 : pf ∣ L) (h2 : ps ∣ L) (sl : rf * (ps : Int) ≤ rs * (pf : Int)) (z : 0 < bs) : ∃ T p r, Short T p r ∧ (∀ x, vl T p r x = max (cm s f x (bs - 1)) (cm f s x (bf + L - 1))) ∧ T.length ≤ 2 * bs + 2 * bf + L + ps * pf + ps + (bs + ps * pf) * (rs * (pf : Int)).toNat := by
  have m1 : Pd (fun x => cm f s x (bf + L - 1)) (bf + L - 1 + bs) ps rs := cm_pd hf hs (bf + L - 1)
  have m2 : Pd (fun x => cm s f x (bs - 1)) (bs - 1 + bf) pf rf := cm_pd hs hf (bs - 1)
  have up : ∀ x, max (cm s f x (bs - 1)) (cm f s x (bf + L - 1)) ≤ max (cm s f (x + 1) (bs - 1)) (cm f s (x + 1) (bf + L - 1)) := fun x => by
    have := m1.up x
    have := m2.up x
    omega
  have nn : ∀ x, 0 ≤ max (cm s f x (bs - 1)) (cm f s x (bf + L - 1)) := fun x => by
    have := m1.nn x
    omega
  have fin : ∀ (B t : Nat) (R : Int), 0 < t → 0 ≤ R → (∀ x, B ≤ x → max (cm s f (x + t) (bs - 1)) (cm f s (x + t) (bf + L - 1)) = max (cm s f x (bs - 1)) (cm f s x (bf + L - 1)) + R) → ∃ T p r, Short T p r ∧ (∀ x, vl T p r x = max (cm s f x (bs - 1)) (cm f s x (bf + L - 1))) ∧ T.length ≤ B + t := fun B t R t0 R0 turn => by
    have o := tab_ok (f := fun x => max (cm s f x (bs - 1)) (cm f s x (bf + L - 1))) t0 R0 turn nn up
    obtain ⟨T, p, r, sh, e⟩ := short_is o
    have l := short_len sh o e
    rw [tab_len] at l
    exact ⟨T, p, r, sh, fun x => by rw [e, tab_vl (f := fun x => max (cm s f x (bs - 1)) (cm f s x (bf + L - 1))) t0 turn], l⟩
  by_cases q : rf * (ps : Int) < rs * (pf : Int)
  · have S0 : 0 ≤ rf * (ps : Int) := Int.mul_nonneg hf.r0 (by omega)
    obtain ⟨X, hX⟩ : ∃ X, X = bs + bf + (bs + ps * pf) * (rs * (pf : Int)).toNat := ⟨_, rfl⟩
    obtain ⟨T, p, r, sh, e, l⟩ := fin (X + (bf + L - 1 + bs)) ps rs hs.p0 hs.r0 fun x hx => by
      have a := split_far hf hs L0 h1 h2 q z (S := (rs * (pf : Int)).toNat) (X := x) (by omega) (by omega)
      have b := split_far hf hs L0 h1 h2 q z (S := (rs * (pf : Int)).toNat) (X := x + ps) (by omega) (by omega)
      have c := m1.turn x (by omega)
      omega
    exact ⟨T, p, r, sh, e, by omega⟩
  · have e0 : rf * (ps : Int) = rs * (pf : Int) := by omega
    obtain ⟨T, p, r, sh, e, l⟩ := fin (bf + L - 1 + bs + (bs - 1 + bf)) (ps * pf) (rs * (pf : Int)) (Nat.mul_pos hs.p0 hf.p0) (Int.mul_nonneg hs.r0 (by omega)) fun x hx => by
      have a := m1.turnk (x := x) (by omega) pf
      have b := m2.turnk (x := x) (by omega) ps
      rw [Nat.mul_comm, Int.mul_comm] at a
      rw [Int.mul_comm, e0] at b
      omega
    exact ⟨T, p, r, sh, e, by omega⟩
end
/-- slopes of rules of the same values -/
theorem slope_eq {T T' : List Int} {p p' : Nat} {r r' : Int} (o : RuleOk T p r) (o' : RuleOk T' p' r') (hv : ∀ x, vl T' p' r' x = vl T p r x) : r' * (p : Int) = r * (p' : Int) := by
  have e1 := vl_addk o'.p0 o'.p1 (r := r') (x := T.length + T'.length) (by omega) p
  have e2 := vl_addk o.p0 o.p1 (r := r) (x := T.length + T'.length) (by omega) p'
  rw [hv, hv, Nat.mul_comm, e2] at e1
  rw [Int.mul_comm, Int.mul_comm r]
  omega
theorem slope_le {p p' : Nat} {r r' C : Int} (p0 : 0 < p) (e : r' * (p : Int) = r * (p' : Int)) (h : r ≤ C * (p : Int)) : r' ≤ C * (p' : Int) := by
  have a : r * (p' : Int) ≤ C * (p : Int) * (p' : Int) := Int.mul_le_mul_of_nonneg_right h (by omega)
  rw [← e, Int.mul_right_comm] at a
  exact Int.le_of_mul_le_mul_right a (by omega)
/-- a shortest tuple's turns begin no later -/
theorem begin_le {T T' : List Int} {p p' : Nat} {r r' : Int} (s : Short T' p' r') (o : RuleOk T p r) (hv : ∀ x, vl T' p' r' x = vl T p r x) : T'.length - p' ≤ T.length - p := by
  have o' := s.ok
  rcases Nat.lt_or_ge (T.length - p) (T'.length - p') with q | q
  · exfalso
    rcases s.start with e | e
    · omega
    · have p0 := o'.p0
      have p1 := o'.p1
      have far : ∀ x, T'.length - p' ≤ x → vl T p r (x + p') = vl T p r x + r' := fun x hx => by
        rw [← hv, ← hv]
        exact vl_add p0 p1 hx
      have := rep_down o far (x := T'.length - p' - 1) (by omega)
      rw [← hv, ← hv, show T'.length - p' - 1 + p' = T'.length - 1 by omega, vl_lt (x := T'.length - p' - 1) (by omega)] at this
      exact e this
  · exact q
end Sm

set_option linter.all false
set_option maxHeartbeats 4000000
namespace Sm
/-! a fee, parted with a plain rule -/
theorem rep_at {n i : Nat} {c : Int} (h : i < n) : (List.replicate n c).getD i 0 = c := by
  rw [List.getD_eq_getElem?_getD, List.getElem?_replicate, if_pos h]
  rfl
theorem fee_vl {size : Nat} {much : Int} (s0 : 0 < size) (x : Nat) : vl (List.replicate size 0) 1 much x = if x < size then 0 else (((x - size + 1 : Nat) : Int)) * much := by
  unfold vl
  rw [List.length_replicate]
  split
  · rename_i h
    exact rep_at h
  · rename_i h
    rw [Nat.div_one, Nat.mul_one, show x - (x - size + 1) = size - 1 by omega, rep_at (by omega), Int.zero_add]
theorem line_vl {m : Int} (x : Nat) : vl [0] 1 m x = (x : Int) * m := by
  have := fee_vl (size := 1) (much := m) (by decide) x
  rw [show List.replicate 1 (0 : Int) = [0] from rfl] at this
  rw [this]
  split
  · rename_i h
    rw [show x = 0 by omega]
    simp
  · rename_i h
    rw [show x - 1 + 1 = x by omega]
theorem fee_is {size : Nat} {much m : Int} (s0 : 0 < size) (m0 : 0 ≤ m) (m1 : m ≤ much) (x : Nat) : IsC (vl (List.replicate size 0) 1 much) (vl [0] 1 m) (x + 1) x (max ((x : Int) * m) (((x : Int) - (size : Int) + 1) * much)) := by
  constructor
  · by_cases h : ((x : Int) - (size : Int) + 1) * much ≤ (x : Int) * m
    · refine ⟨0, by omega, by omega, ?_⟩
      rw [fee_vl s0, line_vl, if_pos s0, Nat.sub_zero]
      omega
    · have hx : ¬ x < size := fun q => by
        have a : ((x : Int) - (size : Int) + 1) * much ≤ 0 := Int.mul_nonpos_of_nonpos_of_nonneg (by omega) (by omega)
        have b : 0 ≤ (x : Int) * m := Int.mul_nonneg (by omega) m0
        omega
      refine ⟨x, by omega, Nat.le_refl _, ?_⟩
      rw [fee_vl s0, line_vl, if_neg hx, Nat.sub_self, show ((x - size + 1 : Nat) : Int) = (x : Int) - (size : Int) + 1 by omega]
      simp only [Int.natCast_zero, Int.zero_mul, Int.add_zero]
      omega
  · intro a a1 a2
    rw [fee_vl s0, line_vl]
    have e : ((x - a : Nat) : Int) = (x : Int) - (a : Int) := by omega
    split
    · have : ((x - a : Nat) : Int) * m ≤ (x : Int) * m := Int.mul_le_mul_of_nonneg_right (by omega) m0
      omega
    · have b : ((x - a : Nat) : Int) * m ≤ ((x - a : Nat) : Int) * much := Int.mul_le_mul_of_nonneg_left m1 (by omega)
      have c : ((a - size + 1 : Nat) : Int) * much + ((x - a : Nat) : Int) * much = ((x : Int) - (size : Int) + 1) * much := by
        rw [← Int.add_mul]
        congr 1
        omega
      omega
/-- where the fee is worth while -/
def feeT (size last : Nat) (m much : Int) : List Int := (List.range (last + 1)).map (fun x : Nat => m * (x : Int)) ++ [much * ((last : Int) + 2 - (size : Int))]
theorem feeT_len {size last : Nat} {m much : Int} : (feeT size last m much).length = last + 2 := by
  unfold feeT
  rw [List.length_append, List.length_map, List.length_range]
  rfl
theorem feeT_at {size last i : Nat} {m much : Int} (h : i < last + 2) : (feeT size last m much).getD i 0 = if i ≤ last then m * (i : Int) else much * ((last : Int) + 2 - (size : Int)) := by
  unfold feeT
  rw [List.getD_eq_getElem?_getD, List.getElem?_append, List.length_map, List.length_range]
  split
  · rename_i q
    rw [if_pos (by omega), List.getElem?_map, List.getElem?_range q]
    rfl
  · rename_i q
    rw [if_neg (by omega), show i - (last + 1) = 0 by omega]
    rfl
theorem fee_tab {size last : Nat} {m much less : Int} (s1 : 2 ≤ size) (l0 : 0 < less) (m0 : 0 ≤ m) (e : much = m + less) (h1 : less * (last : Int) < much * ((size : Int) - 1)) (h2 : much * ((size : Int) - 1) ≤ less * ((last : Int) + 1)) (l1 : 1 ≤ last) :
    Short (feeT size last m much) 1 much ∧ ∀ x, vl (feeT size last m much) 1 much x = max ((x : Int) * m) (((x : Int) - (size : Int) + 1) * much) := by
  have much0 : 0 ≤ much := by omega
  have lin : ∀ x : Nat, ((x : Int) - (size : Int) + 1) * much = (x : Int) * m + (less * (x : Int) - much * ((size : Int) - 1)) := fun x => by
    have a : ((x : Int) - (size : Int) + 1) * much = (x : Int) * much - much * ((size : Int) - 1) := by
      rw [show (x : Int) - (size : Int) + 1 = (x : Int) - ((size : Int) - 1) by omega, Int.sub_mul, Int.mul_comm ((size : Int) - 1)]
    rw [a, e, Int.mul_add, Int.mul_comm (x : Int) less]
    omega
  have val : ∀ x : Nat, vl (feeT size last m much) 1 much x = if x ≤ last then (x : Int) * m else ((x : Int) - (size : Int) + 1) * much := fun x => by
    unfold vl
    rw [feeT_len, Nat.div_one, Nat.mul_one]
    split
    · rename_i q
      rw [feeT_at q]
      split
      · rw [Int.mul_comm]
      · rw [show x = last + 1 by omega, Int.mul_comm]
        congr 1
        omega
    · rename_i q
      rw [show x - (x - (last + 2) + 1) = last + 1 by omega, feeT_at (by omega), if_neg (by omega), if_neg (by omega), Int.mul_comm much, ← Int.add_mul]
      congr 1
      omega
  have far : ∀ x : Nat, last < x → 0 ≤ less * (x : Int) - much * ((size : Int) - 1) := fun x hx => by
    have : less * ((last : Int) + 1) ≤ less * (x : Int) := Int.mul_le_mul_of_nonneg_left (by omega) (by omega)
    omega
  have near : ∀ x : Nat, x ≤ last → less * (x : Int) - much * ((size : Int) - 1) < 0 := fun x hx => by
    have : less * (x : Int) ≤ less * (last : Int) := Int.mul_le_mul_of_nonneg_left (by omega) (by omega)
    omega
  have hv : ∀ x, vl (feeT size last m much) 1 much x = max ((x : Int) * m) (((x : Int) - (size : Int) + 1) * much) := fun x => by
    rw [val]
    have l := lin x
    split
    · rename_i q
      have := near x q
      omega
    · rename_i q
      have := far x (by omega)
      omega
  have up : ∀ x : Nat, max ((x : Int) * m) (((x : Int) - (size : Int) + 1) * much) ≤ max (((x + 1 : Nat) : Int) * m) ((((x + 1 : Nat) : Int) - (size : Int) + 1) * much) := fun x => by
    have a : (x : Int) * m ≤ ((x + 1 : Nat) : Int) * m := Int.mul_le_mul_of_nonneg_right (by omega) m0
    have b : ((x : Int) - (size : Int) + 1) * much ≤ (((x + 1 : Nat) : Int) - (size : Int) + 1) * much := Int.mul_le_mul_of_nonneg_right (by omega) much0
    omega
  have at_ : ∀ i, i < last + 2 → (feeT size last m much).getD i 0 = max ((i : Int) * m) (((i : Int) - (size : Int) + 1) * much) := fun i hi => by
    rw [← hv, vl_lt (by rw [feeT_len]; exact hi)]
  have ok : RuleOk (feeT size last m much) 1 much := by
    refine ⟨by decide, by rw [feeT_len]; omega, much0, fun i hi => ?_, fun i hi => ?_, by omega⟩
    · rw [feeT_len] at hi
      rw [at_ i hi]
      have : 0 ≤ (i : Int) * m := Int.mul_nonneg (by omega) m0
      omega
    · rw [feeT_len] at hi
      rw [at_ i (by omega), at_ (i + 1) hi]
      exact up i
  refine ⟨⟨ok, fun s c s0 s1 => by omega, .inr ?_⟩, hv⟩
  rw [feeT_len, show last + 2 - 1 = last + 1 by omega, show last + 1 - 1 = last by omega, val, if_neg (by omega), feeT_at (by omega), if_pos (Nat.le_refl _)]
  have a := lin last
  have b := near last (Nat.le_refl _)
  have c : (((last + 1 : Nat) : Int) - (size : Int) + 1) * much = ((last : Int) - (size : Int) + 1) * much + much := by
    rw [show ((last + 1 : Nat) : Int) - (size : Int) + 1 = ((last : Int) - (size : Int) + 1) + 1 by omega, Int.add_mul, Int.one_mul]
  rw [c, Int.mul_comm m]
  omega
/-! two stairs of coprime steps -/
/-- x is a sum of p's and q's -/
def Sg (p q x : Nat) : Prop := ∃ i j, x = i * p + j * q
theorem sg_step {p q x : Nat} (h : 0 < x) : Sg p q x ↔ (p ≤ x ∧ Sg p q (x - p)) ∨ (q ≤ x ∧ Sg p q (x - q)) := by
  constructor
  · rintro ⟨i, j, e⟩
    cases i with
    | zero =>
      cases j with
      | zero => simp at e; omega
      | succ j =>
        rw [Nat.succ_mul, Nat.zero_mul, Nat.zero_add] at e
        exact .inr ⟨by omega, 0, j, by rw [Nat.zero_mul]; omega⟩
    | succ i =>
      rw [Nat.succ_mul] at e
      exact .inl ⟨by omega, i, j, by omega⟩
  · rintro (⟨h, i, j, e⟩ | ⟨h, i, j, e⟩)
    · exact ⟨i + 1, j, by rw [Nat.succ_mul]; omega⟩
    · exact ⟨i, j + 1, by rw [Nat.succ_mul]; omega⟩
theorem stair_vl {p x : Nat} (p0 : 0 < p) : vl (List.replicate p 0) p (p : Int) x = ((x / p * p : Nat) : Int) := by
  unfold vl
  rw [List.length_replicate]
  split
  · rename_i h
    rw [rep_at h, Nat.div_eq_of_lt h, Nat.zero_mul]
    rfl
  · rename_i h
    have e : (x - p) / p + 1 = x / p := (Nat.div_eq_sub_div p0 (by omega)).symm
    rw [e]
    have m := Nat.div_add_mod x p
    have l := Nat.mod_lt x p0
    rw [show x - x / p * p = x % p by rw [Nat.mul_comm]; omega, rep_at l, Int.zero_add, Int.natCast_mul]
theorem stairs_is {p q x : Nat} (p0 : 0 < p) (q0 : 0 < q) {v : Nat} (h1 : Sg p q v) (h2 : v ≤ x) (h3 : ∀ s, Sg p q s → s ≤ x → s ≤ v) : IsC (vl (List.replicate p 0) p (p : Int)) (vl (List.replicate q 0) q (q : Int)) (x + 1) x (v : Int) := by
  have up : ∀ a, a ≤ x → a / p * p + (x - a) / q * q ≤ v := fun a ha => by
    refine h3 _ ⟨_, _, rfl⟩ ?_
    have m := Nat.div_mul_le_self a p
    have n := Nat.div_mul_le_self (x - a) q
    omega
  constructor
  · obtain ⟨i, j, e⟩ := h1
    have hip : i * p ≤ x := by omega
    refine ⟨i * p, by omega, hip, ?_⟩
    rw [stair_vl p0, stair_vl q0, Nat.mul_div_cancel _ p0]
    have a : j ≤ (x - i * p) / q := by
      rw [Nat.le_div_iff_mul_le q0]
      omega
    have b : j * q ≤ (x - i * p) / q * q := Nat.mul_le_mul_right q a
    have c := up (i * p) hip
    rw [Nat.mul_div_cancel _ p0] at c
    omega
  · intro a a1 a2
    rw [stair_vl p0, stair_vl q0]
    have := up a a2
    omega
/-- p and q without a common part: a times p leaves what is asked -/
theorem bez40 : ∀ p, p < 41 → ∀ q, q < 41 → 0 < q → Nat.gcd p q = 1 → ∃ a, a < q ∧ (a * p) % q = 1 % q := by decide +kernel
theorem bez {p q : Nat} (hp : p < 41) (hq : q < 41) (q0 : 0 < q) (h : Nat.gcd p q = 1) (n : Nat) : ∃ a, a < q ∧ (a * p) % q = n % q := by
  obtain ⟨a, a1, a2⟩ := bez40 p hp q hq q0 h
  refine ⟨a * n % q, Nat.mod_lt _ q0, ?_⟩
  rw [Nat.mod_mul_mod, Nat.mul_right_comm, ← Nat.mod_mul_mod, a2, Nat.mod_mul_mod, Nat.one_mul]
theorem sg_far {p q n : Nat} (hp : p < 41) (hq : q < 41) (p0 : 0 < p) (q0 : 0 < q) (h : Nat.gcd p q = 1) (hn : (p - 1) * (q - 1) ≤ n) : Sg p q n := by
  obtain ⟨a, a1, a2⟩ := bez hp hq q0 h n
  have e : (p - 1) * (q - 1) + (p - 1) = (p - 1) * q := by
    rw [← Nat.mul_succ]
    congr 1
    omega
  have e2 : (p - 1) * q + q = p * q := by
    rw [← Nat.succ_mul]
    congr 1
    omega
  have e3 : a * p + p ≤ q * p := by
    rw [← Nat.succ_mul]
    exact Nat.mul_le_mul_right p a1
  rw [Nat.mul_comm q p] at e3
  have d1 := Nat.div_add_mod (a * p) q
  have d2 := Nat.div_add_mod n q
  -- n's part of q is at least a p's
  have le : a * p / q ≤ n / q := by
    rcases Nat.lt_or_ge (n / q) (a * p / q) with w | w
    · exfalso
      have : q * (n / q) + q ≤ q * (a * p / q) := by
        rw [← Nat.mul_succ]
        exact Nat.mul_le_mul_left q w
      omega
    · exact w
  refine ⟨a, n / q - a * p / q, ?_⟩
  have m : q * (a * p / q) ≤ q * (n / q) := Nat.mul_le_mul_left q le
  rw [Nat.sub_mul, Nat.mul_comm (n / q), Nat.mul_comm (a * p / q)]
  omega
theorem sg_not {p q : Nat} (p1 : 1 < p) (q1 : 1 < q) (h : Nat.gcd p q = 1) : ¬ Sg p q ((p - 1) * (q - 1) - 1) := by
  rintro ⟨i, j, e⟩
  have f1 : (p - 1) * (q - 1) + (p - 1) = (p - 1) * q := by
    rw [← Nat.mul_succ]
    congr 1
    omega
  have f2 : (p - 1) * q + q = p * q := by
    rw [← Nat.succ_mul]
    congr 1
    omega
  have f3 : 0 < (p - 1) * (q - 1) := Nat.mul_pos (by omega) (by omega)
  have all : (i + 1) * p + (j + 1) * q = p * q := by
    rw [Nat.succ_mul, Nat.succ_mul]
    omega
  have dq : q ∣ (i + 1) * p := by
    have d : q ∣ (i + 1) * p + (j + 1) * q := by
      rw [all]
      exact Nat.dvd_mul_left q p
    exact (Nat.dvd_add_left (Nat.dvd_mul_left q (j + 1))).mp d
  have dp : p ∣ (j + 1) * q := by
    have d : p ∣ (i + 1) * p + (j + 1) * q := by
      rw [all]
      exact Nat.dvd_mul_right p q
    exact (Nat.dvd_add_right (Nat.dvd_mul_left p (i + 1))).mp d
  have gi : q ∣ i + 1 := Nat.Coprime.dvd_of_dvd_mul_right (Nat.Coprime.symm h) dq
  have gj : p ∣ j + 1 := Nat.Coprime.dvd_of_dvd_mul_right h dp
  have li : q ≤ i + 1 := Nat.le_of_dvd (by omega) gi
  have lj : p ≤ j + 1 := Nat.le_of_dvd (by omega) gj
  have m1 : q * p ≤ (i + 1) * p := Nat.mul_le_mul_right p li
  have m2 : p * q ≤ (j + 1) * q := Nat.mul_le_mul_right q lj
  have z : 0 < p * q := Nat.mul_pos (by omega) (by omega)
  rw [Nat.mul_comm q p] at m1
  omega
end Sm

set_option linter.all false
set_option maxHeartbeats 4000000
namespace Sm
theorem split_any {f s : Nat → Int} {bf bs L N1 N2 : Nat} (L0 : 0 < L) {F S : Int} (FS : F ≤ S) (hf : ∀ x, bf ≤ x → f (x + L) = f x + F) (hs : ∀ x, bs ≤ x → s (x + L) = s x + S) (h1 : bf + L - 1 ≤ N1) (h2 : bs ≤ N2 + 1) (x : Nat) : IsC f s (x + 1) x (max (cm f s x N1) (cm s f x N2)) := by
  obtain ⟨⟨a, a1, a2, a3⟩, up1⟩ := cm_is f s x N1
  obtain ⟨⟨c, c1, c2, c3⟩, up2⟩ := cm_is s f x N2
  constructor
  · by_cases q : cm s f x N2 ≤ cm f s x N1
    · exact ⟨a, by omega, a2, by omega⟩
    · exact ⟨x - c, by omega, by omega, by rw [show x - (x - c) = c by omega]; omega⟩
  · intro b _ b2
    by_cases q : bs ≤ x - b
    · have k := flat_part L0 FS hf hs x b b2 q
      obtain ⟨⟨d, d1, d2, d3⟩, _⟩ := cm_is f s x (bf + L - 1)
      have := up1 d (by omega) d2
      omega
    · have := up2 (x - b) (by omega) (by omega)
      rw [show x - (x - b) = b by omega] at this
      omega
end Sm

set_option linter.all false
set_option maxHeartbeats 4000000
namespace Sm
open Classical in
/-- the greatest sum of p's and q's up to x -/
noncomputable def ge (p q : Nat) : Nat → Nat
  | 0 => 0
  | x + 1 => if Sg p q (x + 1) then x + 1 else ge p q x
theorem ge_sg (p q : Nat) : ∀ x, Sg p q (ge p q x)
  | 0 => ⟨0, 0, by simp [ge]⟩
  | x + 1 => by
    unfold ge
    split
    · assumption
    · exact ge_sg p q x
theorem ge_le (p q : Nat) : ∀ x, ge p q x ≤ x
  | 0 => Nat.le_refl _
  | x + 1 => by
    unfold ge
    split
    · exact Nat.le_refl _
    · have := ge_le p q x
      omega
theorem ge_top (p q : Nat) : ∀ x s, Sg p q s → s ≤ x → s ≤ ge p q x
  | 0, s, _, h => by omega
  | x + 1, s, hs, h => by
    unfold ge
    split
    · exact h
    · rename_i no
      have : s ≠ x + 1 := fun e => no (by rw [← e]; exact hs)
      exact ge_top p q x s hs (by omega)
theorem ge_up (p q x : Nat) : ge p q x ≤ ge p q (x + 1) := ge_top p q (x + 1) _ (ge_sg p q x) (by have := ge_le p q x; omega)
theorem ge_is {p q : Nat} (p0 : 0 < p) (q0 : 0 < q) (x : Nat) : IsC (vl (List.replicate p 0) p (p : Int)) (vl (List.replicate q 0) q (q : Int)) (x + 1) x (ge p q x : Int) :=
  stairs_is p0 q0 (ge_sg p q x) (ge_le p q x) (ge_top p q x)
/-- the rule of two coprime stairs -/
noncomputable def geT (p q : Nat) : List Int := (List.range ((p - 1) * (q - 1) + 1)).map fun x => (ge p q x : Int)
theorem ge_rule {p q : Nat} (hp : p < 41) (hq : q < 41) (p0 : 0 < p) (q0 : 0 < q) (h : Nat.gcd p q = 1) : Short (geT p q) 1 1 ∧ ∀ x, vl (geT p q) 1 1 x = (ge p q x : Int) := by
  have far : ∀ x, (p - 1) * (q - 1) ≤ x → ge p q x = x := fun x hx => by
    have a := ge_le p q x
    have b := ge_top p q x x (sg_far hp hq p0 q0 h hx) (Nat.le_refl _)
    omega
  have turn : ∀ x, (p - 1) * (q - 1) ≤ x → ((ge p q (x + 1) : Nat) : Int) = (ge p q x : Int) + 1 := fun x hx => by
    rw [far x hx, far (x + 1) (by omega)]
    omega
  have hv := tab_vl (f := fun x => (ge p q x : Int)) (t := 1) (R := 1) (by decide) turn
  have ok := tab_ok (f := fun x => (ge p q x : Int)) (t := 1) (R := 1) (by decide) (by decide) turn (fun x => by omega) (fun x => by have := ge_up p q x; omega)
  refine ⟨⟨ok, fun s c s0 s1 => by omega, ?_⟩, hv⟩
  have ln : (geT p q).length = (p - 1) * (q - 1) + 1 := by
    unfold geT
    rw [List.length_map, List.length_range]
  rcases Nat.eq_zero_or_pos ((p - 1) * (q - 1)) with z | z
  · left
    rw [ln, z]
  · right
    have p1 : 1 < p := by
      rcases Nat.lt_or_ge 1 p with w | w
      · exact w
      · rw [show p - 1 = 0 by omega, Nat.zero_mul] at z
        omega
    have q1 : 1 < q := by
      rcases Nat.lt_or_ge 1 q with w | w
      · exact w
      · rw [show q - 1 = 0 by omega, Nat.mul_zero] at z
        omega
    have no := sg_not p1 q1 h
    have lo := ge_le p q ((p - 1) * (q - 1) - 1)
    have ne : ge p q ((p - 1) * (q - 1) - 1) ≠ (p - 1) * (q - 1) - 1 := fun e => no (by
      have := ge_sg p q ((p - 1) * (q - 1) - 1)
      rwa [e] at this)
    show vl (geT p q) 1 1 ((geT p q).length - 1) ≠ (geT p q).getD ((geT p q).length - 1 - 1) 0 + 1
    have e : (geT p q).getD ((geT p q).length - 1 - 1) 0 = (ge p q ((p - 1) * (q - 1) - 1) : Int) := by
      rw [ln, Nat.add_sub_cancel]
      unfold geT
      exact tab_getD (f := fun x => (ge p q x : Int)) (by omega)
    rw [e, show vl (geT p q) 1 1 ((geT p q).length - 1) = (ge p q ((geT p q).length - 1) : Int) from hv _, ln, Nat.add_sub_cancel, far _ (Nat.le_refl _)]
    omega
/-! the last ninety of the sums below x -/
open Classical in
noncomputable def sgs (p q x : Nat) : List Nat := (List.range x).filter fun n => decide (Sg p q n)
def last90 (L : List Nat) : List Nat := L.drop (L.length - 90)
theorem last90_more (L : List Nat) (x : Nat) : last90 (last90 L ++ [x]) = last90 (L ++ [x]) := by
  unfold last90
  rw [List.length_append, List.length_drop, List.length_append, List.length_singleton]
  by_cases h : L.length ≤ 90
  · rw [show L.length - 90 = 0 by omega, List.drop_zero, Nat.sub_zero]
  · have e : L.drop (L.length - 90) ++ [x] = (L ++ [x]).drop (L.length - 90) := (List.drop_append_of_le_length (by omega)).symm
    rw [e, List.drop_drop]
    have k : L.length - 90 + (L.length - (L.length - 90) + 1 - 90) = L.length + 1 - 90 := by omega
    first | rw [k] | rw [Nat.add_comm, k]
theorem last90_same (L : List Nat) : last90 (last90 L) = last90 L := by
  unfold last90
  rw [List.length_drop, List.drop_drop]
  have k : L.length - 90 + (L.length - (L.length - 90) - 90) = L.length - 90 := by omega
  first | rw [k] | rw [Nat.add_comm, k]
theorem last90_len (L : List Nat) : (last90 L).length ≤ 90 := by
  unfold last90
  rw [List.length_drop]
  omega
open Classical in
theorem sgs_succ (p q x : Nat) : sgs p q (x + 1) = if Sg p q x then sgs p q x ++ [x] else sgs p q x := by
  unfold sgs
  rw [List.range_succ, List.filter_append]
  split
  · rename_i h
    simp [List.filter, h]
  · rename_i h
    simp [List.filter, h]
open Classical in
theorem sgs_mem {p q x n : Nat} : n ∈ sgs p q x ↔ n < x ∧ Sg p q n := by
  unfold sgs
  rw [List.mem_filter, List.mem_range, decide_eq_true_iff]
theorem last90_sub {L : List Nat} {n : Nat} (h : n ∈ last90 L) : n ∈ L := List.mem_of_mem_drop h
/-- what is near is among them -/
theorem last90_near {p q x n : Nat} (h : n < x) (hs : Sg p q n) (k : x ≤ n + 40) : n ∈ last90 (sgs p q x) := by
  have cut : sgs p q x = sgs p q n ++ ((List.range (x - n)).map (· + n)).filter (fun m => @decide (Sg p q m) (Classical.propDecidable _)) := by
    unfold sgs
    rw [← List.filter_append]
    congr 1
    have e : x = n + (x - n) := by omega
    conv => lhs; rw [e, List.range_add]
    congr 1
    exact List.map_congr_left fun a _ => Nat.add_comm _ _
  rw [cut]
  unfold last90
  have l : (((List.range (x - n)).map (· + n)).filter (fun m => @decide (Sg p q m) (Classical.propDecidable _))).length ≤ 40 := by
    refine Nat.le_trans (List.length_filter_le ..) ?_
    rw [List.length_map, List.length_range]
    omega
  rw [List.length_append, List.drop_append_of_le_length (by omega)]
  refine List.mem_append_right _ (List.mem_filter.mpr ⟨List.mem_map.mpr ⟨0, List.mem_range.mpr (by omega), by omega⟩, ?_⟩)
  exact @decide_eq_true _ (Classical.propDecidable _) hs
theorem ge_last (p q : Nat) : ∀ x, sgs p q (x + 1) ≠ [] ∧ (sgs p q (x + 1))[(sgs p q (x + 1)).length - 1]? = some (ge p q x)
  | 0 => by
    have e : sgs p q 1 = [0] := by
      have := sgs_succ p q 0
      rw [if_pos ⟨0, 0, by simp⟩] at this
      rw [this]
      unfold sgs
      rfl
    rw [e]
    exact ⟨by simp, rfl⟩
  | x + 1 => by
    obtain ⟨a, b⟩ := ge_last p q x
    rw [sgs_succ]
    unfold ge
    split
    · refine ⟨by simp, ?_⟩
      rw [List.length_append, List.length_singleton, Nat.add_sub_cancel, List.getElem?_append_right (Nat.le_refl _), Nat.sub_self]
      rfl
    · exact ⟨a, b⟩
theorem last90_last {L : List Nat} (h : L ≠ []) : (last90 L)[(last90 L).length - 1]? = L[L.length - 1]? ∧ 0 < (last90 L).length := by
  have l : 0 < L.length := by
    cases L with
    | nil => exact absurd rfl h
    | cons a L => simp
  unfold last90
  rw [List.length_drop, List.getElem?_drop]
  refine ⟨?_, by omega⟩
  have e : L.length - 90 + (L.length - (L.length - 90) - 1) = L.length - 1 := by omega
  rw [e]
/-- whether x is a sum, told by what is among the last ninety -/
theorem sg_by {p q x : Nat} (hp : p ≤ 40) (hq : q ≤ 40) (p0 : 0 < p) (q0 : 0 < q) (h : 0 < x) : Sg p q x ↔ ((x : Int) - (p : Int) ∈ (last90 (sgs p q x)).map (fun n : Nat => (n : Int)) ∨ (x : Int) - (q : Int) ∈ (last90 (sgs p q x)).map (fun n : Nat => (n : Int))) := by
  have one : ∀ r : Nat, r ≤ 40 → 0 < r → ((r ≤ x ∧ Sg p q (x - r)) ↔ (x : Int) - (r : Int) ∈ (last90 (sgs p q x)).map (fun n : Nat => (n : Int))) := fun r hr r0 => by
    constructor
    · rintro ⟨h1, h2⟩
      exact List.mem_map.mpr ⟨x - r, last90_near (by omega) h2 (by omega), by omega⟩
    · intro hm
      obtain ⟨n, hn, e⟩ := List.mem_map.mp hm
      obtain ⟨a, b⟩ := sgs_mem.mp (last90_sub hn)
      exact ⟨by omega, by rw [show x - r = n by omega]; exact b⟩
  rw [sg_step h, one p hp p0, one q hq q0]
open Classical in
theorem there_next {p q x : Nat} : last90 (if 0 < x ∧ Sg p q x then last90 (sgs p q (max x 1)) ++ [x] else last90 (sgs p q (max x 1))) = last90 (sgs p q (x + 1)) := by
  rcases Nat.eq_zero_or_pos x with rfl | h
  · rw [if_neg (by omega)]
    exact last90_same _
  · rw [show max x 1 = x by omega, sgs_succ]
    by_cases hs : Sg p q x
    · rw [if_pos ⟨h, hs⟩, if_pos hs, last90_more]
    · rw [if_neg (fun a => hs a.2), if_neg hs, last90_same]
end Sm

set_option Elab.async false
set_option linter.all false
set_option maxRecDepth 100000
set_option maxHeartbeats 8000000
namespace Sm
open PySem PySem.Spec PyProof.Rows L2
open C8 (pss_cut)
def topS (i : Nat) : Stmt := PySem.Challenge.pw_smallchange_k11_whole_far_partings.main.body.getD i (.Pass ⟨0, 0, 0, 0⟩)
structure Txt (mg : Str → Option Value) : Prop where
  n_ValueError : mg "ValueError" = none
  n__law_call : mg "_law_call" = none
  n_abs : mg "abs" = none
  n_int : mg "int" = none
  n_isinstance : mg "isinstance" = none
  n_len : mg "len" = none
  n_list : mg "list" = none
  n_max : mg "max" = none
  n_min : mg "min" = none
  n_range : mg "range" = none
  n_repr : mg "repr" = none
  n_tuple : mg "tuple" = none
  g_lcm : mg "lcm" = some (.builtin "math.lcm")
  c_MAX_TOLD : ∃ t, mg "MAX_TOLD" = some (.int 5000 t)
/-! ### rules in the heap -/
def RuleAt (H : Hp) (d : Addr) (T : List Int) (p : Nat) (r : Int) : Prop := ∃ t, H d = some (.tup [.ref t, .int (p : Int), .int r]) ∧ H t = some (.tup (T.map V.int))
theorem RuleAt.same {H H' : Hp} {d : Addr} {T : List Int} {p : Nat} {r : Int} (R : RuleAt H d T p r) (s : Same H H') : RuleAt H' d T p r := by
  obtain ⟨t, h1, h2⟩ := R
  exact ⟨t, s _ _ h1, s _ _ h2⟩
theorem RuleAt.fr {H H' : Hp} {d a l : Addr} {n : Int} {T : List Int} {p : Nat} {r : Int} (R : RuleAt H d T p r) (f : Fr a l H H') (D : Deck H a l n) : RuleAt H' d T p r := by
  obtain ⟨t, h1, h2⟩ := R
  exact ⟨t, f.tup D h1, f.tup D h2⟩
structure RB (T : List Int) (p : Nat) (r : Int) : Prop where
  len : T.length ≤ 30000
  r1 : r ≤ 1000000000000000000
  top : ∀ i, i < T.length → T.getD i 0 ≤ 100000000000000000000
/-- a small one, with bound M -/
structure RS (M : Int) (T : List Int) (p : Nat) (r : Int) : Prop where
  len : T.length ≤ 300
  turn : p ≤ 40
  r1 : r ≤ M
  top : ∀ i, i < T.length → T.getD i 0 ≤ M
theorem RS.rb {M : Int} {T : List Int} {p : Nat} {r : Int} (b : RS M T p r) (h : M ≤ 10000000000000000) : RB T p r := by
  have h1 := b.r1
  have h2 := b.len
  exact ⟨by omega, by omega, fun i hi => by have := b.top i hi; omega⟩
theorem RS.up {M N : Int} {T : List Int} {p : Nat} {r : Int} (b : RS M T p r) (h : M ≤ N) : RS N T p r := by
  have h1 := b.r1
  exact ⟨b.len, b.turn, by omega, fun i hi => by have := b.top i hi; omega⟩
/-- a rule cut shorter -/
structure Cut (T : List Int) (p : Nat) (r : Int) (T' : List Int) (p' : Nat) (r' : Int) : Prop where
  len : T'.length ≤ T.length
  turn : p' ≤ p
  rise : r' ≤ r
  get : ∀ i, i < T'.length → T'.getD i 0 = T.getD i 0
theorem Cut.rs {M : Int} {T T' : List Int} {p p' : Nat} {r r' : Int} (c : Cut T p r T' p' r') (b : RS M T p r) : RS M T' p' r' := by
  have h1 := c.len
  have h2 := c.turn
  have h3 := c.rise
  have b1 := b.len
  have b2 := b.turn
  have b3 := b.r1
  exact ⟨by omega, by omega, by omega, fun i hi => by rw [c.get i hi]; exact b.top i (by omega)⟩
theorem Cut.rb {T T' : List Int} {p p' : Nat} {r r' : Int} (c : Cut T p r T' p' r') (b : RB T p r) : RB T' p' r' := by
  have h1 := c.len
  have h3 := c.rise
  have b1 := b.len
  have b3 := b.r1
  exact ⟨by omega, by omega, fun i hi => by rw [c.get i hi]; exact b.top i (by omega)⟩
theorem get_int {T : List Int} {i : Nat} (h : i < T.length) : (T.map V.int)[i]? = some (.int (T.getD i 0)) := by
  rw [List.getElem?_map, List.getElem?_eq_getElem h, List.getD_eq_getElem?_getD, List.getElem?_eq_getElem h]
  rfl
theorem atI_neg1 {xs : List V} {v : V} (h0 : 0 < xs.length) (h : xs[xs.length - 1]? = some v) : atI xs (-1) = some v := by
  unfold atI ixN
  rw [if_neg (by decide), if_pos (by omega), show ((-1 : Int) + (xs.length : Int)).toNat = xs.length - 1 by omega]
  exact h
theorem last_int {T : List Int} (h : 0 < T.length) : atI (T.map V.int) (-1) = some (.int (T.getD (T.length - 1) 0)) :=
  atI_neg1 (by rw [List.length_map]; exact h) (by rw [List.length_map]; exact get_int (by omega))
theorem pick4 {a b c d r : Int} (h0 : 0 ≤ r) (h1 : r < 4) : ∃ z, [V.int a, V.int b, V.int c, V.int d][r.toNat]? = some (.int z) ∧ (z = a ∨ z = b ∨ z = c ∨ z = d) := by
  obtain rfl | rfl | rfl | rfl : r = 0 ∨ r = 1 ∨ r = 2 ∨ r = 3 := by omega
  · exact ⟨a, rfl, .inl rfl⟩
  · exact ⟨b, rfl, .inr (.inl rfl)⟩
  · exact ⟨c, rfl, .inr (.inr (.inl rfl))⟩
  · exact ⟨d, rfl, .inr (.inr (.inr rfl))⟩
/-- a table while it grows -/
structure Tb (C : Int) (T : List Int) : Prop where
  c0 : 0 ≤ C
  ne : 0 < T.length
  nn : ∀ i, i < T.length → 0 ≤ T.getD i 0
  mono : ∀ i, i + 1 < T.length → T.getD i 0 ≤ T.getD (i + 1) 0
  top : ∀ i, i < T.length → T.getD i 0 ≤ C * ((i : Int) + 1)
  step : ∀ i, i + 1 < T.length → T.getD (i + 1) 0 ≤ T.getD i 0 + (C - 1)
theorem getD_app {T : List Int} {x : Int} {i : Nat} : (T ++ [x]).getD i 0 = if i < T.length then T.getD i 0 else if i = T.length then x else 0 := by
  rw [List.getD_eq_getElem?_getD, List.getD_eq_getElem?_getD, List.getElem?_append]
  by_cases h : i < T.length
  · rw [if_pos h, if_pos h]
  · rw [if_neg h, if_neg h]
    by_cases e : i = T.length
    · rw [if_pos e, e, Nat.sub_self]
      rfl
    · rw [if_neg e, List.getElem?_eq_none (by rw [List.length_singleton]; omega)]
      rfl
theorem Tb.more {C : Int} {T : List Int} (t : Tb C T) {c : Int} (c0 : 0 ≤ c) (c1 : c ≤ C - 1) : Tb C (T ++ [T.getD (T.length - 1) 0 + c]) := by
  have n := t.ne
  have l := t.nn (T.length - 1) (by omega)
  have u := t.top (T.length - 1) (by omega)
  refine ⟨t.c0, by rw [List.length_append]; omega, fun i hi => ?_, fun i hi => ?_, fun i hi => ?_, fun i hi => ?_⟩
  · rw [List.length_append, List.length_singleton] at hi
    rw [getD_app]
    split
    · exact t.nn i (by assumption)
    · rw [if_pos (by omega)]
      omega
  · rw [List.length_append, List.length_singleton] at hi
    rw [getD_app, getD_app, if_pos (by omega)]
    split
    · exact t.mono i (by assumption)
    · rw [if_pos (by omega), show i = T.length - 1 by omega]
      omega
  · rw [List.length_append, List.length_singleton] at hi
    rw [getD_app]
    split
    · exact t.top i (by assumption)
    · rw [if_pos (by omega), show i = T.length by omega]
      have e : C * ((T.length : Int) + 1) = C * (((T.length - 1 : Nat) : Int) + 1) + C := by
        rw [show ((T.length : Int) + 1) = (((T.length - 1 : Nat) : Int) + 1) + 1 by omega, Int.mul_add C (((T.length - 1 : Nat) : Int) + 1) 1, Int.mul_one]
      omega
  · rw [List.length_append, List.length_singleton] at hi
    rw [getD_app, getD_app, if_pos (c := i < T.length) (by omega)]
    split
    · exact t.step i (by assumption)
    · rw [if_pos (by omega), show i = T.length - 1 by omega]
      omega
theorem Tb.slope {C : Int} {T : List Int} (t : Tb C T) (a : Nat) : ∀ k, a + k < T.length → T.getD (a + k) 0 ≤ T.getD a 0 + (C - 1) * (k : Int)
  | 0, _ => by simp
  | k + 1, h => by
    have ih := t.slope a k (by omega)
    have s := t.step (a + k) (by omega)
    rw [show ((k + 1 : Nat) : Int) = (k : Int) + 1 from rfl, Int.mul_add, Int.mul_one]
    rw [Nat.add_assoc] at s
    omega
theorem Tb.all {C N M : Int} {T : List Int} (t : Tb C T) (h : (T.length : Int) ≤ N) (hM : C * (N + 1) ≤ M) : ∀ i, i < T.length → T.getD i 0 + C ≤ M := fun i hi => by
  have a := t.top i hi
  have b : C * (((i : Int) + 1) + 1) ≤ C * (N + 1) := Int.mul_le_mul_of_nonneg_left (by omega) t.c0
  rw [Int.mul_add C ((i : Int) + 1) 1, Int.mul_one] at b
  omega
theorem Tb.rsM {C N M : Int} {T : List Int} (t : Tb C T) (h : (T.length : Int) ≤ N) (hM : C * (N + 1) ≤ M) (l : T.length ≤ 240) {p : Nat} {r : Int} (hp : p ≤ 40) (h1 : r ≤ M) : RS M T p r :=
  ⟨by omega, hp, h1, fun i hi => by have := t.all h hM i hi; have := t.c0; omega⟩
theorem Tb.level {C : Int} {T : List Int} (t : Tb C T) : RuleOk T 1 0 := ⟨by decide, t.ne, by decide, t.nn, t.mono, by omega⟩
theorem Tb.rising {C : Int} {T : List Int} (t : Tb C T) {p : Nat} {c : Int} (p0 : 0 < p) (p1 : p ≤ T.length) (c0 : 0 ≤ c) : RuleOk T p (T.getD (T.length - 1) 0 - T.getD (T.length - p) 0 + c) := by
  have up : T.getD (T.length - p) 0 ≤ T.getD (T.length - 1) 0 := by
    have z : RuleOk T 1 0 := t.level
    exact z.row (by omega) (by omega)
  exact ⟨p0, p1, by omega, t.nn, t.mono, by omega⟩
def sp_val (_ : PySem.W.Frag) : Sp := fun vs H Q _ => ∃ (d : Addr) (T : List Int) (p : Nat) (r : Int) (x : Nat), vs = [.ref d, .int (x : Int)] ∧ RuleAt H d T p r ∧ RuleOk T p r ∧ RB T p r ∧ Q (.int (vl T p r x)) H
abbrev sp_value_of := sp_val
abbrev sp_l_value := sp_val
def sp_l_repeats (_ : PySem.W.Frag) : Sp := fun vs H Q _ => ∃ (d : Addr) (T : List Int) (p : Nat) (r : Int) (s : Nat) (c : Int), vs = [.ref d, .int (s : Int), .int c] ∧ RuleAt H d T p r ∧ RuleOk T p r ∧ RB T p r ∧
  ∀ b, (b = true ↔ Rep T p r s c) → Q (.bl b) H
def sp_l_least (_ : PySem.W.Frag) : Sp := fun vs H Q _ => ∃ (d : Addr) (T : List Int) (p : Nat) (r : Int), vs = [.ref d] ∧ RuleAt H d T p r ∧ RuleOk T p r ∧ RB T p r ∧
  ∀ H' d' T' p' r', Same H H' → RuleAt H' d' T' p' r' → Cut T p r T' p' r' → Short T' p' r' → (∀ x, vl T' p' r' x = vl T p r x) → Q (.ref d') H'
def sp_l_rule (_ : PySem.W.Frag) : Sp := fun vs H Q _ => ∃ (p l : Addr) (n long wide tall M : Int), vs = [.ref p, .int long, .int wide, .int tall] ∧ Deck H p l n ∧ 0 ≤ n ∧ n ≤ 900000 ∧ 0 ≤ long ∧ long ≤ 200 ∧ 1 ≤ wide ∧ wide ≤ 40 ∧ 1 ≤ tall ∧ tall ≤ 1000000000 ∧ (tall + 1) * (long + wide + 1) ≤ M ∧ M ≤ 100000000000 ∧
  ∀ H' d T pp r n', Fr p l H H' → Deck H' p l n' → n ≤ n' → n' ≤ n + 1000 → RuleAt H' d T pp r → RS M T pp r → (T.length : Int) ≤ long + wide → Short T pp r → (pp : Int) ≤ wide → r ≤ tall * (pp : Int) → Q (.ref d) H'
section
variable {P : Program} {w : World} {K : PySem.W.Frag} {mg : Str → Option Value} {base : Heap}
abbrev s_l_deck : Stmt := topS 26
abbrev N_l_deck : List Str := ["_law_script", "_law_cell"]
theorem sc_l_deck : FnScope N_l_deck ["_law_script"] (defScope s_l_deck) := ⟨rfl, rfl, rfl, by decide +kernel, rfl, by decide +kernel, by decide +kernel⟩
theorem ok_l_deck (T : Txt mg) (D : Df K mg "_law_deck" s_l_deck ["_law_script"]) : Cal P w K mg base "_law_deck" ["_law_script"] 1 (sp_l_deck K) := by
  refine D.cal sc_l_deck (fun vs H Q E h => ?_) (fun f cdv A outer s H vs Q E hr h => ?_)
  · obtain ⟨a, ns, rfl, _⟩ := h
    rfl
  obtain ⟨a, ns, rfl, hS, hlen, k⟩ := h
  refine ⟨_, (pss_one (ps_ret (pe_lst (pa_cons (pe_lc (own := [("_law_cell", 1)]) (g := gName 1) (tt := tYes) rfl sc_l_deck.nd (pi_list (pe_slice sl_list (pv 0) po_none (po_some pe_int))) (blkOk_by (own := [("_law_cell", 1)]) (N := N_l_deck) (sc := defScope s_l_deck) (by decide +kernel)) (fun _ _ _ _ _ => pg_name (i := 1) sc_l_deck.nd rfl (Or.inl rfl)) (fun _ _ _ _ _ => pts_nil) (fun _ _ _ _ _ => (pe_callB call_abs (by rfl) T.n_abs (by decide +kernel) (pa_cons (pv 1) pa_nil)))) (pa_cons pe_int pa_nil))))), ?_⟩
  refine ⟨_, rfl, _, rfl, a, _, rfl, hS, fun c nc => ?_⟩
  rw [cut63 hlen]
  have s1 := same_upd (o := .lst (ns.map V.int)) nc
  refine ⟨c, rfl, ⟨_, SqL.of upd_same⟩, fun D nD => ?_⟩
  have s2 := s1.trans (same_upd (o := .lst []) nD)
  have hc2 : upd (upd H c (.lst (ns.map V.int))) D (.lst []) c = some (.lst (ns.map V.int)) := same_upd nD _ _ upd_same
  refine lc_list (K := K) (a := c) (xs := ns.map V.int) (fun i H' => Same H H' ∧ H' c = some (.lst (ns.map V.int)) ∧ c ≠ D ∧ H D = none ∧ H' D = some (.lst (((ns.take i).map absI).map V.int)))
    ⟨s2, hc2, ne_of_none upd_same nD, s1.free nD, upd_same⟩ (fun i H' _ h => SqL.of h.2.1) ?_ ?_
  · rintro i x H' hx ⟨sm, hc, ncD, nD0, hD⟩
    rw [List.getElem?_map] at hx
    cases e : ns[i]? with
    | none => rw [e] at hx; cases hx
    | some y =>
      rw [e] at hx
      have ex : x = .int y := (Option.some.inj hx).symm
      subst ex
      refine ⟨rfl, ?_⟩
      unfold tYes
      refine iteT ?_
      refine ⟨_, rfl, _, rfl, _, hD, ?_, ?_⟩
      · rw [List.length_map, List.length_map, List.length_take]
        exact Nat.lt_of_le_of_lt (Nat.min_le_right _ _) (small1000 (by omega))
      · refine ⟨fun b o e => ?_, ?_, ncD, nD0, ?_⟩
        · rw [upd_ne (ne_of_none e nD0)]
          exact sm _ _ e
        · rw [upd_ne ncD]
          exact hc
        · rw [upd_same, List.take_add_one, e, List.map_append, List.map_append]
          rfl
  · rintro H' ⟨sm, hc, ncD, nD0, hD⟩
    refine ⟨(by show 2 ≤ sizeLine; decide), fun p np => ?_⟩
    have s3 := sm.trans (same_upd (o := .lst [.ref D, .int 0]) np)
    refine k _ p D s3 ⟨upd_same, _, (same_upd np) _ _ hD, fun c hc => ?_, ?_⟩
    · obtain ⟨y, _, rfl⟩ := List.mem_map.mp hc
      exact absI_pos y
    · rw [List.length_map, List.length_take]
      omega
abbrev s_l_draw : Stmt := topS 27
abbrev N_l_draw : List Str := ["_law_deck_here", "_law_many", "_law_place", "_law_cell", "_law_mixed"]
theorem sc_l_draw : FnScope N_l_draw ["_law_deck_here", "_law_many"] (defScope s_l_draw) := ⟨rfl, rfl, rfl, by decide +kernel, rfl, by decide +kernel, by decide +kernel⟩
theorem ok_l_draw (T : Txt mg) (D : Df K mg "_law_draw" s_l_draw ["_law_deck_here", "_law_many"]) : Cal P w K mg base "_law_draw" ["_law_deck_here", "_law_many"] 1 (sp_l_draw K) := by
  refine D.cal sc_l_draw (fun vs H Q E h => ?_) (fun f cdv A outer s H vs Q E hr h => ?_)
  · obtain ⟨p, l, n, m, rfl, _⟩ := h
    rfl
  obtain ⟨p, l, n, m, rfl, D, n0, n1, m0, m1, k⟩ := h
  obtain ⟨cells, hl, hc⟩ := D.hl
  have npl : p ≠ l := ne_of D.hp hl deck_ne
  refine ⟨_, (pss_cons (ps_asg (pe_op op_add (pe_ix ix_list (pv 0) pe_int (fun _ _ => rfl)) pe_int) (pg_sub (pv 0) pe_int set_list))
    (pss_cons (ps_set (i := 2) sc_l_draw.nd rfl (Or.inl rfl) (pe_op op_modN (pe_callTy call_int1 (by rfl) T.n_int (by decide +kernel) (pa_cons (pe_ix ix_list (pv 0) pe_int (fun _ _ => rfl)) pa_nil)) (pe_callB (call_max2 rfl) (by rfl) T.n_max (by decide +kernel) (pa_cons pe_int (pa_cons (pe_callB call_len_seq (by rfl) T.n_len (by decide +kernel) (pa_cons (pe_ix ix_list (pv 0) pe_int (fun _ _ => rfl)) pa_nil)) pa_nil)))))
    (pss_cons (ps_set (i := 3) sc_l_draw.nd rfl (Or.inl rfl) (pe_ix ix_list (pe_op op_cat (pe_ix ix_list (pv 0) pe_int (fun _ _ => rfl)) (pe_lst (pa_cons pe_int pa_nil))) (pv 2) (fun _ _ => rfl)))
    (pss_cons (ps_if (pt_cmpR op_ge (pv 3) (pe_op op_pow pe_int pe_int) (nomark _)) (pss_cons (ps_asg (pe_op op_fdivW (pv 3) (pv 1)) (pg_sub (pe_ix ix_list (pv 0) pe_int (fun _ _ => rfl)) (pv 2) set_list))
    (pss_one (ps_ret (pe_op op_modN (pe_callTy call_int1 (by rfl) T.n_int (by decide +kernel) (pa_cons (pv 3) pa_nil)) (pv 1))))) pss_nil)
    (pss_cons (ps_set (i := 4) sc_l_draw.nd rfl (Or.inl rfl) (pe_op op_pow (pe_op op_add (pe_op op_add (pe_op op_modN (pe_callTy call_int1 (by rfl) T.n_int (by decide +kernel) (pa_cons (pv 3) pa_nil)) pe_int) (pe_op op_mul pe_int (pe_ix ix_list (pv 0) pe_int (fun _ _ => rfl)))) pe_int) pe_int))
    (pss_one (ps_ret (pe_op op_modN (pe_callTy call_int1 (by rfl) T.n_int (by decide +kernel) (pa_cons (pe_op op_modN (pe_callTy call_int1 (by rfl) T.n_int (by decide +kernel) (pa_cons (pv 4) pa_nil)) pe_int) pa_nil)) (pv 1))))))))), ?_⟩
  refine ⟨_, rfl, _, _, _, _, rfl, rfl, SqL.of D.hp, atI_nat (j := 1) rfl, _, _, rfl, rfl, _, rfl, _, _, _, _, rfl, rfl, D.hp, rfl, ?_⟩
  generalize hH0 : upd H p (HO.lst (List.set [V.ref l, V.int n] (Int.toNat 1) ((fun i j => V.int (i + j)) n 1))) = H0
  have hH0 : upd H p (.lst [.ref l, .int (n + 1)]) = H0 := hH0
  have f0 : Fr p l H H0 := fun b o h1 _ h => by rw [← hH0, upd_ne h1]; exact h
  have hl0 : H0 l = some (.lst (cells.map V.int)) := by rw [← hH0, upd_ne npl.symm]; exact hl
  have hp0 : H0 p = some (.lst [.ref l, .int (n + 1)]) := by rw [← hH0, upd_same]
  -- place
  have big : (if ((cells.map V.int).length : Int) > 1 then ((cells.map V.int).length : Int) else 1) = max 1 (cells.length : Int) := by
    rw [List.length_map]
    split <;> omega
  have fm : (n + 1).fmod (max 1 (cells.length : Int)) = (n + 1) % (max 1 (cells.length : Int)) := fmod_pos (by omega)
  have q0 : 0 ≤ (n + 1).fmod (max 1 (cells.length : Int)) := by rw [fm]; exact Int.emod_nonneg _ (by omega)
  have q1 : (n + 1).fmod (max 1 (cells.length : Int)) < max 1 (cells.length : Int) := by rw [fm]; exact Int.emod_lt_of_pos _ (by omega)
  refine ⟨_, rfl, _, _, _, _, rfl, rfl, SqL.of hp0, atI_nat (j := 1) rfl, .inl ⟨_, rfl, _, rfl, _, _, _, _, rfl, rfl, SqL.of hp0, atI_nat (j := 0) rfl, _, _, rfl, .inl (SqL.of hl0), _, _, rfl, _, _, rfl, rfl, (by rw [big]; omega), ?_⟩⟩
  have z : ∀ B : Int → Prop, B ((n + 1).fmod (max 1 (cells.length : Int))) → B ((n + 1).fmod (if ((cells.map V.int).length : Int) > 1 then ((cells.map V.int).length : Int) else 1)) := fun B h => by rw [big]; exact h
  refine z (fun y => gName 2 (.int y) _ _ _) ?_
  clear z
  -- cell
  refine ⟨_, rfl, _, _, _, _, rfl, rfl, SqL.of hp0, atI_nat (j := 0) rfl, (by show 1 ≤ sizeLine; decide), fun t nt => ?_⟩
  have st := same_upd (o := .lst [.int 0]) nt
  have hp1 := st _ _ hp0
  have hl1 := st _ _ hl0
  have f1 := f0.trans (Same.fr (p := p) (l := l) st)
  obtain ⟨hc, h63⟩ := hc
  have ln : (cells.map V.int).length = cells.length := List.length_map ..
  refine ⟨_, _, _, _, rfl, rfl, hl1, upd_same, (by rw [ln]; exact Nat.le_trans (by omega : cells.length + 1 ≤ 64) (by decide)), fun t2 nt2 => ?_⟩
  have st2 := same_upd (o := .lst (cells.map V.int ++ [.int 0])) nt2
  have hp2 := st2 _ _ hp1
  have hl2 := st2 _ _ hl1
  have f2 := f1.trans (Same.fr (p := p) (l := l) st2)
  have ht2 : upd (upd H0 t (.lst [.int 0])) t2 (.lst (cells.map V.int ++ [.int 0])) t2 = some (.lst ((cells ++ [0]).map V.int)) := by rw [upd_same, List.map_append]; rfl
  generalize upd (upd H0 t (HO.lst [V.int 0])) t2 (HO.lst (cells.map V.int ++ [V.int 0])) = H2 at hp2 hl2 f2 ht2 ⊢
  have q2 : ((n + 1).fmod (max 1 (cells.length : Int))).toNat < (cells ++ [0]).length := by rw [List.length_append, List.length_singleton]; omega
  have q3 : (n + 1).fmod (max 1 (cells.length : Int)) = (((n + 1).fmod (max 1 (cells.length : Int))).toNat : Int) := by omega
  generalize (n + 1).fmod (max 1 (cells.length : Int)) = pl at q0 q1 q2 q3 ⊢
  have q4 : ((cells ++ [0]).map V.int)[pl.toNat]? = some (.int (cells ++ [0])[pl.toNat]) := by
    rw [List.getElem?_map, List.getElem?_eq_getElem q2]
    rfl
  have c0 : 0 ≤ (cells ++ [0])[pl.toNat] := by
    rcases List.mem_append.mp (List.getElem_mem q2) with q | q
    · exact hc _ q
    · rw [List.mem_singleton.mp q]
      decide
  have inside : 1000000000000000000 ≤ (cells ++ [0])[pl.toNat] → pl.toNat < cells.length := by
    intro q
    by_cases e : pl.toNat < cells.length
    · exact e
    · rw [List.getElem_append_right (by omega)] at q
      simp at q
  generalize (cells ++ [0])[pl.toNat] = c at q4 c0 inside ⊢
  refine ⟨_, rfl, _, _, _, _, rfl, rfl, SqL.of ht2, at_of q3 q4, ?_⟩
  refine ⟨_, rfl, _, _, rfl, rfl, ⟨by decide, by decide, by decide⟩, _, _, rfl, rfl, _, rfl, ite3 (fun e => ?_) (fun e => ?_)⟩
  · have e : 1000000000000000000 ≤ c := e
    have p1 := inside e
    have ix : ixN (cells.map V.int).length pl = some pl.toNat := by
      unfold ixN
      rw [if_pos q0, if_pos (by omega)]
    refine ⟨_, rfl, _, rfl, _, _, rfl, rfl, div_draw m0 m1, _, rfl, _, _, _, _, rfl, rfl, SqL.of hp2, atI_nat (j := 0) rfl, _, rfl, _, _, _, _, rfl, rfl, hl2, ix, ?_⟩
    refine ⟨_, rfl, .inl ⟨_, rfl, _, rfl, _, _, rfl, rfl, (by omega), ?_⟩⟩
    have fm : c.fmod m = c % m := fmod_pos m0
    refine k _ _ (by rw [fm]; exact Int.emod_nonneg _ (by omega)) (by rw [fm]; exact Int.emod_lt_of_pos _ m0) (f2.trans fun b o _ h2 h => by rw [upd_ne h2]; exact h) ⟨by rw [upd_ne npl]; exact hp2, cells.set pl.toNat (c / m), by rw [upd_same, List.map_set], fun y hy => ?_, by rw [List.length_set]; exact h63⟩
    rcases List.mem_or_eq_of_mem_set hy with q | q
    · exact hc y q
    · rw [q]; exact Int.ediv_nonneg c0 (by omega)
  · refine ⟨_, rfl, .inl ⟨_, rfl, _, _, rfl, rfl, (show (2147483587 : Int) ≠ 0 by decide), _, rfl, _, _, _, _, rfl, rfl, SqL.of hp2, atI_nat (j := 1) rfl, _, _, rfl, rfl, .inl ⟨by decide, by decide⟩, _, _, rfl, rfl, _, _, rfl, rfl, ?_⟩⟩
    have fm : c.fmod 2147483587 = c % 2147483587 := fmod_pos (by decide)
    have h0 := Int.emod_nonneg c (show (2147483587 : Int) ≠ 0 by decide)
    have h1 := Int.emod_lt_of_pos c (show (0 : Int) < 2147483587 by decide)
    refine ⟨_, _, rfl, rfl, ⟨by decide, by decide, by rw [fm]; omega⟩, ?_⟩
    refine ⟨_, rfl, .inl ⟨_, rfl, _, _, rfl, rfl, (show (2147483647 : Int) ≠ 0 by decide), .inl ⟨_, rfl, _, rfl, _, _, rfl, rfl, (by omega), ?_⟩⟩⟩
    refine k _ _ ?_ ?_ f2 ⟨hp2, cells, hl2, hc, h63⟩
    · rw [fmod_pos m0]; exact Int.emod_nonneg _ (by omega)
    · rw [fmod_pos m0]; exact Int.emod_lt_of_pos _ m0
abbrev s_l_one : Stmt := topS 28
abbrev N_l_one : List Str := ["_law_deck_here", "_law_items"]
theorem sc_l_one : FnScope N_l_one ["_law_deck_here", "_law_items"] (defScope s_l_one) := ⟨rfl, rfl, rfl, by decide +kernel, rfl, by decide +kernel, by decide +kernel⟩
theorem ok_l_one (T : Txt mg) (D : Df K mg "_law_one" s_l_one ["_law_deck_here", "_law_items"]) (C_l_draw : Cal P w K mg base "_law_draw" ["_law_deck_here", "_law_many"] 1 (sp_l_draw K)) : Cal P w K mg base "_law_one" ["_law_deck_here", "_law_items"] 2 (sp_l_one K) := by
  obtain ⟨f_l_draw, fd_l_draw, G_l_draw, m_l_draw, k_l_draw, b_l_draw⟩ := C_l_draw
  refine D.cal sc_l_one (fun vs H Q E h => ?_) (fun f cdv A outer s H vs Q E hr h => ?_)
  · obtain ⟨p, l, b, n, xs, rfl, _⟩ := h
    rfl
  obtain ⟨p, l, b, n, xs, rfl, D, n0, n1, hb, bp, bl, x0, x1, k⟩ := h
  refine ⟨_, (pss_one (ps_ret (pe_ix ix_list (pv 1) (pe_call G_l_draw (hr.mono (by decide)) (by rfl) m_l_draw k_l_draw b_l_draw .nil pass0 (pa_cons (pv 0) (pa_cons (pe_callB call_len_seq (by rfl) T.n_len (by decide +kernel) (pa_cons (pv 1) pa_nil)) pa_nil))) (fun _ _ => rfl)))), ?_⟩
  refine ⟨_, rfl, _, rfl, _, rfl, _, _, rfl, .inl (SqL.of hb), p, l, n, _, rfl, D, n0, n1, (by omega), (by omega), fun r H' r0 r1 f D' => ?_⟩
  have q : r.toNat < xs.length := by omega
  refine ⟨_, _, _, _, rfl, rfl, SqL.of (f b _ bp bl hb), at_of (j := r.toNat) (by omega) (List.getElem?_eq_getElem q), ?_⟩
  exact k _ H' (List.getElem_mem q) f D'
end
end Sm

set_option Elab.async false
set_option linter.all false
set_option maxRecDepth 100000
set_option maxHeartbeats 8000000
namespace Sm
open PySem PySem.Spec PyProof.Rows L2
open C8 (pss_cut tCut)
section
variable {P : Program} {w : World} {K : PySem.W.Frag} {mg : Str → Option Value} {base : Heap}
theorem RB.div {T : List Int} {p : Nat} {r x : Int} (b : RB T p r) (o : RuleOk T p r) : CDivW x (p : Int) := by
  have := b.len
  have := o.p0
  have := o.p1
  exact wide_div (b := 15) (by omega) (by omega) (by decide) (by decide)
theorem RB.mulR {T : List Int} {p : Nat} {r x : Int} (b : RB T p r) (o : RuleOk T p r) : CMul x r := by
  have := b.r1
  have := o.r0
  exact .inr ⟨by omega, by omega⟩
theorem RB.mulR' {T : List Int} {p : Nat} {r x : Int} (b : RB T p r) (o : RuleOk T p r) : CMul r x := by
  have := b.r1
  have := o.r0
  exact .inl ⟨by omega, by omega⟩
theorem RB.mulP {T : List Int} {p : Nat} {r x : Int} (b : RB T p r) (o : RuleOk T p r) : CMul x (p : Int) := by
  have := b.len
  have := o.p1
  exact .inr ⟨by omega, by omega⟩
theorem len_int (T : List Int) : (((T.map V.int).length : Nat) : Int) = (T.length : Int) := by rw [List.length_map]
theorem turns_eq {T : List Int} {p x : Nat} (h : T.length ≤ x) : ((x : Int) - (((T.map V.int).length : Nat) : Int)) / (p : Int) + 1 = (((x - T.length) / p + 1 : Nat) : Int) := by
  rw [len_int]
  exact div_cast h
theorem index_eq {q p x : Nat} (h : q * p ≤ x) : (x : Int) - (q : Int) * (p : Int) = ((x - q * p : Nat) : Int) := by
  rw [Int.natCast_sub h, Int.natCast_mul]
abbrev s_l_value : Stmt := topS 29
abbrev N_l_value : List Str := ["_law_rule_here", "_law_x", "_law_table", "_law_period", "_law_rise", "_law_turns"]
theorem sc_l_value : FnScope N_l_value ["_law_rule_here", "_law_x"] (defScope s_l_value) := ⟨rfl, rfl, rfl, by decide +kernel, rfl, by decide +kernel, by decide +kernel⟩
theorem ok_l_value (T : Txt mg) (D : Df K mg "_law_value" s_l_value ["_law_rule_here", "_law_x"]) : Cal P w K mg base "_law_value" ["_law_rule_here", "_law_x"] 1 (sp_l_value K) := by
  refine D.cal sc_l_value (fun vs H Q E h => ?_) (fun f cdv A outer s H vs Q E hr h => ?_)
  · obtain ⟨d, T0, p, r, x, rfl, _⟩ := h
    rfl
  obtain ⟨d, T0, p, r, x, rfl, ⟨t, hd, ht⟩, o, b, k⟩ := h
  have p0 := o.p0
  have p1 := o.p1
  refine ⟨_, (pss_cons (ps_asg (pv 0) (pg_tup (by rfl) (pgs_cons (pg_name (i := 2) sc_l_value.nd rfl (Or.inl rfl)) (pgs_cons (pg_name (i := 3) sc_l_value.nd rfl (Or.inl rfl)) (pgs_cons (pg_name (i := 4) sc_l_value.nd rfl (Or.inl rfl)) pgs_nil)))))
    (pss_cons (ps_if (pt_cmpR op_lt (pv 1) (pe_callB call_len_seq (by rfl) T.n_len (by decide +kernel) (pa_cons (pv 2) pa_nil)) (nomark _)) (pss_one (ps_ret (pe_ix ix_tup (pv 2) (pv 1) (fun _ _ => rfl)))) pss_nil)
    (pss_cons (ps_set (i := 5) sc_l_value.nd rfl (Or.inl rfl) (pe_op op_add (pe_op op_fdivW (pe_op op_sub (pv 1) (pe_callB call_len_seq (by rfl) T.n_len (by decide +kernel) (pa_cons (pv 2) pa_nil))) (pv 3)) pe_int))
    (pss_one (ps_ret (pe_op op_add (pe_ix ix_tup (pv 2) (pe_op op_sub (pv 1) (pe_op op_mul (pv 5) (pv 3))) (fun _ _ => rfl)) (pe_op op_mul (pv 5) (pv 4)))))))), ?_⟩
  refine ⟨_, rfl, _, _, rfl, SqT.of hd, rfl, _, _, rfl, _, _, rfl, _, _, rfl, rfl, ?_⟩
  refine ⟨_, rfl, _, rfl, _, _, rfl, .inr (SqT.of ht), _, _, rfl, rfl, _, rfl, ite3 (fun e => ?_) (fun e => ?_)⟩
  · rw [len_int] at e
    have e : x < T0.length := by omega
    rw [vl_lt e] at k
    exact ⟨_, rfl, _, rfl, _, _, _, _, rfl, rfl, SqT.of ht, atI_nat (get_int e), k⟩
  · rw [len_int] at e
    have e : T0.length ≤ x := by omega
    have z : ∀ B : Int → Prop, B (((x - T0.length) / p + 1 : Nat) : Int) → B (((x : Int) - (((T0.map V.int).length : Nat) : Int)) / (p : Int) + 1) := fun B h => by rw [turns_eq e]; exact h
    refine ⟨_, rfl, _, rfl, _, _, rfl, .inr (SqT.of ht), _, _, rfl, rfl, _, rfl, _, _, rfl, rfl, b.div o, _, _, rfl, rfl, ?_⟩
    refine z (fun y => gName 5 (.int y) _ _ _) ?_
    clear z
    obtain ⟨a1, a2, a3⟩ := place p0 p1 e
    have kv : vl T0 p r x = T0.getD (x - ((x - T0.length) / p + 1) * p) 0 + (((x - T0.length) / p + 1 : Nat) : Int) * r := if_neg (by omega)
    rw [kv] at k
    generalize (x - T0.length) / p + 1 = q at a1 a2 a3 k ⊢
    exact ⟨_, rfl, _, rfl, _, rfl, _, rfl, _, _, rfl, rfl, b.mulP o, _, _, rfl, rfl, _, _, _, _, rfl, rfl, SqT.of ht, at_of (index_eq a1) (get_int a3), _, rfl, _, rfl, _, _, rfl, rfl, b.mulR o, _, _, rfl, rfl, k⟩
abbrev s_l_repeats : Stmt := topS 30
abbrev N_l_repeats : List Str := ["_law_rule_here", "_law_step", "_law_more", "_law_table", "_law_period", "_law_rise", "_law_x"]
theorem sc_l_repeats : FnScope N_l_repeats ["_law_rule_here", "_law_step", "_law_more"] (defScope s_l_repeats) := ⟨rfl, rfl, rfl, by decide +kernel, rfl, by decide +kernel, by decide +kernel⟩
theorem ok_l_repeats (T : Txt mg) (D : Df K mg "_law_repeats" s_l_repeats ["_law_rule_here", "_law_step", "_law_more"]) (C_l_value : Cal P w K mg base "_law_value" ["_law_rule_here", "_law_x"] 1 (sp_l_value K)) : Cal P w K mg base "_law_repeats" ["_law_rule_here", "_law_step", "_law_more"] 2 (sp_l_repeats K) := by
  obtain ⟨f_l_value, fd_l_value, G_l_value, m_l_value, k_l_value, b_l_value⟩ := C_l_value
  refine D.cal sc_l_repeats (fun vs H Q E h => ?_) (fun f cdv A outer s H vs Q E hr h => ?_)
  · obtain ⟨d, T0, p, r, s, c, rfl, _⟩ := h
    rfl
  obtain ⟨d, T0, p, r, st, c, rfl, R, o, b, k⟩ := h
  obtain ⟨t, hd, ht⟩ := id R
  have p0 := o.p0
  have p1 := o.p1
  have bl := b.len
  refine ⟨_, (pss_cons (ps_asg (pv 0) (pg_tup (by rfl) (pgs_cons (pg_name (i := 3) sc_l_repeats.nd rfl (Or.inl rfl)) (pgs_cons (pg_name (i := 4) sc_l_repeats.nd rfl (Or.inl rfl)) (pgs_cons (pg_name (i := 5) sc_l_repeats.nd rfl (Or.inl rfl)) pgs_nil)))))
    (pss_cons (ps_for PassesOwn.never rfl (pi_range2 (by rfl) T.n_range (pa_cons (pe_op op_sub (pe_callB call_len_seq (by rfl) T.n_len (by decide +kernel) (pa_cons (pv 3) pa_nil)) (pv 4)) (pa_cons (pe_callB call_len_seq (by rfl) T.n_len (by decide +kernel) (pa_cons (pv 3) pa_nil)) pa_nil))) (pg_name (i := 6) sc_l_repeats.nd rfl (Or.inl rfl))
      (pss_one (ps_if (pt_cmpR op_ne (pe_call G_l_value (hr.mono (by decide)) (by rfl) m_l_value k_l_value b_l_value .nil pass0 (pa_cons (pv 0) (pa_cons (pe_op op_add (pv 6) (pv 1)) pa_nil))) (pe_op op_add (pe_ix ix_tup (pv 3) (pv 6) (fun _ _ => rfl)) (pv 2)) (nomark _)) (pss_one (ps_ret pe_bl)) pss_nil)))
    (pss_one (ps_ret pe_bl)))), ?_⟩
  refine ⟨_, rfl, _, _, rfl, SqT.of hd, rfl, _, _, rfl, _, _, rfl, _, _, rfl, rfl, ?_⟩
  have ll := len_int T0
  refine ⟨_, rfl, _, _, rfl, .inr (SqT.of ht), _, rfl, _, _, rfl, rfl, _, rfl, _, _, rfl, .inr (SqT.of ht), _, _, rfl, ⟨by rw [ll]; omega, by rw [ll]; omega, by rw [ll]; omega, by rw [ll]; omega⟩, ?_⟩
  refine for_range (lo := _) (n := _) (fun i σ H' => ∃ v, σ = [some (.ref d), some (.int (st : Int)), some (.int c), some (.ref t), some (.int (p : Int)), some (.int r), v] ∧ H' = H ∧ ∀ j, j < i → vl T0 p r (T0.length - p + j + st) = T0.getD (T0.length - p + j) 0 + c)
    ⟨none, rfl, rfl, fun j hj => absurd hj (Nat.not_lt_zero _)⟩ ?_ ?_
  · rintro i σ H' hi ⟨v, rfl, rfl, hj⟩
    have hi : i < p := by
      rw [ll] at hi
      omega
    have e1 : (((T0.map V.int).length : Nat) : Int) - (p : Int) + (i : Int) = ((T0.length - p + i : Nat) : Int) := by rw [ll]; omega
    have e2 : (((T0.map V.int).length : Nat) : Int) - (p : Int) + (i : Int) + (st : Int) = ((T0.length - p + i + st : Nat) : Int) := by rw [ll]; omega
    have z : ∀ B : Int → Prop, B ((T0.length - p + i : Nat) : Int) → B ((((T0.map V.int).length : Nat) : Int) - (p : Int) + (i : Int)) := fun B h => by rw [e1]; exact h
    refine z (fun y => gName 6 (.int y) _ _ _) ?_
    clear z
    refine ⟨_, rfl, _, rfl, _, rfl, _, _, rfl, rfl, d, T0, p, r, T0.length - p + i + st, rfl, R, o, b, _, rfl, _, rfl, _, _, _, _, rfl, rfl, SqT.of ht, atI_nat (get_int (by omega)), _, rfl, _, _, rfl, rfl, rfl, _, rfl, ?_⟩
    by_cases e : vl T0 p r (T0.length - p + i + st) = T0.getD (T0.length - p + i) 0 + c
    · refine iteNP (congrArg V.int e) ⟨_, rfl, rfl, fun j hj' => ?_⟩
      by_cases q : j = i
      · rw [q]
        exact e
      · exact hj j (by omega)
    · exact iteNN (fun q => e (V.int.inj q)) (k false ⟨fun q => (nomatch q), fun rep => absurd (rep (T0.length - p + i) (by omega) (by omega)) e⟩)
  · rintro σ H' ⟨v, rfl, rfl, hj⟩
    refine k true ⟨fun _ i h1 h2 => ?_, fun _ => rfl⟩
    have := hj (i - (T0.length - p)) (by rw [ll]; omega)
    rw [show T0.length - p + (i - (T0.length - p)) = i by omega] at this
    exact this
def LeastW (d t : Addr) (T0 : List Int) (p : Nat) (r : Int) (s : Nat) (c : Int) (v : Option V) (H0 : Hp) : Nat → List (Option V) → Hp → Prop := fun m σ H =>
  σ = [some (.ref d), some (.ref t), some (.int (p : Int)), some (.int r), some (.int (s : Int)), some (.int (m : Int)), v, some (.int c)] ∧ H = H0 ∧ m ≤ T0.length - p ∧ ∀ y, m ≤ y → vl T0 p r (y + s) = vl T0 p r y + c
abbrev s_l_least : Stmt := topS 31
abbrev N_l_least : List Str := ["_law_rule_here", "_law_table", "_law_period", "_law_rise", "_law_step", "_law_start", "_law_one_here", "_law_more"]
theorem sc_l_least : FnScope N_l_least ["_law_rule_here"] (defScope s_l_least) := ⟨rfl, rfl, rfl, by decide +kernel, rfl, by decide +kernel, by decide +kernel⟩
theorem ok_l_least (T : Txt mg) (D : Df K mg "_law_least" s_l_least ["_law_rule_here"]) (C_l_value : Cal P w K mg base "_law_value" ["_law_rule_here", "_law_x"] 1 (sp_l_value K)) (C_l_repeats : Cal P w K mg base "_law_repeats" ["_law_rule_here", "_law_step", "_law_more"] 2 (sp_l_repeats K)) : Cal P w K mg base "_law_least" ["_law_rule_here"] 3 (sp_l_least K) := by
  obtain ⟨f_l_value, fd_l_value, G_l_value, m_l_value, k_l_value, b_l_value⟩ := C_l_value
  obtain ⟨f_l_repeats, fd_l_repeats, G_l_repeats, m_l_repeats, k_l_repeats, b_l_repeats⟩ := C_l_repeats
  refine D.cal sc_l_least (fun vs H Q E h => ?_) (fun f cdv A outer s H vs Q E hr h => ?_)
  · obtain ⟨d, T0, p, r, rfl, _⟩ := h
    rfl
  obtain ⟨d, T0, p, r, rfl, R, o, b, k⟩ := h
  obtain ⟨t, hd, ht⟩ := id R
  have p0 := o.p0
  have p1 := o.p1
  have bl := b.len
  have r0 := o.r0
  have ll := len_int T0
  refine ⟨_, (pss_cons (ps_asg (pv 0) (pg_tup (by rfl) (pgs_cons (pg_name (i := 1) sc_l_least.nd rfl (Or.inl rfl)) (pgs_cons (pg_name (i := 2) sc_l_least.nd rfl (Or.inl rfl)) (pgs_cons (pg_name (i := 3) sc_l_least.nd rfl (Or.inl rfl)) pgs_nil)))))
    (pss_cons (ps_par (i := 4) (j := 5) (by rfl) sc_l_least.nd rfl rfl (by decide) rfl rfl (pa_cons (pv 2) (pa_cons (pe_op op_sub (pe_callB call_len_seq (by rfl) T.n_len (by decide +kernel) (pa_cons (pv 1) pa_nil)) (pv 2)) pa_nil)) (by rfl))
    (pss_cut (ps_for PassesOwn.never rfl (pi_range2 (by rfl) T.n_range (pa_cons pe_int (pa_cons (pv 2) pa_nil))) (pg_name (i := 6) sc_l_least.nd rfl (Or.inl rfl))
      (pss_one (ps_if (PW.pt (pw_and (pt_cmpR op_eq (pv 4) (pv 2) (nomark _)) (pw_and (pt_cmpR op_eq (pe_op op_modN (pe_callTy call_int1 (by rfl) T.n_int (by decide +kernel) (pa_cons (pv 2) pa_nil)) (pv 6)) pe_int (nomark _)) (pw_and1 (pt_cmpR op_eq (pe_op op_modN (pe_callTy call_int1 (by rfl) T.n_int (by decide +kernel) (pa_cons (pe_op op_mul (pv 3) (pv 6)) pa_nil)) (pv 2)) pe_int (nomark _)))))) (pss_one (ps_if (pt_val (pe_call G_l_repeats (hr.mono (by decide)) (by rfl) m_l_repeats k_l_repeats b_l_repeats .nil pass0 (pa_cons (pv 0) (pa_cons (pv 6) (pa_cons (pe_op op_fdivW (pe_op op_mul (pv 3) (pv 6)) (pv 2)) pa_nil))))) (pss_one (ps_set (i := 4) sc_l_least.nd rfl (Or.inl rfl) (pv 6))) pss_nil)) pss_nil)))
    (pss_cons (ps_set (i := 7) sc_l_least.nd rfl (Or.inl rfl) (pe_op op_fdivW (pe_op op_mul (pv 3) (pv 4)) (pv 2)))
    (pss_cons (ps_while PassesOwn.never (PW.pt (pw_and (pt_cmpR op_gt (pv 5) pe_int (nomark _)) (pw_and1 (pt_cmpR op_eq (pe_call G_l_value (hr.mono (by decide)) (by rfl) m_l_value k_l_value b_l_value .nil pass0 (pa_cons (pv 0) (pa_cons (pe_op op_add (pe_op op_sub (pv 5) pe_int) (pv 4)) pa_nil))) (pe_op op_add (pe_ix ix_tup (pv 1) (pe_op op_sub (pv 5) pe_int) (fun _ _ => rfl)) (pv 7)) (nomark _)))))
      (pss_one (ps_set (i := 5) sc_l_least.nd rfl (Or.inl rfl) (pe_op op_sub (pv 5) pe_int))))
    (pss_one (ps_ret (pe_tup (pa_cons (pe_callTy call_tupleT (by rfl) T.n_tuple (by decide +kernel) (pa_cons (pe_slice sl_tupA (pv 1) po_none (po_some (pe_op op_add (pv 5) (pv 4)))) pa_nil)) (pa_cons (pv 4) (pa_cons (pv 7) pa_nil))))))))))), ?_⟩
  refine ⟨_, rfl, _, _, rfl, SqT.of hd, rfl, _, _, rfl, _, _, rfl, _, _, rfl, rfl, ?_⟩
  have z : ∀ B : Int → Prop, B ((T0.length - p : Nat) : Int) → B ((((T0.map V.int).length : Nat) : Int) - (p : Int)) := fun B h => by
    rw [ll, ← Int.natCast_sub p1]
    exact h
  refine ⟨_, rfl, _, rfl, _, _, rfl, .inr (SqT.of ht), _, rfl, _, _, rfl, rfl, _, _, rfl, ?_⟩
  refine z (fun y => tCut _ _ _ (List.set (List.set _ 4 (some (.int (p : Int)))) 5 (some (.int y))) H) ?_
  clear z
  refine ⟨fun σ H' => H' = H ∧ ∃ (s : Nat) (v : Option V), σ = [some (.ref d), some (.ref t), some (.int (p : Int)), some (.int r), some (.int (s : Int)), some (.int ((T0.length - p : Nat) : Int)), v, none] ∧ 1 ≤ s ∧ s ≤ p ∧ Rep T0 p r s (r * (s : Int) / (p : Int)) ∧ s ∣ p ∧ ∀ s' c', 0 < s' → s' < s → s' ∣ p → ¬ Rep T0 p r s' c', ?_, ?_⟩
  · refine ⟨_, rfl, _, _, rfl, ⟨by omega, by omega, by omega, by omega⟩, for_range (lo := _) (n := _) (fun i σ H' => H' = H ∧ ∃ (s : Nat) (v : Option V), σ = [some (.ref d), some (.ref t), some (.int (p : Int)), some (.int r), some (.int (s : Int)), some (.int ((T0.length - p : Nat) : Int)), v, none] ∧ 1 ≤ s ∧ s ≤ p ∧ Rep T0 p r s (r * (s : Int) / (p : Int)) ∧ s ∣ p ∧ (s = p ∨ s ≤ i) ∧ ∀ s' c', 0 < s' → s' < s → s' ≤ i → s' ∣ p → ¬ Rep T0 p r s' c')
      ⟨rfl, p, none, rfl, p0, Nat.le_refl _, ?_, Nat.dvd_refl _, .inl rfl, fun s' c' h1 _ h3 => absurd h1 (by omega)⟩ ?_ ?_⟩
    · rw [Int.mul_ediv_cancel _ (by omega)]
      exact rep_self o
    · rintro i σ H' hi ⟨rfl, s, v, rfl, s0, s1, hs, sd, sl, hm⟩
      have hi : i < p - 1 := by omega
      have one : (1 : Int) + (i : Int) = ((1 + i : Nat) : Int) := rfl
      have more : (∀ c', 1 + i ∣ p → ¬ Rep T0 p r (1 + i) c') → ∀ s' c', 0 < s' → s' < s → s' ≤ i + 1 → s' ∣ p → ¬ Rep T0 p r s' c' := by
        intro h s' c' h1 h2 h3 h4
        by_cases q : s' = 1 + i
        · subst q
          exact h c' h4
        · exact hm s' c' h1 h2 (by omega) h4
      have stay : s = p ∨ s ≤ i + 1 := sl.elim .inl fun h => .inr (by omega)
      refine ⟨_, rfl, _, rfl, rfl, _, rfl, ite3 (fun e => ?_) (fun e => ?_)⟩
      · have e : s = p := Int.ofNat.inj (V.int.inj e)
        refine ⟨_, rfl, .inl ⟨_, rfl, _, rfl, _, _, rfl, rfl, (by omega), rfl, _, rfl, ite3 (fun e2 => ?_) (fun e2 => ?_)⟩⟩
        · have dv : 1 + i ∣ p := dvd_of (V.int.inj e2)
          refine ⟨_, rfl, _, rfl, _, _, rfl, rfl, b.mulR' o, .inl ⟨_, rfl, _, rfl, _, _, rfl, rfl, (by omega), rfl, _, rfl, ite3 (fun e3 => ?_) (fun e3 => ?_)⟩⟩
          · refine ⟨_, rfl, _, rfl, _, rfl, _, rfl, _, _, rfl, rfl, b.mulR' o, _, rfl, _, _, rfl, rfl, b.div o, d, T0, p, r, 1 + i, _, rfl, R, o, b, fun bb hb => ⟨_, rfl, ?_⟩⟩
            cases bb with
            | true => exact iteT ⟨_, rfl, rfl, 1 + i, _, rfl, by omega, by omega, hb.mp rfl, dv, .inr (by omega), fun s' c' h1 h2 h3 h4 => hm s' c' h1 (by omega) (by omega) h4⟩
            | false => exact iteF ⟨rfl, s, _, rfl, s0, s1, hs, sd, stay, more fun c' d' rep => by
                have q := (rep_quot o d' rep).1
                have h := hb.mpr (by rw [← q] at rep; exact rep)
                cases h⟩
          · exact ⟨rfl, s, _, rfl, s0, s1, hs, sd, stay, more fun c' d' rep => e3 (congrArg V.int ((Int.fmod_eq_emod_of_nonneg _ (by omega)).trans (rep_quot o d' rep).2))⟩
        · exact iteF ⟨rfl, s, _, rfl, s0, s1, hs, sd, stay, more fun c' d' rep => e2 (congrArg V.int (of_dvd d'))⟩
      · refine iteF ⟨rfl, s, _, rfl, s0, s1, hs, sd, stay, fun s' c' h1 h2 h3 h4 => ?_⟩
        have ne : s ≠ p := fun q => e (by rw [q])
        exact hm s' c' h1 h2 (by omega) h4
    · rintro σ H' ⟨rfl, s, v, rfl, s0, s1, hs, sd, sl, hm⟩
      exact ⟨rfl, s, v, rfl, s0, s1, hs, sd, fun s' c' h1 h2 h4 => hm s' c' h1 h2 (by omega) h4⟩
  · rintro σ H' ⟨rfl, s, v, rfl, s0, s1, hs, sd, hm⟩
    have c0 : 0 ≤ r * (s : Int) / (p : Int) := Int.ediv_nonneg (Int.mul_nonneg r0 (by omega)) (by omega)
    have c1 : r * (s : Int) / (p : Int) ≤ r := by
      have h1 : r * (s : Int) ≤ r * (p : Int) := Int.mul_le_mul_of_nonneg_left (by omega) r0
      have h2 := Int.ediv_le_ediv (show (0 : Int) < (p : Int) by omega) h1
      rw [Int.mul_ediv_cancel _ (by omega)] at h2
      exact h2
    refine ⟨_, rfl, _, rfl, _, _, rfl, rfl, b.mulR' o, _, rfl, _, _, rfl, rfl, b.div o, ?_⟩
    have all := rep_all o hs
    obtain ⟨c, ec⟩ : ∃ c, c = r * (s : Int) / (p : Int) := ⟨_, rfl⟩
    rw [← ec] at c0 c1 all
    refine ⟨LeastW d t T0 p r s c v H', ⟨T0.length - p, by rw [ec]; rfl, rfl, Nat.le_refl _, all⟩, ?_⟩
    rintro m σ H'' ⟨rfl, rfl, al, ha⟩
    -- the end, from any start
    have fin : (m = 0 ∨ vl T0 p r (m - 1 + s) ≠ T0.getD (m - 1) 0 + c) → ∀ (H2 : Hp) (t' : Addr), Same H'' H2 → H2 t' = some (.tup ((T0.take (m + s)).map V.int)) → ∀ q, H2 q = none → Q (.ref q) (upd H2 q (.tup [.ref t', .int (s : Int), .int c])) := by
      intro st H2 t' sm h2 q nq
      have sq := same_upd (o := .tup [.ref t', .int (s : Int), .int c]) nq
      refine k _ q (T0.take (m + s)) s c (sm.trans sq) ⟨t', upd_same, sq _ _ h2⟩ ⟨?_, s1, c1, fun i hi => ?_⟩ (cut_short o s0 sd al c0 ha hm st) (cut_vl s0 (by omega) ha)
      · rw [List.length_take]
        omega
      · rw [List.length_take] at hi
        exact getD_take (by omega)
    refine ⟨_, rfl, _, _, rfl, rfl, _, rfl, ?_⟩
    by_cases e : (0 : Int) < (m : Int)
    · have e1 : (m : Int) - 1 = ((m - 1 : Nat) : Int) := by omega
      have e2 : (m : Int) - 1 + (s : Int) = ((m - 1 + s : Nat) : Int) := by omega
      refine iteP e ⟨_, rfl, _, rfl, _, _, rfl, rfl, _, rfl, _, _, rfl, rfl, d, T0, p, r, m - 1 + s, congrArg (fun z => [V.ref d, V.int z]) e2, R, o, b, _, rfl, _, rfl, _, _, rfl, rfl, _, _, _, _, rfl, rfl, SqT.of ht, at_of e1 (get_int (by omega)), _, rfl, _, _, rfl, rfl, rfl, _, rfl, ?_⟩
      by_cases e3 : vl T0 p r (m - 1 + s) = T0.getD (m - 1) 0 + c
      · refine iteP (congrArg V.int e3) ⟨LeastW d t T0 p r s c v H'' (m - 1), fun σ' H3 hw => ⟨m - 1, by omega, hw⟩, _, rfl, _, _, rfl, rfl, ?_⟩
        refine ⟨by rw [← e1]; rfl, rfl, by omega, fun y hy => ?_⟩
        by_cases q : y = m - 1
        · rw [q, e3, vl_lt (by omega)]
        · exact ha y (by omega)
      · refine iteN (fun q => e3 (V.int.inj q)) ?_
        refine ⟨_, rfl, _, rfl, _, rfl, _, _, rfl, rfl, _, rfl, _, _, rfl, SqT.of ht, fun wh => ?_, fun _ p' np' => ?_⟩
        · have w2 : min (m + s) (T0.map V.int).length = (T0.map V.int).length := (HT.sIx_nat _ _ (m + s)).symm.trans wh.2
          rw [List.length_map] at w2
          exact ⟨_, _, rfl, SqT.of ht, _, rfl, _, rfl, (by show 3 ≤ sizeLine; decide), fun q nq => fin (.inr e3) _ t (Same.refl _) (by rw [List.take_of_length_le (by omega)]; exact ht) q nq⟩
        · exact ⟨_, _, rfl, SqT.of upd_same, _, rfl, _, rfl, (by show 3 ≤ sizeLine; decide), fun q nq => fin (.inr e3) _ p' (same_upd np') (by rw [upd_same, show cutV (T0.map V.int) none (some ((m : Int) + (s : Int))) = cutV (T0.map V.int) none (some ((m + s : Nat) : Int)) from rfl, cut_all, List.map_take]) q nq⟩
    · refine iteN e (iteF ?_)
      refine ⟨_, rfl, _, rfl, _, rfl, _, _, rfl, rfl, _, rfl, _, _, rfl, SqT.of ht, fun wh => ?_, fun _ p' np' => ?_⟩
      · have w2 : min (m + s) (T0.map V.int).length = (T0.map V.int).length := (HT.sIx_nat _ _ (m + s)).symm.trans wh.2
        rw [List.length_map] at w2
        exact ⟨_, _, rfl, SqT.of ht, _, rfl, _, rfl, (by show 3 ≤ sizeLine; decide), fun q nq => fin (.inl (by omega)) _ t (Same.refl _) (by rw [List.take_of_length_le (by omega)]; exact ht) q nq⟩
      · exact ⟨_, _, rfl, SqT.of upd_same, _, rfl, _, rfl, (by show 3 ≤ sizeLine; decide), fun q nq => fin (.inl (by omega)) _ p' (same_upd np') (by rw [upd_same, show cutV (T0.map V.int) none (some ((m : Int) + (s : Int))) = cutV (T0.map V.int) none (some ((m + s : Nat) : Int)) from rfl, cut_all, List.map_take]) q nq⟩
end
end Sm

set_option Elab.async false
set_option linter.all false
set_option maxRecDepth 100000
set_option maxHeartbeats 16000000
namespace Sm
open PySem PySem.Spec PyProof.Rows L2
section
variable {P : Program} {w : World} {K : PySem.W.Frag} {mg : Str → Option Value} {base : Heap}
abbrev s_l_rule : Stmt := topS 32
abbrev N_l_rule : List Str := ["_law_deck_here", "_law_long", "_law_wide", "_law_tall", "_law_start", "_law_period", "_law_table", "_law_k", "_law_rise"]
theorem sc_l_rule : FnScope N_l_rule ["_law_deck_here", "_law_long", "_law_wide", "_law_tall"] (defScope s_l_rule) := ⟨rfl, rfl, rfl, by decide +kernel, rfl, by decide +kernel, by decide +kernel⟩
/-- what a draw needs of the deck, and an item of a list of four -/
theorem list_ne {H : Hp} {p l b : Addr} {n : Int} {xs : List V} (D : Deck H p l n) (h : H b = none) : b ≠ p ∧ b ≠ l := D.lne h
theorem ok_l_rule (T : Txt mg) (D : Df K mg "_law_rule" s_l_rule ["_law_deck_here", "_law_long", "_law_wide", "_law_tall"]) (C_l_least : Cal P w K mg base "_law_least" ["_law_rule_here"] 3 (sp_l_least K)) (C_l_draw : Cal P w K mg base "_law_draw" ["_law_deck_here", "_law_many"] 1 (sp_l_draw K)) : Cal P w K mg base "_law_rule" ["_law_deck_here", "_law_long", "_law_wide", "_law_tall"] 4 (sp_l_rule K) := by
  obtain ⟨f_l_least, fd_l_least, G_l_least, m_l_least, k_l_least, b_l_least⟩ := C_l_least
  obtain ⟨f_l_draw, fd_l_draw, G_l_draw, m_l_draw, k_l_draw, b_l_draw⟩ := C_l_draw
  refine D.cal sc_l_rule (fun vs H Q E h => ?_) (fun f cdv A outer s H vs Q E hr h => ?_)
  · obtain ⟨p, l, n, long, wide, tall, M, rfl, _⟩ := h
    rfl
  obtain ⟨p, l, n, long, wide, tall, M, rfl, D0, n0, n1, lo0, lo1, wi0, wi1, ta0, ta1, hM, M1, k⟩ := h
  refine ⟨_, (pss_cons (ps_par (i := 4) (j := 5) (by rfl) sc_l_rule.nd rfl rfl (by decide) rfl rfl (pa_cons (pe_call G_l_draw (hr.mono (by decide)) (by rfl) m_l_draw k_l_draw b_l_draw .nil pass0 (pa_cons (pv 0) (pa_cons (pe_op op_add (pv 1) pe_int) pa_nil))) (pa_cons (pe_op op_add pe_int (pe_call G_l_draw (hr.mono (by decide)) (by rfl) m_l_draw k_l_draw b_l_draw .nil pass0 (pa_cons (pv 0) (pa_cons (pv 2) pa_nil)))) pa_nil)) (by rfl))
    (pss_cons (ps_set (i := 6) sc_l_rule.nd rfl (Or.inl rfl) (pe_lst (pa_cons (pe_ix ix_list (pe_lst (pa_cons pe_int (pa_cons pe_int (pa_cons pe_int (pa_cons (pe_call G_l_draw (hr.mono (by decide)) (by rfl) m_l_draw k_l_draw b_l_draw .nil pass0 (pa_cons (pv 0) (pa_cons (pe_op op_add (pv 3) pe_int) pa_nil))) pa_nil))))) (pe_call G_l_draw (hr.mono (by decide)) (by rfl) m_l_draw k_l_draw b_l_draw .nil pass0 (pa_cons (pv 0) (pa_cons pe_int pa_nil))) (fun _ _ => rfl)) pa_nil)))
    (pss_cons (ps_for PassesOwn.never rfl (pi_range1 (by rfl) T.n_range (pa_cons (pe_op op_sub (pe_op op_add (pv 4) (pv 5)) pe_int) pa_nil)) (pg_name (i := 7) sc_l_rule.nd rfl (Or.inl rfl))
      (pss_one (ps_expr (pe_bm PySem.F.plainAttrs_list PySem.F.slot_list_append PySem.F.type_list_append mt_append (pv 6) (pa_cons (pe_op op_add (pe_ix ix_list (pv 6) (pe_un un_neg pe_int) (fun _ _ => rfl)) (pe_ix ix_list (pe_lst (pa_cons pe_int (pa_cons pe_int (pa_cons pe_int (pa_cons (pe_call G_l_draw (hr.mono (by decide)) (by rfl) m_l_draw k_l_draw b_l_draw .nil pass0 (pa_cons (pv 0) (pa_cons (pe_op op_add (pv 3) pe_int) pa_nil))) pa_nil))))) (pe_call G_l_draw (hr.mono (by decide)) (by rfl) m_l_draw k_l_draw b_l_draw .nil pass0 (pa_cons (pv 0) (pa_cons pe_int pa_nil))) (fun _ _ => rfl))) pa_nil)))))
    (pss_cons (ps_if (pt_cmpR op_eq (pe_call G_l_draw (hr.mono (by decide)) (by rfl) m_l_draw k_l_draw b_l_draw .nil pass0 (pa_cons (pv 0) (pa_cons pe_int pa_nil))) pe_int (nomark _)) (pss_one (ps_ret (pe_call G_l_least (hr.mono (by decide)) (by rfl) m_l_least k_l_least b_l_least .nil pass0 (pa_cons (pe_tup (pa_cons (pe_callTy call_tuple_of (by rfl) T.n_tuple (by decide +kernel) (pa_cons (pv 6) pa_nil)) (pa_cons pe_int (pa_cons pe_int pa_nil)))) pa_nil)))) pss_nil)
    (pss_cons (ps_set (i := 8) sc_l_rule.nd rfl (Or.inl rfl) (pe_op op_add (pe_op op_sub (pe_ix ix_list (pv 6) (pe_un un_neg pe_int) (fun _ _ => rfl)) (pe_ix ix_list (pv 6) (pv 4) (fun _ _ => rfl))) (pe_ix ix_list (pe_lst (pa_cons pe_int (pa_cons pe_int (pa_cons pe_int (pa_cons (pe_call G_l_draw (hr.mono (by decide)) (by rfl) m_l_draw k_l_draw b_l_draw .nil pass0 (pa_cons (pv 0) (pa_cons (pe_op op_add (pv 3) pe_int) pa_nil))) pa_nil))))) (pe_call G_l_draw (hr.mono (by decide)) (by rfl) m_l_draw k_l_draw b_l_draw .nil pass0 (pa_cons (pv 0) (pa_cons pe_int pa_nil))) (fun _ _ => rfl))))
    (pss_one (ps_ret (pe_call G_l_least (hr.mono (by decide)) (by rfl) m_l_least k_l_least b_l_least .nil pass0 (pa_cons (pe_tup (pa_cons (pe_callTy call_tuple_of (by rfl) T.n_tuple (by decide +kernel) (pa_cons (pv 6) pa_nil)) (pa_cons (pv 5) (pa_cons (pv 8) pa_nil)))) pa_nil))))))))), ?_⟩
  -- start, period
  refine ⟨_, rfl, _, rfl, _, _, rfl, rfl, p, l, n, _, rfl, D0, n0, by omega, by omega, by omega, fun rs H1 rs0 rs1 f1 D1 => ?_⟩
  refine ⟨_, rfl, _, rfl, p, l, n + 1, _, rfl, D1, by omega, by omega, by omega, by omega, fun rp H2 rp0 rp1 f2 D2 => ?_⟩
  refine ⟨_, _, rfl, rfl, _, _, rfl, ?_⟩
  -- the table's first item
  refine ⟨_, rfl, _, rfl, _, _, rfl, rfl, p, l, n + 1 + 1, _, rfl, D2, by omega, by omega, by omega, by omega, fun a H3 a0 a1 f3 D3 => ?_⟩
  refine ⟨(by show 4 ≤ sizeLine; decide), fun b nb => ?_⟩
  have sb := same_upd (o := .lst [.int 0, .int 0, .int 0, .int a]) nb
  obtain ⟨bp, bl⟩ := D3.lne nb
  refine ⟨_, rfl, p, l, n + 1 + 1 + 1, 4, rfl, D3.same sb, by omega, by omega, by omega, by omega, fun i4 H4 i40 i41 f4 D4 => ?_⟩
  obtain ⟨z, hz, zz⟩ := pick4 (a := 0) (b := 0) (c := 0) (d := a) i40 i41
  have z0 : 0 ≤ z := by omega
  have z1 : z ≤ tall + 1 := by omega
  refine ⟨_, _, _, _, rfl, rfl, SqL.of (f4 b _ bp bl upd_same), at_of (j := i4.toNat) (by omega) hz, ?_⟩
  refine ⟨(by show 1 ≤ sizeLine; decide), fun L nL => ?_⟩
  obtain ⟨Lp, Ll⟩ := D4.lne nL
  have sL := same_upd (o := .lst [.int z]) nL
  have fr : Fr p l H (upd H4 L (.lst [.int z])) := (f1.trans (f2.trans (f3.trans ((Same.fr sb).trans f4)))).trans (Same.fr sL)
  have D5 := D4.same sL
  have hn : ∀ b o, H b = some o → b ≠ L := by
    intro b o hb e
    subst e
    by_cases q1 : b = p
    · exact Lp q1
    · by_cases q2 : b = l
      · exact Ll q2
      · have := (f1.trans (f2.trans (f3.trans ((Same.fr sb).trans f4)))) b o q1 q2 hb
        rw [nL] at this
        cases this
  -- the loop
  refine ⟨_, rfl, _, rfl, _, _, rfl, rfl, _, _, rfl, rfl, _, rfl, (by omega), (by omega), ?_⟩
  refine for_range (lo := 0) (n := _) (fun i σ H' => ∃ (n' : Int) (T0 : List Int) (v : Option V), σ = [some (.ref p), some (.int long), some (.int wide), some (.int tall), some (.int rs), some (.int (1 + rp)), some (.ref L), v, none] ∧
      Deck H' p l n' ∧ n ≤ n' ∧ n' ≤ n + 4 + 2 * (i : Int) ∧ Fr p l H H' ∧ H' L = some (.lst (T0.map V.int)) ∧ T0.length = i + 1 ∧ Tb (tall + 1) T0)
    ⟨_, [z], none, rfl, D5, by omega, by omega, fr, upd_same, rfl, ⟨by omega, by show 0 < 1; decide, fun i hi => ?_, fun i hi => ?_, fun i hi => ?_, fun i hi => ?_⟩⟩ ?_ ?_
  · have hi : i < 1 := hi
    rw [show i = 0 by omega]
    exact z0
  · have hi : i + 1 < 1 := hi
    omega
  · have hi : i < 1 := hi
    rw [show i = 0 by omega]
    show z ≤ (tall + 1) * (((0 : Nat) : Int) + 1)
    rw [show (((0 : Nat) : Int) + 1) = 1 from rfl, Int.mul_one]
    exact z1
  · have hi : i + 1 < 1 := hi
    omega
  · rintro i σ H' hi ⟨n', T0, v, rfl, D', m0, m1, f', hL, hT, tb⟩
    have hi : i < (rs + (1 + rp) - 1).toNat := hi
    refine ⟨_, rfl, .inl ⟨rfl, _, SqL.of hL⟩, ?_⟩
    refine ⟨_, rfl, _, rfl, _, _, _, _, rfl, rfl, SqL.of hL, last_int tb.ne, ?_⟩
    refine ⟨_, rfl, _, rfl, _, _, rfl, rfl, p, l, n', _, rfl, D', by omega, by omega, by omega, by omega, fun a' H6 a0' a1' f6 D6 => ?_⟩
    refine ⟨(by show 4 ≤ sizeLine; decide), fun b' nb' => ?_⟩
    have sb' := same_upd (o := .lst [.int 0, .int 0, .int 1, .int a']) nb'
    obtain ⟨bp', bl'⟩ := D6.lne nb'
    refine ⟨_, rfl, p, l, n' + 1, 4, rfl, D6.same sb', by omega, by omega, by omega, by omega, fun i5 H7 i50 i51 f7 D7 => ?_⟩
    obtain ⟨c, hc, cc⟩ := pick4 (a := 0) (b := 0) (c := 1) (d := a') i50 i51
    have c0 : 0 ≤ c := by omega
    have c1 : c ≤ tall + 1 - 1 := by omega
    have hL7 : H7 L = some (.lst (T0.map V.int)) := f7 L _ Lp Ll (sb' _ _ (f6 L _ Lp Ll hL))
    refine ⟨_, _, _, _, rfl, rfl, SqL.of (f7 b' _ bp' bl' upd_same), at_of (j := i5.toNat) (by omega) hc, _, _, rfl, rfl, L, _, _, rfl, rfl, hL7, ?_, ?_⟩
    · rw [List.length_map, hT]
      exact small1000 (by omega)
    · have fL : Fr p l H (upd H7 L (.lst ((T0 ++ [T0.getD (T0.length - 1) 0 + c]).map V.int))) := by
        intro b o h1 h2 hb
        rw [upd_ne (hn b o hb)]
        exact (f'.trans (f6.trans ((Same.fr sb').trans f7))) b o h1 h2 hb
      refine ⟨n' + 1 + 1, T0 ++ [T0.getD (T0.length - 1) 0 + c], _, rfl, ⟨by rw [upd_ne Lp.symm]; exact D7.hp, ?_⟩, by omega, by omega, ?_, ?_, ?_, tb.more c0 c1⟩
      · obtain ⟨cells, q1, q2⟩ := D7.hl
        exact ⟨cells, by rw [upd_ne Ll.symm]; exact q1, q2⟩
      · rw [List.map_append] at fL
        exact fL
      · rw [upd_same, List.map_append]
        rfl
      · rw [List.length_append, List.length_singleton, hT]
  · rintro σ H' ⟨n', T0, v, rfl, D', m0, m1, f', hL, hT, tb⟩
    have hlen : (T0.length : Int) = rs + (1 + rp) := by omega
    have small : T0.length ≤ 300 := by omega
    have line : T0.length ≤ sizeLine := Nat.le_trans small (by decide)
    have hN : (T0.length : Int) ≤ long + wide := by omega
    have topI := tb.all hN hM
    have s240 : T0.length ≤ 240 := by omega
    have C0 := tb.c0
    have len9 : ∀ {T : List Int}, T.length ≤ T0.length → (T.length : Int) ≤ long + wide := fun {T} h => by omega
    have m0 : 0 ≤ M := by have := topI 0 tb.ne; have := tb.nn 0 tb.ne; omega
    refine ⟨_, rfl, p, l, n', 5, rfl, D', by omega, by omega, by omega, by omega, fun r5 H6 r50 r51 f6 D6 => ?_⟩
    have hL6 := f6 L _ Lp Ll hL
    refine ⟨rfl, _, rfl, ite3 (fun e => ?_) (fun e => ?_)⟩
    · -- a level rule
      refine ⟨_, rfl, L, _, rfl, .inl ⟨SqL.of hL6, fun t nt => ?_⟩⟩
      have st := same_upd (o := .tup (T0.map V.int)) nt
      refine ⟨(by show 3 ≤ sizeLine; decide), fun d nd => ?_⟩
      have sd := same_upd (o := .tup [.ref t, .int 1, .int 0]) nd
      refine ⟨d, T0, 1, 0, rfl, ⟨t, upd_same, sd _ _ upd_same⟩, tb.level, (tb.rsM hN hM s240 (by omega) m0).rb (by omega), fun H9 d' T' p' r' s9 hr' hc hsh hv => ?_⟩
      have s := st.trans (sd.trans s9)
      exact k H9 d' T' p' r' (n' + 1) (f'.trans (f6.trans (Same.fr s))) (D6.same s) (by omega) (by omega) hr' (hc.rs (tb.rsM hN hM s240 (by omega) m0)) (len9 hc.len) hsh (by have := hc.turn; omega) (by have := hc.rise; have := hsh.ok.r0; rw [show r' = 0 by omega]; exact Int.mul_nonneg (by omega) (by omega))
    · -- a rising rule
      have gs : (T0.map V.int)[rs.toNat]? = some (.int (T0.getD rs.toNat 0)) := get_int (by omega)
      refine ⟨_, rfl, _, rfl, _, _, _, _, rfl, rfl, SqL.of hL6, last_int tb.ne, _, rfl, _, rfl, _, _, _, _, rfl, rfl, SqL.of hL6, at_of (j := rs.toNat) (by omega) gs, _, _, rfl, rfl, ?_⟩
      refine ⟨_, rfl, _, rfl, _, _, rfl, rfl, p, l, n' + 1, _, rfl, D6, by omega, by omega, by omega, by omega, fun a' H7 a0' a1' f7 D7 => ?_⟩
      refine ⟨(by show 4 ≤ sizeLine; decide), fun b' nb' => ?_⟩
      have sb' := same_upd (o := .lst [.int 0, .int 0, .int 1, .int a']) nb'
      obtain ⟨bp', bl'⟩ := D7.lne nb'
      refine ⟨_, rfl, p, l, n' + 1 + 1, 4, rfl, D7.same sb', by omega, by omega, by omega, by omega, fun i5 H8 i50 i51 f8 D8 => ?_⟩
      obtain ⟨c, hc, cc⟩ := pick4 (a := 0) (b := 0) (c := 1) (d := a') i50 i51
      have c0 : 0 ≤ c := by omega
      have c1 : c ≤ tall + 1 - 1 := by omega
      have hL8 : H8 L = some (.lst (T0.map V.int)) := f8 L _ Lp Ll (sb' _ _ (f7 L _ Lp Ll hL6))
      refine ⟨_, _, _, _, rfl, rfl, SqL.of (f8 b' _ bp' bl' upd_same), at_of (j := i5.toNat) (by omega) hc, _, _, rfl, rfl, ?_⟩
      refine ⟨_, rfl, L, _, rfl, .inl ⟨SqL.of hL8, fun t nt => ?_⟩⟩
      have st := same_upd (o := .tup (T0.map V.int)) nt
      refine ⟨_, rfl, _, rfl, (by show 3 ≤ sizeLine; decide), fun d nd => ?_⟩
      have ep : (1 : Int) + rp = (((1 + rp).toNat : Nat) : Int) := by omega
      have er : T0.length - (1 + rp).toNat = rs.toNat := by omega
      have ok := tb.rising (p := (1 + rp).toNat) (c := c) (by omega) (by omega) c0
      rw [er] at ok
      have t1 := topI (T0.length - 1) (by omega)
      have sl : T0.getD (T0.length - 1) 0 - T0.getD rs.toNat 0 + c ≤ tall * (((1 + rp).toNat : Nat) : Int) := by
        have a := tb.slope rs.toNat (T0.length - 1 - rs.toNat) (by omega)
        rw [show rs.toNat + (T0.length - 1 - rs.toNat) = T0.length - 1 by omega] at a
        have e : (((1 + rp).toNat : Nat) : Int) = ((T0.length - 1 - rs.toNat : Nat) : Int) + 1 := by omega
        rw [show tall + 1 - 1 = tall by omega] at a
        rw [e, Int.mul_add, Int.mul_one]
        omega
      have t2 := tb.nn rs.toNat (by omega)
      have sd := same_upd (o := .tup [.ref t, .int (1 + rp), .int (T0.getD (T0.length - 1) 0 - T0.getD rs.toNat 0 + c)]) nd
      refine ⟨d, T0, (1 + rp).toNat, T0.getD (T0.length - 1) 0 - T0.getD rs.toNat 0 + c, rfl, ⟨t, by rw [← ep]; exact upd_same, sd _ _ upd_same⟩, ok, (tb.rsM hN hM s240 (by omega) (by omega)).rb (by omega), fun H9 d' T' p' r' s9 hr' hc hsh hv => ?_⟩
      have s := st.trans (sd.trans s9)
      exact k H9 d' T' p' r' (n' + 1 + 1 + 1) (f'.trans (f6.trans (f7.trans ((Same.fr sb').trans (f8.trans (Same.fr s)))))) (D8.same s) (by omega) (by omega) hr' (hc.rs (tb.rsM hN hM s240 (by omega) (by omega))) (len9 hc.len) hsh (by have := hc.turn; omega) (slope_le (by omega) (slope_eq ok hsh.ok hv) sl)
end
end Sm

set_option Elab.async false
set_option linter.all false
set_option maxRecDepth 100000
set_option maxHeartbeats 16000000
namespace Sm
open PySem PySem.Spec PyProof.Rows L2
open C8 (pss_cut tCut)
theorem RS.vl {M : Int} {T : List Int} {p : Nat} {r : Int} (o : RuleOk T p r) (b : RS M T p r) (hM : 0 ≤ M) : ∀ x : Nat, vl T p r x ≤ M * ((x : Int) + 1) := by
  intro x
  induction x using Nat.strongRecOn with
  | _ x ih =>
    have p0 := o.p0
    have p1 := o.p1
    have r1 := b.r1
    by_cases q : x < T.length
    · rw [vl_lt q]
      have h1 := b.top x q
      have h2 : M * 1 ≤ M * ((x : Int) + 1) := Int.mul_le_mul_of_nonneg_left (by omega) hM
      omega
    · rw [vl_step p0 o.p1 (by omega)]
      have h1 := ih (x - p) (by omega)
      have h2 : M * (((x - p : Nat) : Int) + 1 + 1) ≤ M * ((x : Int) + 1) := Int.mul_le_mul_of_nonneg_left (by omega) hM
      rw [Int.mul_add M (((x - p : Nat) : Int) + 1) 1] at h2
      omega
def vals (T : List Int) (p : Nat) (r : Int) (n : Nat) : List Int := (List.range n).map (vl T p r)
def sp_begin_of (_ : PySem.W.Frag) : Sp := fun vs H Q _ => ∃ (d : Addr) (T : List Int) (p : Nat) (r : Int), vs = [.ref d] ∧ RuleAt H d T p r ∧ p ≤ T.length ∧ Q (.int ((T.length - p : Nat) : Int)) H
def sp_rise_in (_ : PySem.W.Frag) : Sp := fun vs H Q _ => ∃ (d : Addr) (T : List Int) (p : Nat) (r : Int) (t : Nat), vs = [.ref d, .int (t : Int)] ∧ RuleAt H d T p r ∧ RuleOk T p r ∧ RB T p r ∧ Q (.int (r * ((t / p : Nat) : Int))) H
def sp_common_turn (_ : PySem.W.Frag) : Sp := fun vs H Q _ => ∃ (d1 d2 : Addr) (T1 T2 : List Int) (p1 p2 : Nat) (r1 r2 : Int), vs = [.ref d1, .ref d2] ∧ RuleAt H d1 T1 p1 r1 ∧ RuleAt H d2 T2 p2 r2 ∧ p1 ≤ T1.length ∧ p2 ≤ T2.length ∧ p1 ≤ 40 ∧ p2 ≤ 40 ∧
  ∀ H' q, Same H H' → H' q = some (.tup [.int ((max (T1.length - p1) (T2.length - p2) : Nat) : Int), .int ((Nat.lcm p1 p2 : Nat) : Int)]) → Q (.ref q) H'
def sp_values_to (_ : PySem.W.Frag) : Sp := fun vs H Q _ => ∃ (d : Addr) (T : List Int) (p : Nat) (r : Int) (n : Nat), vs = [.ref d, .int (n : Int)] ∧ RuleAt H d T p r ∧ RuleOk T p r ∧ RB T p r ∧ n ≤ 20000 ∧
  ∀ H' q, Same H H' → (∀ b o, H b = some o → b ≠ q) → H' q = some (.lst ((vals T p r n).map V.int)) → Q (.ref q) H'
theorem ps_no {X : Cx} {st : Stmt} : PS X st (fun _ _ _ => False) := by
  constructor
  intros
  contradiction
section
variable {X : Cx}
theorem cr_lcm : CallR X (.builtin "math.lcm") (fun vs H Q => ∃ a b : Nat, vs = [.int (a : Int), .int (b : Int)] ∧ a < 1000000 ∧ b < 1000000 ∧ Q (.int ((Nat.lcm a b : Nat) : Int)) H) := by
  intro pins s σ H vs us Q I r h
  obtain ⟨a, b, rfl, ha, hb, q⟩ := h
  obtain ⟨t, u, rfl⟩ := Vals.int2 r
  refine PySem.W.mc_lcm (by omega) (by omega) fun _ => ?_
  rw [Int.natAbs_natCast, Int.natAbs_natCast]
  exact ⟨.int _, H, I.tok _, ⟨_, rfl⟩, q⟩
end
theorem vals_len (T : List Int) (p : Nat) (r : Int) (n : Nat) : (vals T p r n).length = n := by unfold vals; rw [List.length_map, List.length_range]
theorem vals_get {T : List Int} {p : Nat} {r : Int} {n i : Nat} (h : i < n) : ((vals T p r n).map V.int)[i]? = some (.int (vl T p r i)) := by
  unfold vals
  rw [List.getElem?_map, List.getElem?_map, List.getElem?_range h]
  rfl
theorem vals_take {T : List Int} {p : Nat} {r : Int} {n : Nat} (h : n ≤ T.length) : T.take n = vals T p r n := by
  refine List.ext_getElem? fun i => ?_
  unfold vals
  by_cases q : i < n
  · rw [List.getElem?_take_of_lt q, List.getElem?_map, List.getElem?_range q, List.getElem?_eq_getElem (by omega)]
    show some _ = some (vl T p r i)
    rw [vl_lt (by omega), List.getD_eq_getElem?_getD, List.getElem?_eq_getElem (by omega)]
    rfl
  · rw [List.getElem?_eq_none (by rw [List.length_take]; omega), List.getElem?_eq_none (by rw [List.length_map, List.length_range]; omega)]
theorem vals_succ {T : List Int} {p : Nat} {r : Int} {n : Nat} : vals T p r (n + 1) = vals T p r n ++ [vl T p r n] := by
  unfold vals
  rw [List.range_succ, List.map_append]
  rfl
section
variable {P : Program} {w : World} {K : PySem.W.Frag} {mg : Str → Option Value} {base : Heap}
abbrev s_begin_of : Stmt := topS 14
abbrev N_begin_of : List Str := ["rule"]
theorem sc_begin_of : FnScope N_begin_of ["rule"] (defScope s_begin_of) := ⟨rfl, rfl, rfl, by decide +kernel, rfl, by decide +kernel, by decide +kernel⟩
theorem ok_begin_of (T : Txt mg) (D : Df K mg "begin_of" s_begin_of ["rule"]) : Cal P w K mg base "begin_of" ["rule"] 1 (sp_begin_of K) := by
  refine D.cal sc_begin_of (fun vs H Q E h => ?_) (fun f cdv A outer s H vs Q E hr h => ?_)
  · obtain ⟨d, T0, p, r, rfl, _⟩ := h
    rfl
  obtain ⟨d, T0, p, r, rfl, ⟨t, hd, ht⟩, p1, k⟩ := h
  refine ⟨_, (pss_one (ps_ret (pe_op op_sub (pe_callB call_len_seq (by rfl) T.n_len (by decide +kernel) (pa_cons (pe_ix ix_tup (pv 0) pe_int (fun _ _ => rfl)) pa_nil)) (pe_ix ix_tup (pv 0) pe_int (fun _ _ => rfl))))), ?_⟩
  refine ⟨_, rfl, _, _, _, _, rfl, rfl, SqT.of hd, atI_nat (j := 0) rfl, _, _, rfl, .inr (SqT.of ht), _, rfl, _, _, _, _, rfl, rfl, SqT.of hd, atI_nat (j := 1) rfl, _, _, rfl, rfl, ?_⟩
  have e : (((T0.map V.int).length : Nat) : Int) - (p : Int) = ((T0.length - p : Nat) : Int) := by rw [len_int]; omega
  have k := k
  rw [← e] at k
  exact k
abbrev s_rise_in : Stmt := topS 15
abbrev N_rise_in : List Str := ["rule", "turn"]
theorem sc_rise_in : FnScope N_rise_in ["rule", "turn"] (defScope s_rise_in) := ⟨rfl, rfl, rfl, by decide +kernel, rfl, by decide +kernel, by decide +kernel⟩
theorem ok_rise_in (T : Txt mg) (D : Df K mg "rise_in" s_rise_in ["rule", "turn"]) : Cal P w K mg base "rise_in" ["rule", "turn"] 1 (sp_rise_in K) := by
  refine D.cal sc_rise_in (fun vs H Q E h => ?_) (fun f cdv A outer s H vs Q E hr h => ?_)
  · obtain ⟨d, T0, p, r, t, rfl, _⟩ := h
    rfl
  obtain ⟨d, T0, p, r, n, rfl, ⟨t, hd, ht⟩, o, b, k⟩ := h
  refine ⟨_, (pss_one (ps_ret (pe_op op_mul (pe_ix ix_tup (pv 0) pe_int (fun _ _ => rfl)) (pe_op op_fdivW (pv 1) (pe_ix ix_tup (pv 0) pe_int (fun _ _ => rfl)))))), ?_⟩
  exact ⟨_, rfl, _, _, _, _, rfl, rfl, SqT.of hd, atI_nat (j := 2) rfl, _, rfl, _, rfl, _, _, _, _, rfl, rfl, SqT.of hd, atI_nat (j := 1) rfl, _, _, rfl, rfl, b.div o, _, _, rfl, rfl, b.mulR' o, k⟩
abbrev s_common_turn : Stmt := topS 16
abbrev N_common_turn : List Str := ["one", "other"]
theorem sc_common_turn : FnScope N_common_turn ["one", "other"] (defScope s_common_turn) := ⟨rfl, rfl, rfl, by decide +kernel, rfl, by decide +kernel, by decide +kernel⟩
theorem ok_common_turn (T : Txt mg) (D : Df K mg "common_turn" s_common_turn ["one", "other"]) (C_begin_of : Cal P w K mg base "begin_of" ["rule"] 1 (sp_begin_of K)) : Cal P w K mg base "common_turn" ["one", "other"] 2 (sp_common_turn K) := by
  obtain ⟨f_begin_of, fd_begin_of, G_begin_of, m_begin_of, k_begin_of, b_begin_of⟩ := C_begin_of
  refine D.cal sc_common_turn (fun vs H Q E h => ?_) (fun f cdv A outer s H vs Q E hr h => ?_)
  · obtain ⟨d1, d2, T1, T2, p1, p2, r1, r2, rfl, _⟩ := h
    rfl
  obtain ⟨d1, d2, T1, T2, p1, p2, r1, r2, rfl, R1, R2, l1, l2, b1, b2, k⟩ := h
  obtain ⟨t1, hd1, ht1⟩ := id R1
  obtain ⟨t2, hd2, ht2⟩ := id R2
  refine ⟨_, (pss_one (ps_ret (pe_tup (pa_cons (pe_callB (call_max2 rfl) (by rfl) T.n_max (by decide +kernel) (pa_cons (pe_call G_begin_of (hr.mono (by decide)) (by rfl) m_begin_of k_begin_of b_begin_of .nil pass0 (pa_cons (pv 0) pa_nil)) (pa_cons (pe_call G_begin_of (hr.mono (by decide)) (by rfl) m_begin_of k_begin_of b_begin_of .nil pass0 (pa_cons (pv 1) pa_nil)) pa_nil))) (pa_cons (pe_callBfun cr_lcm (by rfl) T.g_lcm (pa_cons (pe_ix ix_tup (pv 0) pe_int (fun _ _ => rfl)) (pa_cons (pe_ix ix_tup (pv 1) pe_int (fun _ _ => rfl)) pa_nil))) pa_nil))))), ?_⟩
  refine ⟨_, rfl, d1, T1, p1, r1, rfl, R1, l1, _, rfl, d2, T2, p2, r2, rfl, R2, l2, _, _, rfl, ?_⟩
  refine ⟨_, rfl, _, _, _, _, rfl, rfl, SqT.of hd1, atI_nat (j := 1) rfl, _, rfl, _, _, _, _, rfl, rfl, SqT.of hd2, atI_nat (j := 1) rfl, p1, p2, rfl, by omega, by omega, (by show 2 ≤ sizeLine; decide), fun q nq => ?_⟩
  have e : (if ((T2.length - p2 : Nat) : Int) > ((T1.length - p1 : Nat) : Int) then ((T2.length - p2 : Nat) : Int) else ((T1.length - p1 : Nat) : Int)) = ((max (T1.length - p1) (T2.length - p2) : Nat) : Int) := by
    split <;> omega
  refine k _ q (same_upd nq) ?_
  rw [← e]
  exact upd_same
abbrev s_values_to : Stmt := topS 13
abbrev N_values_to : List Str := ["rule", "count", "table", "period", "rise", "values", "x"]
theorem sc_values_to : FnScope N_values_to ["rule", "count"] (defScope s_values_to) := ⟨rfl, rfl, rfl, by decide +kernel, rfl, by decide +kernel, by decide +kernel⟩
theorem ok_values_to (T : Txt mg) (D : Df K mg "values_to" s_values_to ["rule", "count"]) : Cal P w K mg base "values_to" ["rule", "count"] 1 (sp_values_to K) := by
  refine D.cal sc_values_to (fun vs H Q E h => ?_) (fun f cdv A outer s H vs Q E hr h => ?_)
  · obtain ⟨d, T0, p, r, n, rfl, _⟩ := h
    rfl
  obtain ⟨d, T0, p, r, n, rfl, ⟨t, hd, ht⟩, o, b, nb, k⟩ := h
  have p0 := o.p0
  have p1 := o.p1
  have bl := b.len
  have ll := len_int T0
  have lm : (T0.map V.int).length = T0.length := List.length_map ..
  refine ⟨_, (pss_cons (ps_asg (pv 0) (pg_tup (by rfl) (pgs_cons (pg_name (i := 2) sc_values_to.nd rfl (Or.inl rfl)) (pgs_cons (pg_name (i := 3) sc_values_to.nd rfl (Or.inl rfl)) (pgs_cons (pg_name (i := 4) sc_values_to.nd rfl (Or.inl rfl)) pgs_nil)))))
    (pss_cut (ps_set (i := 5) sc_values_to.nd rfl (Or.inl rfl) (pe_callTy call_list_of (by rfl) T.n_list (by decide +kernel) (pa_cons (pe_slice sl_tupA (pv 2) po_none (po_some (pv 1))) pa_nil)))
    (pss_cons (ps_for PassesOwn.never rfl (pi_range2 (by rfl) T.n_range (pa_cons (pe_callB call_len_seq (by rfl) T.n_len (by decide +kernel) (pa_cons (pv 2) pa_nil)) (pa_cons (pv 1) pa_nil))) (pg_name (i := 6) sc_values_to.nd rfl (Or.inl rfl))
      (pss_one (ps_expr (pe_bm PySem.F.plainAttrs_list PySem.F.slot_list_append PySem.F.type_list_append mt_append (pv 5) (pa_cons (pe_op op_add (pe_ix ix_list (pv 5) (pe_op op_sub (pv 6) (pv 3)) (fun _ _ => rfl)) (pv 4)) pa_nil)))))
    (pss_one (ps_ret (pv 5)))))), ?_⟩
  refine ⟨_, rfl, _, _, rfl, SqT.of hd, rfl, _, _, rfl, _, _, rfl, _, _, rfl, rfl, ?_⟩
  refine ⟨fun σ H1 => ∃ q, σ = [some (.ref d), some (.int (n : Int)), some (.ref t), some (.int (p : Int)), some (.int r), some (.ref q), none] ∧ Same H H1 ∧ (∀ b o, H b = some o → b ≠ q) ∧ H1 q = some (.lst ((vals T0 p r (min n T0.length)).map V.int)), ?_, ?_⟩
  · have tk : (T0.map V.int).take n = (vals T0 p r (min n T0.length)).map V.int := by
      rw [← vals_take (Nat.min_le_right ..), ← List.map_take]
      congr 1
      rcases Nat.le_total n T0.length with h | h
      · rw [Nat.min_eq_left h]
      · rw [Nat.min_eq_right h, List.take_length, List.take_of_length_le h]
    refine ⟨_, rfl, _, rfl, _, rfl, _, _, rfl, SqT.of ht, fun wh => ?_, fun _ q1 nq1 => ?_⟩
    · have w2 : (T0.map V.int).take n = T0.map V.int := by
        have := wh.2
        rw [HT.sIx_nat] at this
        exact List.take_of_length_le (by omega)
      refine ⟨_, _, rfl, .inr (SqT.of ht), fun q nq => ⟨q, rfl, same_upd nq, fun b o h => ne_of_none h nq, ?_⟩⟩
      rw [upd_same, ← w2, tk]
    · have s1 := same_upd (o := .tup (cutV (T0.map V.int) none (some (n : Int)))) nq1
      refine ⟨_, _, rfl, .inr (SqT.of upd_same), fun q nq => ⟨q, rfl, s1.trans (same_upd nq), fun b o h => ne_of_none (s1 _ _ h) nq, ?_⟩⟩
      rw [upd_same, cut_all, tk]
  · rintro σ H1 ⟨q, rfl, s1, ne, hq⟩
    have ht1 := s1 _ _ ht
    refine ⟨_, rfl, _, _, rfl, .inr (SqT.of ht1), _, rfl, _, _, rfl, ⟨by rw [ll]; omega, by rw [ll]; omega, by omega, by omega⟩, ?_⟩
    refine for_range (lo := _) (n := _) (fun i σ H2 => ∃ v, σ = [some (.ref d), some (.int (n : Int)), some (.ref t), some (.int (p : Int)), some (.int r), some (.ref q), v] ∧ Same H H2 ∧ H2 q = some (.lst ((vals T0 p r (min n T0.length + i)).map V.int)))
      ⟨none, rfl, s1, hq⟩ ?_ ?_
    · rintro i σ H2 hi ⟨v, rfl, s2, hq2⟩
      rw [ll] at hi
      have hi : T0.length + i < n := by omega
      have em : min n T0.length = T0.length := by omega
      rw [em] at hq2 ⊢
      have e1 : (((T0.map V.int).length : Nat) : Int) + (i : Int) - (p : Int) = ((T0.length + i - p : Nat) : Int) := by rw [ll]; omega
      refine ⟨_, rfl, .inl ⟨rfl, _, SqL.of hq2⟩, _, rfl, _, rfl, _, rfl, _, _, rfl, rfl, _, _, _, _, rfl, rfl, SqL.of hq2, at_of e1 (vals_get (by omega)), _, rfl, _, _, rfl, rfl, q, _, _, rfl, rfl, hq2, ?_, _, rfl, fun b o h => ?_, ?_⟩
      · rw [List.length_map, vals_len]
        exact Nat.lt_of_le_of_lt (show T0.length + i ≤ 20000 by omega) (by decide)
      · rw [upd_ne (ne b o h)]
        exact s2 _ _ h
      · rw [upd_same, ← Nat.add_assoc, vals_succ, List.map_append, vl_step (x := T0.length + i) p0 p1 (by omega)]
        rfl
    · rintro σ H2 ⟨v, rfl, s2, hq2⟩
      refine ⟨_, rfl, k H2 q s2 ne ?_⟩
      rw [hq2, ll]
      congr 4
      omega
end
end Sm

set_option Elab.async false
set_option linter.all false
set_option maxRecDepth 100000
set_option maxHeartbeats 4000000
namespace Sm
open PySem PySem.Spec PyProof.Rows L2
theorem getD_map1 {T : List Int} {i : Nat} (h : i < T.length) : (T.map (· + 1)).getD i 0 = T.getD i 0 + 1 := by
  rw [List.getD_eq_getElem?_getD, List.getD_eq_getElem?_getD, List.getElem?_map, List.getElem?_eq_getElem h]
  rfl
theorem plus_ok {T : List Int} {p : Nat} {r : Int} (o : RuleOk T p r) : RuleOk (T.map (· + 1)) p r := by
  have p0 := o.p0
  have p1 := o.p1
  refine ⟨p0, by rw [List.length_map]; exact p1, o.r0, fun i hi => ?_, fun i hi => ?_, ?_⟩
  · rw [List.length_map] at hi
    rw [getD_map1 hi]
    have := o.nn i hi
    omega
  · rw [List.length_map] at hi
    rw [getD_map1 hi, getD_map1 (by omega)]
    have := o.mono i hi
    omega
  · rw [List.length_map, getD_map1 (by omega), getD_map1 (by omega)]
    have := o.wrap
    omega
theorem late_len {T : List Int} {a : Nat} (h : a ≤ T.length) : (T.take a ++ (T.drop a).map (· + 1)).length = T.length := by
  rw [List.length_append, List.length_map, List.length_take, List.length_drop]
  omega
theorem late_get {T : List Int} {a i : Nat} (h : a ≤ T.length) (hi : i < T.length) : (T.take a ++ (T.drop a).map (· + 1)).getD i 0 = T.getD i 0 + (if i < a then 0 else 1) := by
  rw [List.getD_eq_getElem?_getD, List.getElem?_append]
  have lt : (T.take a).length = a := by rw [List.length_take]; omega
  by_cases q : i < a
  · rw [if_pos (by omega), if_pos q, List.getElem?_take_of_lt q, List.getD_eq_getElem?_getD]
    omega
  · rw [if_neg (by omega), if_neg q, lt, List.getElem?_map, List.getElem?_drop, show a + (i - a) = i by omega, List.getD_eq_getElem?_getD, List.getElem?_eq_getElem hi]
    rfl
theorem cut_from {xs : List V} {n : Nat} : cutV xs (some (n : Int)) none = xs.drop n := by
  unfold cutV
  rw [HT.sIx_none, HT.sIx_nat]
  rcases Nat.le_total n xs.length with h | h
  · rw [Nat.min_eq_left h]
    exact List.take_of_length_le (by rw [List.length_drop]; omega)
  · rw [Nat.min_eq_right h, List.drop_length, List.drop_eq_nil_of_le h, List.take_nil]
theorem flat_one {n : Nat} {x : V} : (List.replicate n [x]).flatten = List.replicate n x := List.flatten_replicate_singleton ..
theorem rep_int {n : Nat} {c : Int} : List.replicate n (V.int c) = (List.replicate n c).map V.int := (List.map_replicate ..).symm
theorem getD_rep {n i : Nat} {c : Int} (h : i < n) : (List.replicate n c).getD i 0 = c := by
  rw [List.getD_eq_getElem?_getD, List.getElem?_replicate, if_pos h]
  rfl
theorem zero_ok {n : Nat} {r : Int} (h : 0 < n) (h0 : 0 ≤ r) : RuleOk (List.replicate n 0) n r := by
  refine ⟨h, by rw [List.length_replicate]; exact Nat.le_refl _, h0, fun i hi => ?_, fun i hi => ?_, ?_⟩
  · rw [List.length_replicate] at hi
    rw [getD_rep hi]
    exact Int.le_refl _
  · rw [List.length_replicate] at hi
    rw [getD_rep hi, getD_rep (by omega)]
    exact Int.le_refl _
  · rw [List.length_replicate, getD_rep (by omega), getD_rep (by omega)]
    omega
theorem one_ok {c r : Int} (h : 0 ≤ c) (h0 : 0 ≤ r) : RuleOk [c] 1 r := by
  refine ⟨by decide, Nat.le_refl 1, h0, fun i hi => ?_, fun i hi => ?_, ?_⟩
  · have hi : i < 1 := hi
    rw [show i = 0 by omega]
    exact h
  · have hi : i + 1 < 1 := hi
    omega
  · show c ≤ c + r
    omega
abbrev rareT (q s : Nat) : List Int := List.replicate (s + 1) ((s : Int) - 1) ++ List.replicate (q - s - 1) ((s : Int) + (q : Int) - 1)
theorem rare_get {q s i : Nat} (hs : s + 1 ≤ q) (hi : i < q) : (rareT q s).getD i 0 = if i < s + 1 then (s : Int) - 1 else (s : Int) + (q : Int) - 1 := by
  rw [List.getD_eq_getElem?_getD, List.getElem?_append, List.length_replicate]
  by_cases h : i < s + 1
  · rw [if_pos h, if_pos h, List.getElem?_replicate, if_pos h]
    rfl
  · rw [if_neg h, if_neg h, List.getElem?_replicate, if_pos (by omega)]
    rfl
theorem rare_len {q s : Nat} (hs : s + 1 ≤ q) : (rareT q s).length = q := by
  rw [List.length_append, List.length_replicate, List.length_replicate]
  omega
theorem rare_ok {q s : Nat} (h1 : 1 ≤ s) (hs : s + 1 ≤ q) : RuleOk (rareT q s) q q := by
  have l := rare_len hs
  refine ⟨by omega, by omega, by omega, fun i hi => ?_, fun i hi => ?_, ?_⟩
  · rw [rare_get hs (by omega)]
    split <;> omega
  · rw [rare_get hs (by omega), rare_get hs (by omega)]
    split <;> split <;> omega
  · rw [l, rare_get hs (by omega), rare_get hs (by omega)]
    split <;> split <;> omega
theorem lay_ints : ∀ ns : List Int, PyData.canLayAll0 (ns.map PyData.int) = true
  | [] => rfl
  | n :: ns => by
    simp only [List.map_cons, PyData.canLayAll0, PyData.canLay0, lay_ints ns, Bool.and_self]
theorem shaped_ints (ns : List Int) : SeqAt.shaped (dataI ns) = true := by
  have d := depth_ints ns
  have e : (dataI ns).depth ≤ 64 := by
    unfold dataI
    simp only [PyData.depth]
    omega
  have l : (dataI ns).canLay0 = true := by
    unfold dataI
    simp only [PyData.canLay0, lay_ints]
  unfold SeqAt.shaped
  rw [l, decide_eq_true e]
  rfl
theorem ne_nil_ints {ns : List Int} : (!PyData.eqv (dataI ns) (.list [])) = decide (ns ≠ []) := by
  cases ns with
  | nil => rfl
  | cons n ns => rfl
theorem lc_turn1 {H0 H' : Hp} {U : Addr} {ns : List Int} {j : Nat} {x : V} (hl : ns.length ≤ 9000) (nU : H0 U = none) (hx : (ns.map V.int)[j]? = some x) (sm : Same H0 H') (hU : H' U = some (.lst (((ns.take j).map (· + 1)).map V.int))) :
    ∃ y, x = .int y ∧ (((ns.take j).map (· + 1)).map V.int).length < sizeLine ∧ Same H0 (upd H' U (.lst ((((ns.take j).map (· + 1)).map V.int) ++ [V.int (y + 1)]))) ∧
      upd H' U (.lst ((((ns.take j).map (· + 1)).map V.int) ++ [V.int (y + 1)])) U = some (.lst (((ns.take (j + 1)).map (· + 1)).map V.int)) := by
  rw [List.getElem?_map] at hx
  cases e : ns[j]? with
  | none => rw [e] at hx; cases hx
  | some y =>
    rw [e] at hx
    have hj := (List.getElem?_eq_some_iff.mp e).1
    refine ⟨y, (Option.some.inj hx).symm, ?_, fun b' u e' => ?_, ?_⟩
    · rw [List.length_map, List.length_map, List.length_take]
      exact Nat.lt_of_le_of_lt (show min j ns.length ≤ 9000 by omega) (by decide)
    · rw [upd_ne (ne_of_none e' nU)]
      exact sm _ _ e'
    · rw [upd_same, List.take_add_one, e, List.map_append, List.map_append]
      rfl
theorem small_log30 {i : Nat} (h1 : i ≤ 1000000000000000000000000000000) : (i : Int).natAbs.log2 < 1920 :=
  Nat.lt_of_lt_of_le (PySem.Flt.log2_lt_of (k := 310) (by decide) (by omega)) (by decide)
section
variable {K : PySem.W.Frag} {H : Hp} {Q : VK}
theorem sl_uni {a : Addr} {xs : List V} {lo hi : Option Int} (h : H a = some (.tup xs)) (q : ∀ u H', Same H H' → H' u = some (.tup (cutV xs lo hi)) → Q (.ref u) H') : rSlA K (.ref a) lo hi H Q := by
  refine ⟨a, xs, rfl, SqT.of h, fun w => q a H (Same.refl H) ?_, fun _ u nu => q u _ (same_upd nu) upd_same⟩
  rw [h]
  unfold cutV
  rw [w.1, w.2, List.drop_zero, Nat.sub_zero, List.take_length]
theorem cat_uni {a b : Addr} {xs ys : List V} (ha : H a = some (.tup xs)) (hb : H b = some (.tup ys)) (l : xs.length + ys.length ≤ sizeLine) (q : ∀ u H', Same H H' → H' u = some (.tup (xs ++ ys)) → Q (.ref u) H') : rCatA K (.ref a) (.ref b) H Q := by
  refine ⟨a, b, xs, ys, rfl, rfl, SqT.of ha, SqT.of hb, l, fun e => q b H (Same.refl H) ?_, fun _ e => q a H (Same.refl H) ?_, fun _ _ u nu => q u _ (same_upd nu) upd_same⟩
  · rw [hb, e, List.nil_append]
  · rw [ha, e, List.append_nil]
end
end Sm

set_option Elab.async false
set_option linter.all false
set_option maxRecDepth 100000
set_option maxHeartbeats 16000000
namespace Sm
open PySem PySem.Spec PyProof.Rows L2
open C8 (pss_cut tCut)
def sp_cycle_of (K : PySem.W.Frag) : Sp := fun vs H Q _ => ∃ (a : Addr) (I : List Int), vs = [.ref a] ∧ H a = some (.lst (I.map V.int)) ∧ 0 < I.length ∧ I.length ≤ 30000 ∧ ∀ H' s, Same H H' → Cyc I s → Q (.int (s : Int)) H'
theorem ints_eqvAll : ∀ I J : List Int, PyData.eqvAll (I.map PyData.int) (J.map PyData.int) = decide (I = J)
  | [], [] => by simp [PyData.eqvAll]
  | [], j :: J => by simp [PyData.eqvAll]
  | i :: I, [] => by simp [PyData.eqvAll]
  | i :: I, j :: J => by
    have := ints_eqvAll I J
    simp only [List.map_cons, PyData.eqvAll, this]
    simp [PyData.eqv]
    rfl
theorem ints_eqv (I J : List Int) : PyData.eqv (.list (I.map PyData.int)) (.list (J.map PyData.int)) = decide (I = J) := by
  rw [← ints_eqvAll]
  simp [PyData.eqv]
theorem ints_shaped (I : List Int) : SeqAt.shaped (.list (I.map PyData.int)) = true := by
  have a : PyData.canLayAll0 (I.map PyData.int) = true := by
    induction I with
    | nil => rfl
    | cons i I ih => simp [PyData.canLayAll0, PyData.canLay0, ih]
  have b := depth_ints I
  have c : PyData.depth (.list (I.map PyData.int)) ≤ 64 := by
    simp only [PyData.depth]
    omega
  simp [SeqAt.shaped, PyData.canLay0, a, c]
section
variable {P : Program} {w : World} {K : PySem.W.Frag} {mg : Str → Option Value} {base : Heap}
abbrev s_cycle_of : Stmt := topS 10
abbrev N_cycle_of : List Str := ["items", "turn"]
theorem sc_cycle_of : FnScope N_cycle_of ["items"] (defScope s_cycle_of) := ⟨rfl, rfl, rfl, by decide +kernel, rfl, by decide +kernel, by decide +kernel⟩
theorem ok_cycle_of (T : Txt mg) (D : Df K mg "cycle_of" s_cycle_of ["items"]) : Cal P w K mg base "cycle_of" ["items"] 1 (sp_cycle_of K) := by
  refine D.cal sc_cycle_of (fun vs H Q E h => ?_) (fun f cdv A outer s H vs Q E hr h => ?_)
  · obtain ⟨a, I, rfl, _⟩ := h
    rfl
  obtain ⟨a, I, rfl, hS, i0, i1, k⟩ := h
  have ll := len_int I
  have lm : (I.map V.int).length = I.length := List.length_map ..
  refine ⟨_, (pss_cons (ps_for PassesOwn.never rfl (pi_range2 (by rfl) T.n_range (pa_cons pe_int (pa_cons (pe_callB call_len_seq (by rfl) T.n_len (by decide +kernel) (pa_cons (pv 0) pa_nil)) pa_nil))) (pg_name (i := 1) sc_cycle_of.nd rfl (Or.inl rfl))
      (pss_one (ps_if (PW.pt (pw_and (pt_cmpR op_eq (pe_op op_modN (pe_callB call_len_seq (by rfl) T.n_len (by decide +kernel) (pa_cons (pv 0) pa_nil)) (pv 1)) pe_int (nomark _)) (pw_and1 (pt_cmpR (op_eqD hr.units) (pv 0) (pe_op op_cat (pe_slice sl_list (pv 0) (po_some (pv 1)) po_none) (pe_slice sl_list (pv 0) po_none (po_some (pv 1)))) (nomark _))))) (pss_one (ps_ret (pv 1))) pss_nil)))
    (pss_one (ps_ret (pe_callB call_len_seq (by rfl) T.n_len (by decide +kernel) (pa_cons (pv 0) pa_nil))))), ?_⟩
  refine ⟨_, rfl, _, _, rfl, .inl (SqL.of hS), _, _, rfl, ⟨by omega, by omega, by rw [ll]; omega, by rw [ll]; omega⟩, ?_⟩
  refine for_range (lo := _) (n := _) (fun i σ H' => ∃ v, σ = [some (.ref a), v] ∧ Same H H' ∧ H' a = some (.lst (I.map V.int)) ∧ ∀ t, 0 < t → t ≤ i → t < I.length → t ∣ I.length → ¬ Rot I t)
    ⟨none, rfl, Same.refl _, hS, fun t h1 h2 => absurd h1 (by omega)⟩ ?_ ?_
  · rintro i σ H' hi ⟨v, rfl, s, hS, least⟩
    rw [ll] at hi
    have hi : 1 + i < I.length := by omega
    have more : (1 + i ∣ I.length → ¬ Rot I (1 + i)) → ∀ t, 0 < t → t ≤ i + 1 → t < I.length → t ∣ I.length → ¬ Rot I t := by
      intro h t h1 h2 h3 h4
      by_cases q : t = 1 + i
      · subst q
        exact h h4
      · exact least t h1 (by omega) h3 h4
    refine ⟨_, rfl, _, _, rfl, .inl (SqL.of hS), _, rfl, _, _, rfl, rfl, (by omega), rfl, _, rfl, ite3 (fun e => ?_) (fun e => ?_)⟩
    · rw [ll] at e
      have dv : 1 + i ∣ I.length := dvd_of (V.int.inj e)
      refine ⟨_, rfl, _, rfl, _, rfl, _, rfl, a, _, rfl, SqL.of hS, fun c nc => ?_⟩
      have e1 : cutV (I.map V.int) (some (1 + (i : Int))) none = (I.drop (1 + i)).map V.int := by
        rw [show (1 : Int) + (i : Int) = ((1 + i : Nat) : Int) by omega, cut_from, List.map_drop]
      have e2 : cutV (I.map V.int) none (some (1 + (i : Int))) = (I.take (1 + i)).map V.int := by
        rw [show (1 : Int) + (i : Int) = ((1 + i : Nat) : Int) by omega, cut_all, List.map_take]
      have s1 := same_upd (o := .lst (cutV (I.map V.int) (some (1 + (i : Int))) none)) nc
      refine ⟨_, rfl, _, rfl, _, rfl, a, _, rfl, SqL.of (s1 _ _ hS), fun d nd => ?_⟩
      have s2 := same_upd (o := .lst (cutV (I.map V.int) none (some (1 + (i : Int))))) nd
      refine ⟨_, _, _, _, rfl, rfl, s2 _ _ upd_same, upd_same, ?_, fun g ng => ?_⟩
      · rw [e1, e2, List.length_map, List.length_map, List.length_drop, List.length_take]
        exact Nat.le_trans (show I.length - (1 + i) + min (1 + i) I.length ≤ 30000 by omega) (by decide)
      rw [e1, e2] at *
      have s3 := same_upd (o := .lst ((I.drop (1 + i)).map V.int ++ (I.take (1 + i)).map V.int)) ng
      have sz := s1.trans (s2.trans s3)
      have hg : ∀ H9 : Hp, H9 = upd (upd (upd H' c (.lst ((I.drop (1 + i)).map V.int))) d (.lst ((I.take (1 + i)).map V.int))) g (.lst ((I.drop (1 + i)).map V.int ++ (I.take (1 + i)).map V.int)) → H9 g = some (.lst ((I.drop (1 + i) ++ I.take (1 + i)).map V.int)) := by
        rintro H9 rfl
        rw [upd_same, List.map_append]
      have hg := hg _ rfl
      generalize upd (upd (upd H' c (.lst ((I.drop (1 + i)).map V.int))) d (.lst ((I.take (1 + i)).map V.int))) g (.lst ((I.drop (1 + i)).map V.int ++ (I.take (1 + i)).map V.int)) = H9 at sz hg ⊢
      refine ⟨dataI I, dataI (I.drop (1 + i) ++ I.take (1 + i)), .lst (SqL.of (sz _ _ hS)) (dp_ints _), .lst (SqL.of hg) (dp_ints _), ints_shaped _, ints_shaped _, ?_⟩
      unfold dataI
      rw [ints_eqv]
      refine ⟨_, rfl, ite3 (fun r => ?_) (fun r => ?_)⟩
      · refine ⟨_, rfl, ?_⟩
        have z : (1 : Int) + (i : Int) = ((1 + i : Nat) : Int) := by omega
        rw [z]
        exact k H9 (1 + i) (s.trans sz) ⟨by omega, by omega, dv, fun _ => r, fun t h1 h2 h3 => least t h1 (by omega) (by omega) h3⟩
      · exact ⟨_, rfl, s.trans sz, sz _ _ hS, more fun _ => r⟩
    · exact iteF ⟨_, rfl, s, hS, more fun dv => absurd (congrArg V.int (by rw [ll]; exact of_dvd dv)) e⟩
  · rintro σ H' ⟨v, rfl, s, hS, least⟩
    rw [ll] at least
    refine ⟨_, rfl, _, _, rfl, .inl (SqL.of hS), ?_⟩
    rw [ll]
    exact k H' I.length s ⟨i0, Nat.le_refl _, Nat.dvd_refl _, fun h => absurd h (Nat.lt_irrefl _), fun t h1 h2 h3 => least t h1 (by omega) (by omega) h3⟩
end
end Sm

set_option Elab.async false
set_option linter.all false
set_option maxRecDepth 100000
set_option maxHeartbeats 16000000
namespace Sm
open PySem PySem.Spec PyProof.Rows L2
open C8 (pss_cut tCut)
theorem steps_split {T : List Int} {p : Nat} {r : Int} (o : RuleW T p r) : ((List.range (p - 1)).map fun i => T.getD (T.length - p + (i + 1)) 0 - T.getD (T.length - p + i) 0) ++ [T.getD (T.length - p + 0) 0 + r - T.getD (T.length - 1) 0] = stepsOf T p r := by
  have p0 := o.p0
  have p1 := o.p1
  obtain ⟨q, rfl⟩ : ∃ q, p = q + 1 := ⟨p - 1, by omega⟩
  unfold stepsOf
  rw [List.range_succ, List.map_append, Nat.add_sub_cancel]
  congr 1
  · refine List.map_congr_left fun i hi => ?_
    have hi := List.mem_range.mp hi
    rw [vl_lt (by omega), vl_lt (by omega), Nat.add_assoc]
  · show [_] = [vl T (q + 1) r (T.length - (q + 1) + q + 1) - vl T (q + 1) r (T.length - (q + 1) + q)]
    have e := vl_add p0 p1 (r := r) (x := T.length - (q + 1)) (Nat.le_refl _)
    rw [show T.length - (q + 1) + q + 1 = T.length - (q + 1) + (q + 1) by omega, e, vl_lt (by omega), vl_lt (by omega), show T.length - (q + 1) + q = T.length - 1 by omega]
    rfl
/-! ### a list or a tuple -/
def SA (H : Hp) (a : Addr) (xs : List V) : Prop := H a = some (.lst xs) ∨ H a = some (.tup xs)
theorem SA.same {H H' : Hp} {a : Addr} {xs : List V} (h : SA H a xs) (s : Same H H') : SA H' a xs := h.imp (s _ _) (s _ _)
theorem SA.sq {K : PySem.W.Frag} {H : Hp} {a : Addr} {xs : List V} (h : SA H a xs) : SqL K H a xs ∨ SqT K H a xs := h.imp SqL.of SqT.of
theorem ix_any {K : PySem.W.Frag} {H : Hp} {a : Addr} {xs : List V} {i : Int} {v : V} {Q : VK} (h : SA H a xs) (g : atI xs i = some v) (q : Q v H) : rIx K (.ref a) (.int i) H Q := by
  rcases h with h | h
  · exact .inl ⟨_, _, _, _, rfl, rfl, SqL.of h, g, q⟩
  · exact .inr (.inl ⟨_, _, _, _, rfl, rfl, SqT.of h, g, q⟩)
theorem sl_any {X : Cx} : SlR X (fun x lo hi H Q => rSlL X.K x lo hi H Q ∨ rSlA X.K x lo hi H Q) := fun pins s σ H x v vl vu lo hi sl Q I rv sw pl pu h => h.elim (sl_list pins s σ H x v vl vu lo hi sl Q I rv sw pl pu) (sl_tupA pins s σ H x v vl vu lo hi sl Q I rv sw pl pu)
theorem sl_anyU {K : PySem.W.Frag} {H : Hp} {a : Addr} {xs : List V} {lo hi : Option Int} {Q : VK} (h : SA H a xs) (q : ∀ u H', Same H H' → SA H' u (cutV xs lo hi) → Q (.ref u) H') : rSlL K (.ref a) lo hi H Q ∨ rSlA K (.ref a) lo hi H Q := by
  rcases h with h | h
  · exact .inl ⟨a, xs, rfl, SqL.of h, fun p np => q p _ (same_upd np) (.inl upd_same)⟩
  · exact .inr (sl_uni h fun u H' s' hu => q u H' s' (.inr hu))
theorem tup_anyU {K : PySem.W.Frag} {H : Hp} {a : Addr} {xs : List V} {Q : VK} (h : SA H a xs) (q : ∀ u H', Same H H' → H' u = some (.tup xs) → Q (.ref u) H') :
    ∃ p ys, [V.ref a] = [V.ref p] ∧ ((SqL K H p ys ∧ ∀ l, H l = none → Q (.ref l) (upd H l (.tup ys))) ∨ (SqT K H p ys ∧ Q (.ref p) H)) := by
  rcases h with h | h
  · exact ⟨a, xs, rfl, .inl ⟨SqL.of h, fun l nl => q l _ (same_upd nl) upd_same⟩⟩
  · exact ⟨a, xs, rfl, .inr ⟨SqT.of h, q a H (Same.refl _) h⟩⟩
def sp_shortest (K : PySem.W.Frag) : Sp := fun vs H Q _ => ∃ (a : Addr) (T : List Int) (p : Nat) (r : Int), vs = [.ref a, .int (p : Int), .int r] ∧ SA H a (T.map V.int) ∧ RuleOk T p r ∧ RB T p r ∧
  ∀ H' d' T' p' r', Same H H' → RuleAt H' d' T' p' r' → Cut T p r T' p' r' → Short T' p' r' → (∀ x, vl T' p' r' x = vl T p r x) → Q (.ref d') H'
section
variable {P : Program} {w : World} {K : PySem.W.Frag} {mg : Str → Option Value} {base : Heap}
abbrev s_shortest : Stmt := topS 9
abbrev N_shortest : List Str := ["table", "period", "rise", "tail", "steps", "turn", "gain", "count", "at"]
theorem sc_shortest : FnScope N_shortest ["table", "period", "rise"] (defScope s_shortest) := ⟨rfl, rfl, rfl, by decide +kernel, rfl, by decide +kernel, by decide +kernel⟩
theorem ok_shortest (T : Txt mg) (D : Df K mg "shortest" s_shortest ["table", "period", "rise"]) (C_cycle_of : Cal P w K mg base "cycle_of" ["items"] 1 (sp_cycle_of K)) : Cal P w K mg base "shortest" ["table", "period", "rise"] 2 (sp_shortest K) := by
  obtain ⟨f_cycle_of, fd_cycle_of, G_cycle_of, m_cycle_of, k_cycle_of, b_cycle_of⟩ := C_cycle_of
  refine D.cal sc_shortest (fun vs H Q E h => ?_) (fun f cdv A outer s H vs Q E hr h => ?_)
  · obtain ⟨a, T0, p, r, rfl, _⟩ := h
    rfl
  obtain ⟨a, T0, p, r, rfl, hS, o, b, k⟩ := h
  have p0 := o.p0
  have p1 := o.p1
  have bl := b.len
  have r0 := o.r0
  have ll := len_int T0
  have lm : (T0.map V.int).length = T0.length := List.length_map ..
  have lo : (((T0.map V.int).length : Nat) : Int) - (p : Int) = ((T0.length - p : Nat) : Int) := by rw [ll]; omega
  refine ⟨_, (pss_cons (ps_set (i := 3) sc_shortest.nd rfl (Or.inr rfl) (pe_slice sl_any (pv 0) (po_some (pe_op op_sub (pe_callB call_len_seq (by rfl) T.n_len (by decide +kernel) (pa_cons (pv 0) pa_nil)) (pv 1))) po_none))
    (pss_cons (ps_setLc (i := 4) (own := [("at", 8)]) (g := gName 8) (tt := tYes) rfl sc_shortest.nd rfl rfl (sw_true rfl rfl rfl (by decide +kernel)) (pi_range1 (by rfl) T.n_range (pa_cons (pe_op op_sub (pv 1) pe_int) pa_nil)) (blkOk_by (own := [("at", 8)]) (N := N_shortest) (sc := defScope s_shortest) (by decide +kernel)) (fun _ _ _ _ _ => pg_name (i := 8) sc_shortest.nd rfl (Or.inl rfl)) (fun _ _ _ _ _ => pts_nil) (fun _ _ _ _ _ => (pe_op op_sub (pe_ix (show IxR _ (rIx K) from ix_seq) (pv 3) (pe_op op_add (pv 8) pe_int) (fun _ _ => rfl)) (pe_ix (show IxR _ (rIx K) from ix_seq) (pv 3) (pv 8) (fun _ _ => rfl)))))
    (pss_cons (ps_set (i := 5) sc_shortest.nd rfl (Or.inl rfl) (pe_call G_cycle_of (hr.mono (by decide)) (by rfl) m_cycle_of k_cycle_of b_cycle_of .nil pass0 (pa_cons (pe_op op_cat (pv 4) (pe_lst (pa_cons (pe_op op_sub (pe_op op_add (pe_ix ix_seq (pv 3) pe_int (fun _ _ => rfl)) (pv 2)) (pe_ix ix_seq (pv 3) (pe_un un_neg pe_int) (fun _ _ => rfl))) pa_nil))) pa_nil)))
    (pss_cons (ps_set (i := 6) sc_shortest.nd rfl (Or.inl rfl) (pe_op op_fdivW (pe_op op_mul (pv 2) (pv 5)) (pv 1)))
    (pss_cons (ps_set (i := 7) sc_shortest.nd rfl (Or.inl rfl) (pe_callB call_len_seq (by rfl) T.n_len (by decide +kernel) (pa_cons (pv 0) pa_nil)))
    (pss_cons (ps_while PassesOwn.never (PW.pt (pw_and (pt_cmpR op_gt (pv 7) (pv 5) (nomark _)) (pw_and1 (pt_cmpR op_eq (pe_ix ix_seq (pv 0) (pe_op op_sub (pv 7) pe_int) (fun _ _ => rfl)) (pe_op op_add (pe_ix ix_seq (pv 0) (pe_op op_sub (pe_op op_sub (pv 7) pe_int) (pv 5)) (fun _ _ => rfl)) (pv 6)) (nomark _)))))
      (pss_one (ps_aug (i := 7) sc_shortest.nd rfl (Or.inl rfl) pe_int ip_sub)))
    (pss_one (ps_ret (pe_tup (pa_cons (pe_callTy call_tuple_of (by rfl) T.n_tuple (by decide +kernel) (pa_cons (pe_slice sl_any (pv 0) po_none (po_some (pv 7))) pa_nil)) (pa_cons (pv 5) (pa_cons (pv 6) pa_nil)))))))))))), ?_⟩
  refine ⟨_, rfl, _, rfl, _, _, rfl, hS.sq, _, rfl, _, _, rfl, rfl, _, rfl, ?_⟩
  rw [lo]
  refine sl_anyU hS fun c H1 s1 hc => ?_
  rw [cut_from, ← List.map_drop] at hc
  have tl : (T0.drop (T0.length - p)).length = p := by rw [List.length_drop]; omega
  have tg : ∀ i, i < p → ((T0.drop (T0.length - p)).map V.int)[i]? = some (.int (T0.getD (T0.length - p + i) 0)) := by
    intro i hi
    rw [List.getElem?_map, List.getElem?_drop, List.getElem?_eq_getElem (by omega), List.getD_eq_getElem?_getD, List.getElem?_eq_getElem (by omega)]
    rfl
  have cnt : ((p : Int) - 1).toNat = p - 1 := by omega
  refine ⟨_, rfl, _, _, rfl, rfl, _, rfl, (by omega), (by omega), fun D nD => ?_⟩
  rw [cnt]
  have sD := same_upd (o := .lst []) nD
  refine lc_range (lo := 0) (n := p - 1) (fun j H' => Same H1 H' ∧ H' D = some (.lst (((List.range j).map fun i => T0.getD (T0.length - p + (i + 1)) 0 - T0.getD (T0.length - p + i) 0).map V.int))) ⟨sD, upd_same⟩ ?_ ?_
  · rintro j H' hj ⟨s', hD⟩
    refine ⟨rfl, ?_⟩
    unfold tYes
    refine iteT ?_
    have e1 : (0 : Int) + (j : Int) + 1 = ((j + 1 : Nat) : Int) := by omega
    have e0 : (0 : Int) + (j : Int) = (j : Int) := Int.zero_add _
    refine ⟨_, rfl, _, rfl, _, _, rfl, rfl, ix_any (hc.same s') (at_of e1 (tg (j + 1) (by omega))) ⟨_, rfl, _, rfl, ix_any (hc.same s') (at_of e0 (tg j (by omega))) ⟨_, _, rfl, rfl, _, hD, ?_, fun b o e => ?_, ?_⟩⟩⟩
    · rw [List.length_map, List.length_map, List.length_range]
      exact Nat.lt_of_le_of_lt (show j ≤ 30000 by omega) (by decide)
    · rw [upd_ne (ne_of_none e nD)]
      exact s' _ _ e
    · rw [upd_same, List.range_succ, List.map_append, List.map_append]
      rfl
  rintro H2 ⟨s2, hD⟩
  have hc2 := hc.same s2
  have g0 := tg 0 p0
  have gl := tg (p - 1) (by omega)
  rw [show T0.length - p + (p - 1) = T0.length - 1 by omega] at gl
  refine ⟨_, rfl, _, rfl, ix_any hc2 (atI_nat (j := 0) g0) ⟨_, rfl, _, _, rfl, rfl, _, rfl, _, rfl, ix_any hc2 (atI_neg1 (by rw [List.length_map, tl]; exact p0) (by rw [List.length_map, tl]; exact gl)) ⟨_, _, rfl, rfl, (by show 1 ≤ sizeLine; decide), fun e ne => ?_⟩⟩⟩
  have se := same_upd (o := .lst [.int (T0.getD (T0.length - p + 0) 0 + r - T0.getD (T0.length - 1) 0)]) ne
  refine ⟨_, _, _, _, rfl, rfl, se _ _ hD, upd_same, ?_, fun g ng => ?_⟩
  · rw [List.length_map, List.length_map, List.length_range]
    exact Nat.le_trans (show p - 1 + 1 ≤ 30000 by omega) (by decide)
  have sg := same_upd (o := .lst ((((List.range (p - 1)).map fun i => T0.getD (T0.length - p + (i + 1)) 0 - T0.getD (T0.length - p + i) 0).map V.int) ++ [.int (T0.getD (T0.length - p + 0) 0 + r - T0.getD (T0.length - 1) 0)])) ng
  have hg : ∀ H9 : Hp, H9 g = some (.lst ((((List.range (p - 1)).map fun i => T0.getD (T0.length - p + (i + 1)) 0 - T0.getD (T0.length - p + i) 0).map V.int) ++ [.int (T0.getD (T0.length - p + 0) 0 + r - T0.getD (T0.length - 1) 0)])) → H9 g = some (.lst ((stepsOf T0 p r).map V.int)) := by
    intro H9 h
    rw [h, ← steps_split o.w, List.map_append]
    rfl
  have s3 := s1.trans (s2.trans (se.trans sg))
  refine ⟨g, stepsOf T0 p r, rfl, hg _ upd_same, by rw [stepsOf_len]; exact p0, by rw [stepsOf_len]; omega, fun H3 s s4 cyc => ?_⟩
  obtain ⟨s0, sp, sd, hs, hm⟩ := cyc_rule o cyc
  have sz := s3.trans s4
  have hS3 := hS.same sz
  refine ⟨_, rfl, _, rfl, _, _, rfl, rfl, b.mulR' o, _, rfl, _, _, rfl, rfl, b.div o, _, rfl, _, _, rfl, hS3.sq, ?_⟩
  have c0 : 0 ≤ r * (s : Int) / (p : Int) := Int.ediv_nonneg (Int.mul_nonneg r0 (by omega)) (by omega)
  have c1 : r * (s : Int) / (p : Int) ≤ r := by
    have h1 : r * (s : Int) ≤ r * (p : Int) := Int.mul_le_mul_of_nonneg_left (by omega) r0
    have h2 := Int.ediv_le_ediv (show (0 : Int) < (p : Int) by omega) h1
    rw [Int.mul_ediv_cancel _ (by omega)] at h2
    exact h2
  have all := rep_all o hs
  obtain ⟨cc, ec⟩ : ∃ cc, cc = r * (s : Int) / (p : Int) := ⟨_, rfl⟩
  rw [← ec] at c0 c1 all
  refine ⟨fun m σ H' => σ = [some (.ref a), some (.int (p : Int)), some (.int r), some (.ref c), some (.ref D), some (.int (s : Int)), some (.int cc), some (.int ((m + s : Nat) : Int)), none] ∧ H' = H3 ∧ m + s ≤ T0.length ∧ ∀ y, m ≤ y → vl T0 p r (y + s) = vl T0 p r y + cc, ⟨T0.length - s, ?_, rfl, by omega, fun y hy => all y (by omega)⟩, ?_⟩
  · rw [ec, show T0.length - s + s = T0.length by omega, ← ll]
    rfl
  rintro m σ H' ⟨rfl, rfl, al, ha⟩
  have fin : (m = 0 ∨ vl T0 p r (m - 1 + s) ≠ T0.getD (m - 1) 0 + cc) → ∀ (H5 : Hp) (t' : Addr), Same H' H5 → H5 t' = some (.tup ((T0.take (m + s)).map V.int)) → ∀ q, H5 q = none → Q (.ref q) (upd H5 q (.tup [.ref t', .int (s : Int), .int cc])) := by
    intro st H5 t' sm h5 q nq
    have sq := same_upd (o := .tup [.ref t', .int (s : Int), .int cc]) nq
    have am : m ≤ T0.length - p := by
      rcases Nat.lt_or_ge (T0.length - p) m with w | w
      · exfalso
        rcases st with z | z
        · omega
        · apply z
          rw [all (m - 1) (by omega), vl_lt (by omega)]
      · exact w
    refine k _ q (T0.take (m + s)) s cc (sz.trans (sm.trans sq)) ⟨t', upd_same, sq _ _ h5⟩ ⟨?_, sp, c1, fun i hi => ?_⟩ (cut_short o s0 sd am c0 ha hm st) (cut_vl s0 (by omega) ha)
    · rw [List.length_take]
      omega
    · rw [List.length_take] at hi
      exact getD_take (by omega)
  have cx : cutV (T0.map V.int) none (some ((m + s : Nat) : Int)) = (T0.take (m + s)).map V.int := by rw [cut_all, List.map_take]
  refine ⟨_, rfl, _, rfl, _, _, rfl, rfl, _, rfl, ?_⟩
  by_cases e : ((m + s : Nat) : Int) > (s : Int)
  · have e1 : ((m + s : Nat) : Int) - 1 = ((m + s - 1 : Nat) : Int) := by omega
    have e2 : ((m + s : Nat) : Int) - 1 - (s : Int) = ((m - 1 : Nat) : Int) := by omega
    refine iteP e ⟨_, rfl, _, rfl, _, _, rfl, rfl, ix_any hS3 (at_of e1 (get_int (by omega))) ⟨_, rfl, _, rfl, _, _, rfl, rfl, _, rfl, _, _, rfl, rfl, ix_any hS3 (at_of e2 (get_int (by omega))) ⟨_, rfl, _, _, rfl, rfl, rfl, _, rfl, ?_⟩⟩⟩
    have e4 : vl T0 p r (m - 1 + s) = T0.getD (m + s - 1) 0 := by rw [show m - 1 + s = m + s - 1 by omega, vl_lt (by omega)]
    by_cases e3 : T0.getD (m + s - 1) 0 = T0.getD (m - 1) 0 + cc
    · refine iteP (congrArg V.int e3) ⟨fun σ H'' => σ = [some (.ref a), some (.int (p : Int)), some (.int r), some (.ref c), some (.ref D), some (.int (s : Int)), some (.int cc), some (.int ((m - 1 + s : Nat) : Int)), none] ∧ H'' = H' ∧ m - 1 + s ≤ T0.length ∧ ∀ y, m - 1 ≤ y → vl T0 p r (y + s) = vl T0 p r y + cc, fun σ' H3 hw => ⟨m - 1, by omega, hw⟩, ?_⟩
      have e5 : ((m + s : Nat) : Int) - 1 = ((m - 1 + s : Nat) : Int) := by omega
      refine ⟨_, rfl, _, _, rfl, rfl, ⟨by rw [← e5]; rfl, rfl, by omega, fun y hy => ?_⟩⟩
      by_cases q : y = m - 1
      · rw [q, e4, e3, vl_lt (by omega)]
      · exact ha y (by omega)
    · refine iteN (fun q => e3 (V.int.inj q)) ?_
      refine ⟨_, rfl, _, rfl, _, rfl, sl_anyU hS3 fun g H5 s5 hg => ?_⟩
      rw [cx] at hg
      rcases hg with hg | hg
      · refine ⟨_, _, rfl, .inl ⟨SqL.of hg, fun t' nt => ⟨_, rfl, _, rfl, (by show 3 ≤ sizeLine; decide), fun q nq => ?_⟩⟩⟩
        exact fin (.inr (by rw [e4]; exact e3)) _ t' (s5.trans (same_upd nt)) upd_same q nq
      · refine ⟨_, _, rfl, .inr ⟨SqT.of hg, _, rfl, _, rfl, (by show 3 ≤ sizeLine; decide), fun q nq => ?_⟩⟩
        exact fin (.inr (by rw [e4]; exact e3)) _ g s5 hg q nq
  · refine iteN e (iteF ?_)
    refine ⟨_, rfl, _, rfl, _, rfl, sl_anyU hS3 fun g H5 s5 hg => ?_⟩
    rw [cx] at hg
    rcases hg with hg | hg
    · refine ⟨_, _, rfl, .inl ⟨SqL.of hg, fun t' nt => ⟨_, rfl, _, rfl, (by show 3 ≤ sizeLine; decide), fun q nq => ?_⟩⟩⟩
      exact fin (.inl (by omega)) _ t' (s5.trans (same_upd nt)) upd_same q nq
    · refine ⟨_, _, rfl, .inr ⟨SqT.of hg, _, rfl, _, rfl, (by show 3 ≤ sizeLine; decide), fun q nq => ?_⟩⟩
      exact fin (.inl (by omega)) _ g s5 hg q nq
end
end Sm

set_option Elab.async false
set_option linter.all false
set_option maxRecDepth 100000
set_option maxHeartbeats 16000000
namespace Sm
open PySem PySem.Spec PyProof.Rows L2
open C8 (pss_cut tCut)
abbrev s_init : Stmt := inClass (topS 3) 0
abbrev N_init : List Str := ["self", "number"]
theorem sc_init : FnScope N_init ["self", "number"] (defScope s_init) := ⟨rfl, rfl, rfl, by decide +kernel, rfl, by decide +kernel, by decide +kernel⟩
/-- what the written part says of the class TooLong -/
structure Txl (K : PySem.W.Frag) (mg : Str → Option Value) (cTooLong fB : Addr) : Prop where
  gBadRule : mg "TooLong" = some (.ref cTooLong)
  oex : OexC K cTooLong
  noE : PySem.W.findIn K (.ref cTooLong) "number" = some none
  iC : PySem.W.findIn K (.ref cTooLong) "__init__" = some (some (.ref fB))
  tI : PySem.W.typeIn K (.ref fB) = some (.type "function")
  fI : ∃ fd, Fun K "__init__" "TooLong.__init__" s_init fB fd ∧ Binds K fd ["self", "number"] []
def CalX (P : Program) (w : World) (K : PySem.W.Frag) (mg : Str → Option Value) (base : Heap) (x : Str) (ps : List Str) (k : Nat) (sp : Sp) : Prop :=
  ∃ (f : Addr) (fd : FuncData), FnOk P w K mg base (L2.CX P w) k f fd ps sp ∧ mg x = some (.ref f) ∧ PySem.W.keepIn K (.ref f) = true ∧ Binds K fd ps []
/-- TooLong(n) in the air -/
def Lng (c : Addr) (n : Int) (H : Hp) (E : XK) : Prop := ∀ H' d, Same H H' → H' d = some (.xd [(("number" : Str), .int n)]) → E (.ref c) (some d) H'
def sp_check_told (c : Addr) : Sp := fun vs H Q E => ∃ n : Int, vs = [.int n] ∧ (n ≤ 5000 → Q .non H) ∧ (5000 < n → Lng c n H E)
def sp_toldX (c : Addr) : Sp := fun vs H Q E => ∃ (a : Addr) (T : List Int) (p : Nat) (r : Int), vs = [.ref a, .int (p : Int), .int r] ∧ SA H a (T.map V.int) ∧ RuleOk T p r ∧ RB T p r ∧
  ∀ H' d' T' p' r', Same H H' → RuleAt H' d' T' p' r' → Cut T p r T' p' r' → Short T' p' r' → (∀ x, vl T' p' r' x = vl T p r x) → (T'.length ≤ 5000 → Q (.ref d') H') ∧ (5000 < T'.length → Lng c (T'.length : Int) H' E)
section
variable {P : Program} {w : World} {K : PySem.W.Frag} {mg : Str → Option Value} {base : Heap} {cTooLong fB : Addr}
theorem ok_init {fd : FuncData} (F : Fun K "__init__" "TooLong.__init__" s_init fB fd) : FnOk P w K mg base CX0 1 fB fd ["self", "number"] (sp_init K "number") := by
  refine F.ok sc_init (fun vs H Q E h => ?_) (fun cdv A outer s H vs Q E hr h => ?_)
  · obtain ⟨a, C, v, rfl, _⟩ := h
    rfl
  obtain ⟨a, C, v, rfl, T, no, ha, k⟩ := h
  refine ⟨_, pss_one (ps_ost (pv 0) (pv 1)), ?_⟩
  exact ⟨_, rfl, _, rfl, a, C, rfl, T, no, .inl ⟨ha, k⟩⟩
abbrev s_check_told : Stmt := topS 12
abbrev N_check_told : List Str := ["number"]
theorem sc_check_told : FnScope N_check_told ["number"] (defScope s_check_told) := ⟨rfl, rfl, rfl, by decide +kernel, rfl, by decide +kernel, by decide +kernel⟩
theorem ok_check_told (T : Txt mg) (XC : Txl K mg cTooLong fB) (D : Df K mg "check_told" s_check_told ["number"]) : CalX P w K mg base "check_told" ["number"] 3 (sp_check_told cTooLong) := by
  obtain ⟨fdI, FI, b_init⟩ := XC.fI
  have G_init : FnOk P w K mg base CX0 1 fB fdI ["self", "number"] (sp_init K "number") := ok_init FI
  obtain ⟨f, fd, F, m, b⟩ := D
  refine ⟨f, fd, F.okX sc_check_told (fun vs H Q E h => ?_) (fun cdv A outer s H vs Q E hr h => ?_), m, F.kp, b⟩
  · obtain ⟨n, rfl, _⟩ := h
    rfl
  obtain ⟨n, rfl, k1, k2⟩ := h
  obtain ⟨_, hMAX_TOLD⟩ := T.c_MAX_TOLD
  refine ⟨_, (pss_one (ps_if (pt_cmpR op_gt (pv 0) (pe_glob (v := .int 5000) rfl hMAX_TOLD ⟨_, rfl⟩) (nomark _)) (pss_one (ps_raise rfl (takes_of rfl rfl rfl rfl) (pmk_oex XC.oex XC.iC XC.tI G_init (hr.mono (by decide)) b_init .nil pass0 (by rfl) XC.gBadRule (pa_cons (pv 0) pa_nil)))) pss_nil)), ?_⟩
  refine ⟨_, rfl, _, _, rfl, rfl, _, rfl, ite3 (fun e => ?_) (fun e => k1 (by omega))⟩
  refine xc_mk XC.oex XC.noE ⟨_, rfl, V.int n, rfl, fun d H2 s2 hd => k2 (by omega) H2 d s2 hd⟩ (fun h z => ?_)
  obtain ⟨v, e, q⟩ := z
  exact ⟨v, e, h _ _ q⟩
abbrev s_told : Stmt := topS 11
abbrev N_told : List Str := ["table", "period", "rise", "rule"]
theorem sc_told : FnScope N_told ["table", "period", "rise"] (defScope s_told) := ⟨rfl, rfl, rfl, by decide +kernel, rfl, by decide +kernel, by decide +kernel⟩
theorem ok_told (T : Txt mg) (D : Df K mg "told" s_told ["table", "period", "rise"]) (C_check_told : CalX P w K mg base "check_told" ["number"] 3 (sp_check_told cTooLong)) (C_shortest : Cal P w K mg base "shortest" ["table", "period", "rise"] 2 (sp_shortest K)) : CalX P w K mg base "told" ["table", "period", "rise"] 4 (sp_toldX cTooLong) := by
  obtain ⟨f_check_told, fd_check_told, G_check_told, m_check_told, k_check_told, b_check_told⟩ := C_check_told
  obtain ⟨f_shortest, fd_shortest, G_shortest, m_shortest, k_shortest, b_shortest⟩ := C_shortest
  obtain ⟨f, fd, F, m, b⟩ := D
  refine ⟨f, fd, F.okX sc_told (fun vs H Q E h => ?_) (fun cdv A outer s H vs Q E hr h => ?_), m, F.kp, b⟩
  · obtain ⟨a, T0, p, r, rfl, _⟩ := h
    rfl
  obtain ⟨a, T0, p, r, rfl, hS, o, b, k⟩ := h
  have bl := b.len
  refine ⟨_, (pss_cons (ps_set (i := 3) sc_told.nd rfl (Or.inl rfl) (pe_call G_shortest (hr.mono (by decide)) (by rfl) m_shortest k_shortest b_shortest .nil pass0 (pa_cons (pv 0) (pa_cons (pv 1) (pa_cons (pv 2) pa_nil)))))
    (pss_cons (ps_expr (pe_callS G_check_told (hr.mono (by decide)) rfl m_check_told k_check_told b_check_told (fun σ => passAt (takes_of rfl rfl rfl rfl) σ) (pa_cons (pe_callB call_len_seq (by rfl) T.n_len (by decide +kernel) (pa_cons (pe_ix ix_tup (pv 3) pe_int (fun _ _ => rfl)) pa_nil)) pa_nil)))
    (pss_one (ps_ret (pv 3))))), ?_⟩
  refine ⟨_, rfl, _, rfl, _, rfl, a, T0, p, r, rfl, hS, o, b, fun H1 d' T' p' r' s1 R cut sh hv => ?_⟩
  obtain ⟨t, hd, ht⟩ := id R
  obtain ⟨k1, k2⟩ := k H1 d' T' p' r' s1 R cut sh hv
  refine ⟨_, rfl, _, _, _, _, rfl, rfl, SqT.of hd, atI_nat (j := 0) rfl, _, _, rfl, .inr (SqT.of ht), _, rfl, fun e => ?_, fun e => ?_⟩
  · rw [len_int] at e
    exact ⟨_, rfl, k1 (by omega)⟩
  · rw [len_int] at e ⊢
    exact k2 (by omega)
end
end Sm

set_option Elab.async false
set_option linter.all false
set_option maxRecDepth 100000
set_option maxHeartbeats 16000000
namespace Sm
open PySem PySem.Spec PyProof.Rows L2
open C8 (pss_cut tCut)
/-- the table of the greater values -/
def gtab (T1 : List Int) (p1 : Nat) (r1 : Int) (T2 : List Int) (p2 : Nat) (r2 : Int) (n : Nat) : List Int := (List.range n).map fun x => max (vl T1 p1 r1 x) (vl T2 p2 r2 x)
/-- told: the rule of the table, or TooLong with its length -/
def Told (c : Addr) (T : List Int) (p : Nat) (r : Int) (H : Hp) (Q : VK) (E : XK) : Prop := ∀ H' d' T' p' r', Same H H' → RuleAt H' d' T' p' r' → Cut T p r T' p' r' → Short T' p' r' → (∀ x, vl T' p' r' x = vl T p r x) → (T'.length ≤ 5000 → Q (.ref d') H') ∧ (5000 < T'.length → Lng c (T'.length : Int) H' E)
def sp_greater (c : Addr) : Sp := fun vs H Q E => ∃ (d1 d2 : Addr) (T1 T2 : List Int) (p1 p2 n k : Nat) (r1 r2 : Int), vs = [.ref d1, .ref d2, .int (n : Int), .int ((k * p1 : Nat) : Int)] ∧ RuleAt H d1 T1 p1 r1 ∧ RuleAt H d2 T2 p2 r2 ∧ RuleOk T1 p1 r1 ∧ RuleOk T2 p2 r2 ∧ RB T1 p1 r1 ∧ RB T2 p2 r2 ∧ n ≤ 5000 ∧
  RuleOk (gtab T1 p1 r1 T2 p2 r2 n) (k * p1) (r1 * (k : Int)) ∧ RB (gtab T1 p1 r1 T2 p2 r2 n) (k * p1) (r1 * (k : Int)) ∧ Told c (gtab T1 p1 r1 T2 p2 r2 n) (k * p1) (r1 * (k : Int)) H Q E
theorem max_if {a b : Int} : (if b > a then b else a) = max a b := by
  split <;> omega
section
variable {P : Program} {w : World} {K : PySem.W.Frag} {mg : Str → Option Value} {base : Heap} {cTooLong fB : Addr}
abbrev s_greater_values : Stmt := topS 20
abbrev N_greater_values : List Str := ["one", "other", "count", "turn", "left", "right", "x"]
theorem sc_greater_values : FnScope N_greater_values ["one", "other", "count", "turn"] (defScope s_greater_values) := ⟨rfl, rfl, rfl, by decide +kernel, rfl, by decide +kernel, by decide +kernel⟩
theorem ok_greater_values (T : Txt mg) (D : Df K mg "greater_values" s_greater_values ["one", "other", "count", "turn"]) (C_told : CalX P w K mg base "told" ["table", "period", "rise"] 4 (sp_toldX cTooLong)) (C_rise_in : Cal P w K mg base "rise_in" ["rule", "turn"] 1 (sp_rise_in K)) (C_values_to : Cal P w K mg base "values_to" ["rule", "count"] 1 (sp_values_to K)) : CalX P w K mg base "greater_values" ["one", "other", "count", "turn"] 5 (sp_greater cTooLong) := by
  obtain ⟨f_told, fd_told, G_told, m_told, k_told, b_told⟩ := C_told
  obtain ⟨f_rise_in, fd_rise_in, G_rise_in, m_rise_in, k_rise_in, b_rise_in⟩ := C_rise_in
  obtain ⟨f_values_to, fd_values_to, G_values_to, m_values_to, k_values_to, b_values_to⟩ := C_values_to
  obtain ⟨f, fd, F, m, b⟩ := D
  refine ⟨f, fd, F.okX sc_greater_values (fun vs H Q E h => ?_) (fun cdv A outer s H vs Q E hr h => ?_), m, F.kp, b⟩
  · obtain ⟨d1, d2, T1, T2, p1, p2, n, k, r1, r2, rfl, _⟩ := h
    rfl
  obtain ⟨d1, d2, T1, T2, p1, p2, n, kt, r1, r2, rfl, R1, R2, o1, o2, b1, b2, nb, og, bg, k⟩ := h
  refine ⟨_, (pss_cons (ps_set (i := 4) sc_greater_values.nd rfl (Or.inr rfl) (pe_call G_values_to (hr.mono (by decide)) (by rfl) m_values_to k_values_to b_values_to .nil pass0 (pa_cons (pv 0) (pa_cons (pv 2) pa_nil))))
    (pss_cons (ps_set (i := 5) sc_greater_values.nd rfl (Or.inr rfl) (pe_call G_values_to (hr.mono (by decide)) (by rfl) m_values_to k_values_to b_values_to .nil pass0 (pa_cons (pv 1) (pa_cons (pv 2) pa_nil))))
    (pss_one (ps_ret (pe_callS G_told (hr.mono (by decide)) rfl m_told k_told b_told (fun σ => passAt (takes_of rfl rfl rfl rfl) σ) (pa_cons (pe_lc (own := [("x", 6)]) (g := gName 6) (tt := tYes) rfl sc_greater_values.nd (pi_range1 (by rfl) T.n_range (pa_cons (pv 2) pa_nil)) (blkOk_by (own := [("x", 6)]) (N := N_greater_values) (sc := defScope s_greater_values) (by decide +kernel)) (fun _ _ _ _ _ => pg_name (i := 6) sc_greater_values.nd rfl (Or.inl rfl)) (fun _ _ _ _ _ => pts_nil) (fun _ _ _ _ _ => (pe_callB (call_max2 rfl) (by rfl) T.n_max (by decide +kernel) (pa_cons (pe_ix (show IxR _ (rIxL K) from ix_list) (pv 4) (pv 6) (fun _ _ => rfl)) (pa_cons (pe_ix (show IxR _ (rIxL K) from ix_list) (pv 5) (pv 6) (fun _ _ => rfl)) pa_nil))))) (pa_cons (pv 3) (pa_cons (pe_call G_rise_in (hr.mono (by decide)) (by rfl) m_rise_in k_rise_in b_rise_in .nil pass0 (pa_cons (pv 0) (pa_cons (pv 3) pa_nil))) pa_nil)))))))), ?_⟩
  refine ⟨_, rfl, _, rfl, d1, T1, p1, r1, n, rfl, R1, o1, b1, (by omega), fun HA qa sA neA hqa => ?_⟩
  refine ⟨_, rfl, _, rfl, d2, T2, p2, r2, n, rfl, R2.same sA, o2, b2, (by omega), fun HB qb sB neB hqb => ?_⟩
  have hqa2 := sB _ _ hqa
  have s2 := sA.trans sB
  refine ⟨_, rfl, _, rfl, by omega, by omega, fun U nU => ?_⟩
  have sU := same_upd (o := .lst []) nU
  rw [Int.toNat_natCast]
  refine lc_range (lo := 0) (n := n) (fun j H' => Same HB H' ∧ H' U = some (.lst ((gtab T1 p1 r1 T2 p2 r2 j).map V.int))) ⟨sU, upd_same⟩ ?_ ?_
  · rintro j H' hj ⟨s', hU⟩
    refine ⟨rfl, ?_⟩
    unfold tYes
    refine iteT ?_
    refine ⟨_, rfl, _, rfl, _, _, _, _, rfl, rfl, SqL.of (s' _ _ hqa2), at_of (j := j) (Int.zero_add _) (vals_get hj), _, rfl, _, rfl, _, _, _, _, rfl, rfl, SqL.of (s' _ _ hqb), at_of (j := j) (Int.zero_add _) (vals_get hj), _, _, rfl, _, hU, ?_, fun b o e => ?_, ?_⟩
    · unfold gtab
      rw [List.length_map, List.length_map, List.length_range]
      exact Nat.lt_of_le_of_lt (show j ≤ 5000 by omega) (by decide)
    · rw [upd_ne (ne_of_none e nU)]
      exact s' _ _ e
    · rw [upd_same, max_if]
      unfold gtab
      rw [List.range_succ, List.map_append, List.map_append]
      rfl
  rintro H3 ⟨s3, hU⟩
  have s13 := s2.trans s3
  refine ⟨_, rfl, _, rfl, _, rfl, d1, T1, p1, r1, kt * p1, rfl, R1.same s13, o1, b1, ?_⟩
  rw [Nat.mul_div_cancel _ o1.p0]
  exact ⟨U, _, _, _, rfl, .inl hU, og, bg, fun H' d' T' p' r' s' R c sh hv => k H' d' T' p' r' (s13.trans s') R c sh hv⟩
end
end Sm

set_option Elab.async false
set_option linter.all false
set_option maxRecDepth 100000
set_option maxHeartbeats 16000000
namespace Sm
open PySem PySem.Spec PyProof.Rows L2
open C8 (pss_cut tCut)
def sp_last_above (_ : PySem.W.Frag) : Sp := fun vs H Q _ => ∃ (d1 d2 : Addr) (T1 T2 : List Int) (p1 p2 : Nat) (r1 r2 : Int), vs = [.ref d1, .ref d2] ∧ RuleAt H d1 T1 p1 r1 ∧ RuleAt H d2 T2 p2 r2 ∧ RuleOk T1 p1 r1 ∧ RuleOk T2 p2 r2 ∧ RS 10000000000000 T1 p1 r1 ∧ RS 10000000000000 T2 p2 r2 ∧ r1 * (p2 : Int) < r2 * (p1 : Int) ∧
  ∀ H' L, Same H H' → IsLast (fun x => vl T1 p1 r1 x - vl T2 p2 r2 x) L → Q (.int L) H'
theorem maxDef_set {K : PySem.W.Frag} {σ : L2.St} {U : Addr} {ns : List Int} {i : Int} {H : Hp} {Q : VK} (hU : H U = some (.lst (ns.map V.int))) (h0 : ns = [] → Q (.int i) H) (h1 : ∀ m, m ∈ ns → (∀ y, y ∈ ns → y ≤ m) → Q (.int m) H) : tNil σ H (fun xs H2 => rMaxDef K i (V.ref U :: xs) H2 Q) :=
  ⟨U, ns, rfl, SqL.of hU, h0, h1⟩
theorem late_pos {d : Nat → Int} {B t j : Nat} {g : Int} (h : 0 < d (B + j)) : lateL d B t g (j + 1) = lateL d B t g j ++ [((B + j : Nat) : Int) + (t : Int) * ((d (B + j) - 1) / g)] := by
  unfold lateL
  rw [List.range_succ, List.filter_append, List.map_append, List.filter_cons_of_pos (by exact decide_eq_true h)]
  rfl
theorem late_neg {d : Nat → Int} {B t j : Nat} {g : Int} (h : ¬ 0 < d (B + j)) : lateL d B t g (j + 1) = lateL d B t g j := by
  unfold lateL
  rw [List.range_succ, List.filter_append, List.filter_cons_of_neg (by rw [decide_eq_false h]; exact Bool.false_ne_true), List.filter_nil, List.append_nil]
theorem early_pos {d : Nat → Int} {j : Nat} (h : 0 < d j) : earlyL d (j + 1) = earlyL d j ++ [(j : Int)] := by
  unfold earlyL
  rw [List.range_succ, List.filter_append, List.map_append, List.filter_cons_of_pos (by exact decide_eq_true h)]
  rfl
theorem early_neg {d : Nat → Int} {j : Nat} (h : ¬ 0 < d j) : earlyL d (j + 1) = earlyL d j := by
  unfold earlyL
  rw [List.range_succ, List.filter_append, List.filter_cons_of_neg (by rw [decide_eq_false h]; exact Bool.false_ne_true), List.filter_nil, List.append_nil]
theorem late_ln {d : Nat → Int} {B t j : Nat} {g : Int} : (lateL d B t g j).length ≤ j := by
  unfold lateL
  rw [List.length_map]
  exact Nat.le_trans (List.length_filter_le ..) (by rw [List.length_range]; exact Nat.le_refl _)
theorem early_len {d : Nat → Int} {j : Nat} : (earlyL d j).length ≤ j := by
  unfold earlyL
  rw [List.length_map]
  exact Nat.le_trans (List.length_filter_le ..) (by rw [List.length_range]; exact Nat.le_refl _)
section
variable {P : Program} {w : World} {K : PySem.W.Frag} {mg : Str → Option Value} {base : Heap}
abbrev s_last_above : Stmt := topS 21
abbrev N_last_above : List Str := ["flat", "steep", "begin", "turn", "left", "right", "loss", "late", "early", "x"]
theorem sc_last_above : FnScope N_last_above ["flat", "steep"] (defScope s_last_above) := ⟨rfl, rfl, rfl, by decide +kernel, rfl, by decide +kernel, by decide +kernel⟩
theorem ok_last_above (T : Txt mg) (D : Df K mg "last_above" s_last_above ["flat", "steep"]) (C_rise_in : Cal P w K mg base "rise_in" ["rule", "turn"] 1 (sp_rise_in K)) (C_values_to : Cal P w K mg base "values_to" ["rule", "count"] 1 (sp_values_to K)) (C_common_turn : Cal P w K mg base "common_turn" ["one", "other"] 2 (sp_common_turn K)) : Cal P w K mg base "last_above" ["flat", "steep"] 3 (sp_last_above K) := by
  obtain ⟨f_rise_in, fd_rise_in, G_rise_in, m_rise_in, k_rise_in, b_rise_in⟩ := C_rise_in
  obtain ⟨f_values_to, fd_values_to, G_values_to, m_values_to, k_values_to, b_values_to⟩ := C_values_to
  obtain ⟨f_common_turn, fd_common_turn, G_common_turn, m_common_turn, k_common_turn, b_common_turn⟩ := C_common_turn
  refine D.cal sc_last_above (fun vs H Q E h => ?_) (fun f cdv A outer s H vs Q E hr h => ?_)
  · obtain ⟨d1, d2, T1, T2, p1, p2, r1, r2, rfl, _⟩ := h
    rfl
  obtain ⟨d1, d2, T1, T2, p1, p2, r1, r2, rfl, R1, R2, o1, o2, s1, s2, steep, k⟩ := h
  have l1 := o1.p1
  have l2 := o2.p1
  have z1 := o1.p0
  have z2 := o2.p0
  have b1 := s1.rb (by decide)
  have b2 := s2.rb (by decide)
  have bl1 := s1.len
  have bl2 := s2.len
  have c1 := s1.turn
  have c2 := s2.turn
  obtain ⟨ka, hka⟩ := Nat.dvd_lcm_left p1 p2
  obtain ⟨kb, hkb⟩ := Nat.dvd_lcm_right p1 p2
  have lcm0 : 0 < Nat.lcm p1 p2 := Nat.lcm_pos z1 z2
  have lcm1 : Nat.lcm p1 p2 ≤ 1600 := by
    have h1 : Nat.lcm p1 p2 ≤ p1 * p2 := PySem.W.mc_lcm_le p1 p2
    have h2 : p1 * p2 ≤ 40 * 40 := Nat.mul_le_mul c1 c2
    omega
  have da : Nat.lcm p1 p2 / p1 = ka := by rw [hka]; exact Nat.mul_div_cancel_left ka z1
  have db : Nat.lcm p1 p2 / p2 = kb := by rw [hkb]; exact Nat.mul_div_cancel_left kb z2
  have ea : ka * p1 = Nat.lcm p1 p2 := by rw [Nat.mul_comm]; exact hka.symm
  have eb : kb * p2 = Nat.lcm p1 p2 := by rw [Nat.mul_comm]; exact hkb.symm
  have loss : 0 < r2 * (kb : Int) - r1 * (ka : Int) := by
    have k0 : 0 < ka := Nat.pos_of_ne_zero fun q => by rw [q, Nat.zero_mul] at ea; omega
    have ce : (ka : Int) * (p1 : Int) = (kb : Int) * (p2 : Int) := by
      rw [← Int.natCast_mul, ← Int.natCast_mul, ea, eb]
    have h1 : r1 * (p2 : Int) * (ka : Int) < r2 * (p1 : Int) * (ka : Int) := Int.mul_lt_mul_of_pos_right steep (by omega)
    have h2 : r2 * (p1 : Int) * (ka : Int) = r2 * (kb : Int) * (p2 : Int) := by
      rw [Int.mul_assoc, Int.mul_comm (p1 : Int), ce, ← Int.mul_assoc]
    have h3 : r1 * (p2 : Int) * (ka : Int) = r1 * (ka : Int) * (p2 : Int) := by
      rw [Int.mul_assoc, Int.mul_comm (p2 : Int), ← Int.mul_assoc]
    rw [h2, h3] at h1
    have := Int.lt_of_mul_lt_mul_right h1 (by omega)
    omega
  have turn0 : ∀ x, max (T1.length - p1) (T2.length - p2) ≤ x → vl T1 p1 r1 (x + ka * p1) - vl T2 p2 r2 (x + ka * p1) = vl T1 p1 r1 x - vl T2 p2 r2 x - (r2 * (kb : Int) - r1 * (ka : Int)) := fun x hx => by
    have := gp_turn o1.w o2.w (B := max (T1.length - p1) (T2.length - p2)) (by omega) (by omega) (ea.trans eb.symm) hx
    unfold gp at this
    rw [this, Int.mul_comm r1, Int.mul_comm r2]
    omega
  rw [ea] at turn0
  refine ⟨_, (pss_cons (ps_asg (pe_call G_common_turn (hr.mono (by decide)) (by rfl) m_common_turn k_common_turn b_common_turn .nil pass0 (pa_cons (pv 0) (pa_cons (pv 1) pa_nil))) (pg_tup (by rfl) (pgs_cons (pg_name (i := 2) sc_last_above.nd rfl (Or.inl rfl)) (pgs_cons (pg_name (i := 3) sc_last_above.nd rfl (Or.inr rfl)) pgs_nil))))
    (pss_cons (ps_set (i := 4) sc_last_above.nd rfl (Or.inr rfl) (pe_call G_values_to (hr.mono (by decide)) (by rfl) m_values_to k_values_to b_values_to .nil pass0 (pa_cons (pv 0) (pa_cons (pe_op op_add (pv 2) (pv 3)) pa_nil))))
    (pss_cons (ps_set (i := 5) sc_last_above.nd rfl (Or.inr rfl) (pe_call G_values_to (hr.mono (by decide)) (by rfl) m_values_to k_values_to b_values_to .nil pass0 (pa_cons (pv 1) (pa_cons (pe_op op_add (pv 2) (pv 3)) pa_nil))))
    (pss_cons (ps_set (i := 6) sc_last_above.nd rfl (Or.inr rfl) (pe_op op_sub (pe_call G_rise_in (hr.mono (by decide)) (by rfl) m_rise_in k_rise_in b_rise_in .nil pass0 (pa_cons (pv 1) (pa_cons (pv 3) pa_nil))) (pe_call G_rise_in (hr.mono (by decide)) (by rfl) m_rise_in k_rise_in b_rise_in .nil pass0 (pa_cons (pv 0) (pa_cons (pv 3) pa_nil)))))
    (pss_cons (ps_setLc (i := 7) (own := [("x", 9)]) (g := gName 9) (tt := _) rfl sc_last_above.nd rfl rfl (sw_true rfl rfl rfl (by decide +kernel)) (pi_range2 (by rfl) T.n_range (pa_cons (pv 2) (pa_cons (pe_op op_add (pv 2) (pv 3)) pa_nil))) (blkOk_by (own := [("x", 9)]) (N := N_last_above) (sc := defScope s_last_above) (by decide +kernel)) (fun _ _ _ _ _ => pg_name (i := 9) sc_last_above.nd rfl (Or.inl rfl)) (fun _ _ _ _ _ => pts_one (pt_cmpR op_gt (pe_ix (show IxR _ (rIxL K) from ix_list) (pv 4) (pv 9) (fun _ _ => rfl)) (pe_ix (show IxR _ (rIxL K) from ix_list) (pv 5) (pv 9) (fun _ _ => rfl)) (nomark _))) (fun _ _ _ _ _ => (pe_op op_add (pv 9) (pe_op op_mul (pv 3) (pe_op op_fdivW (pe_op op_sub (pe_op op_sub (pe_ix (show IxR _ (rIxL K) from ix_list) (pv 4) (pv 9) (fun _ _ => rfl)) (pe_ix (show IxR _ (rIxL K) from ix_list) (pv 5) (pv 9) (fun _ _ => rfl))) pe_int) (pv 6))))))
    (pss_cons (ps_setLc (i := 8) (own := [("x", 9)]) (g := gName 9) (tt := _) rfl sc_last_above.nd rfl rfl (sw_true rfl rfl rfl (by decide +kernel)) (pi_range1 (by rfl) T.n_range (pa_cons (pv 2) pa_nil)) (blkOk_by (own := [("x", 9)]) (N := N_last_above) (sc := defScope s_last_above) (by decide +kernel)) (fun _ _ _ _ _ => pg_name (i := 9) sc_last_above.nd rfl (Or.inl rfl)) (fun _ _ _ _ _ => pts_one (pt_cmpR op_gt (pe_ix (show IxR _ (rIxL K) from ix_list) (pv 4) (pv 9) (fun _ _ => rfl)) (pe_ix (show IxR _ (rIxL K) from ix_list) (pv 5) (pv 9) (fun _ _ => rfl)) (nomark _))) (fun _ _ _ _ _ => (pv 9)))
    (pss_one (ps_ret (pe_maxDefE (i := -1) rfl (by rfl) T.n_max (pe_un un_neg pe_int) (fun _ _ _ h => ⟨_, rfl, h⟩) (pa_cons (pe_op op_cat (pv 8) (pv 7)) pa_nil)))))))))), ?_⟩
  refine ⟨_, rfl, _, rfl, d1, d2, T1, T2, p1, p2, r1, r2, rfl, R1, R2, l1, l2, c1, c2, fun H1 q1 s1' hq1 => ?_⟩
  refine ⟨_, _, rfl, SqT.of hq1, rfl, _, _, rfl, _, _, rfl, rfl, ?_⟩
  generalize hB : max (T1.length - p1) (T2.length - p2) = B at turn0
  generalize hL : Nat.lcm p1 p2 = t at lcm0 lcm1 turn0 da db
  have Bb : B ≤ 300 := by omega
  refine ⟨_, rfl, _, rfl, _, rfl, _, _, rfl, rfl, d1, T1, p1, r1, B + t, rfl, R1.same s1', o1, b1, by omega, fun H2 L s2' nL hL2 => ?_⟩
  refine ⟨_, rfl, _, rfl, _, rfl, _, _, rfl, rfl, d2, T2, p2, r2, B + t, rfl, (R2.same s1').same s2', o2, b2, by omega, fun H3 M s3' nM hM => ?_⟩
  have hL3 := s3' _ _ hL2
  have s := s1'.trans (s2'.trans s3')
  refine ⟨_, rfl, _, rfl, d2, T2, p2, r2, t, rfl, R2.same s, o2, b2, ?_⟩
  refine ⟨_, rfl, _, rfl, d1, T1, p1, r1, t, rfl, R1.same s, o1, b1, _, _, rfl, rfl, ?_⟩
  rw [da, db]
  show gName 6 (V.int (r2 * (kb : Int) - r1 * (ka : Int))) _ _ _
  have kb1 : kb ≤ 1600 := Nat.le_trans (by rw [← db]; exact Nat.div_le_self _ _) lcm1
  have gtop : r2 * (kb : Int) ≤ 10000000000000 * 1600 := Int.mul_le_mul s2.r1 (by omega) (by omega) (by decide)
  have gbot : 0 ≤ r1 * (ka : Int) := Int.mul_nonneg o1.r0 (by omega)
  generalize hg : r2 * (kb : Int) - r1 * (ka : Int) = g at turn0 loss
  have gb : g ≤ 16000000000000000 := by omega
  have dv : ∀ x : Int, CDivW x g := fun x => wide_div (b := 60) loss (by omega) (by decide) (by decide)
  generalize hD : (fun x => vl T1 p1 r1 x - vl T2 p2 r2 x) = D at k
  have eD : ∀ x, D x = vl T1 p1 r1 x - vl T2 p2 r2 x := fun x => by rw [← hD]
  have turnD : ∀ x, B ≤ x → D (x + t) = D x - g := fun x hx => by rw [eD, eD]; exact turn0 x hx
  -- late
  refine ⟨_, rfl, _, rfl, _, rfl, _, _, rfl, rfl, _, _, rfl, ⟨by omega, by omega, by omega, by omega⟩, fun U nU => ?_⟩
  have sU := same_upd (o := .lst []) nU
  have cnt : ((B : Int) + (t : Int) - (B : Int)).toNat = t := by omega
  rw [cnt]
  refine lc_range (lo := (B : Int)) (n := t) (fun j H' => Same H3 H' ∧ H' U = some (.lst ((lateL D B t g j).map V.int))) ⟨sU, upd_same⟩ ?_ ?_
  · rintro j H' hj ⟨sm, hU⟩
    refine ⟨rfl, ?_⟩
    refine ⟨_, rfl, _, rfl, _, _, _, _, rfl, rfl, SqL.of (sm _ _ hL3), at_of (j := B + j) rfl (vals_get (by omega)), _, rfl, _, rfl, _, _, _, _, rfl, rfl, SqL.of (sm _ _ hM), at_of (j := B + j) rfl (vals_get (by omega)), _, _, rfl, rfl, _, rfl, ite3 (fun e => ?_) (fun e => ?_)⟩
    · have pos : 0 < D (B + j) := by rw [eD]; omega
      refine ⟨_, rfl, _, rfl, _, rfl, _, rfl, _, _, _, _, rfl, rfl, SqL.of (sm _ _ hL3), at_of (j := B + j) rfl (vals_get (by omega)), _, rfl, _, rfl, _, _, _, _, rfl, rfl, SqL.of (sm _ _ hM), at_of (j := B + j) rfl (vals_get (by omega)), _, _, rfl, rfl, _, _, rfl, rfl, _, rfl, _, _, rfl, rfl, dv _, _, _, rfl, rfl, .inl ⟨by omega, by omega⟩, _, _, rfl, rfl, _, hU, ?_, fun b o e' => ?_, ?_⟩
      · rw [List.length_map]
        exact Nat.lt_of_le_of_lt (Nat.le_trans late_ln (show j ≤ 1600 by omega)) (by decide)
      · rw [upd_ne (ne_of_none e' nU)]
        exact sm _ _ e'
      · rw [upd_same, late_pos pos, List.map_append, eD]
        rfl
    · refine ⟨sm, ?_⟩
      rw [late_neg (by rw [eD]; omega)]
      exact hU
  rintro H4 ⟨s4, hU⟩
  -- early
  refine ⟨_, rfl, _, rfl, by omega, by omega, fun W nW => ?_⟩
  have sW := same_upd (o := .lst []) nW
  rw [Int.toNat_natCast]
  have hL4 := s4 _ _ hL3
  have hM4 := s4 _ _ hM
  refine lc_range (lo := 0) (n := B) (fun j H' => Same H4 H' ∧ H' W = some (.lst ((earlyL D j).map V.int))) ⟨sW, upd_same⟩ ?_ ?_
  · rintro j H' hj ⟨sm, hW⟩
    refine ⟨rfl, ?_⟩
    refine ⟨_, rfl, _, rfl, _, _, _, _, rfl, rfl, SqL.of (sm _ _ hL4), at_of (j := j) (Int.zero_add _) (vals_get (by omega)), _, rfl, _, rfl, _, _, _, _, rfl, rfl, SqL.of (sm _ _ hM4), at_of (j := j) (Int.zero_add _) (vals_get (by omega)), _, _, rfl, rfl, _, rfl, ite3 (fun e => ?_) (fun e => ?_)⟩
    · have pos : 0 < D j := by rw [eD]; omega
      refine ⟨_, rfl, _, hW, ?_, fun b o e' => ?_, ?_⟩
      · rw [List.length_map]
        exact Nat.lt_of_le_of_lt (Nat.le_trans early_len (show j ≤ 1600 by omega)) (by decide)
      · rw [upd_ne (ne_of_none e' nW)]
        exact sm _ _ e'
      · rw [upd_same, early_pos pos, List.map_append, Int.zero_add]
        rfl
    · refine ⟨sm, ?_⟩
      rw [early_neg (by rw [eD]; omega)]
      exact hW
  rintro H5 ⟨s5, hW⟩
  have hU5 := s5 _ _ hU
  refine ⟨_, rfl, _, rfl, _, _, _, _, rfl, rfl, hW, hU5, ?_, fun Z nZ => ?_⟩
  · rw [List.length_map, List.length_map]
    exact Nat.le_trans (show (earlyL D B).length + (lateL D B t g t).length ≤ 6000 by have := early_len (d := D) (j := B); have := late_ln (d := D) (B := B) (t := t) (g := g) (j := t); omega) (by decide)
  have sZ := same_upd (o := .lst ((earlyL D B).map V.int ++ (lateL D B t g t).map V.int)) nZ
  obtain ⟨m0, m1⟩ := last_is lcm0 loss turnD rfl
  refine maxDef_set (ns := earlyL D B ++ lateL D B t g t) (by rw [upd_same, List.map_append]) (fun e => k _ _ (s.trans (s4.trans (s5.trans sZ))) (m0 e)) (fun m hm hle => k _ _ (s.trans (s4.trans (s5.trans sZ))) (m1 m hm hle))
end
end Sm

set_option Elab.async false
set_option linter.all false
set_option maxRecDepth 100000
set_option maxHeartbeats 16000000
namespace Sm
open PySem PySem.Spec PyProof.Rows L2
open C8 (pss_cut tCut)
/-- the shortest rule of the greater values, or TooLong with its length -/
def BestOf (c : Addr) (T1 : List Int) (p1 : Nat) (r1 : Int) (T2 : List Int) (p2 : Nat) (r2 : Int) (H : Hp) (Q : VK) (E : XK) : Prop :=
  (∀ H' d' T' p' r', Same H H' → RuleAt H' d' T' p' r' → RB T' p' r' → Short T' p' r' → (∀ x, vl T' p' r' x = max (vl T1 p1 r1 x) (vl T2 p2 r2 x)) → T'.length ≤ 5000 → Q (.ref d') H') ∧
  ∀ n : Nat, 5000 < n → (∀ T' p' r', Short T' p' r' → (∀ x, vl T' p' r' x = max (vl T1 p1 r1 x) (vl T2 p2 r2 x)) → T'.length = n) → ∀ H', Same H H' → Lng c (n : Int) H' E
def sp_over (c : Addr) : Sp := fun vs H Q E => ∃ (d1 d2 : Addr) (T1 T2 : List Int) (p1 p2 : Nat) (r1 r2 : Int), vs = [.ref d1, .ref d2] ∧ RuleAt H d1 T1 p1 r1 ∧ RuleAt H d2 T2 p2 r2 ∧ Short T1 p1 r1 ∧ RuleOk T2 p2 r2 ∧ RS 10000000000000 T1 p1 r1 ∧ RS 10000000000000 T2 p2 r2 ∧ r2 * (p1 : Int) < r1 * (p2 : Int) ∧ BestOf c T1 p1 r1 T2 p2 r2 H Q E
theorem over_tab {T1 T2 : List Int} {p1 p2 B : Nat} {r1 r2 : Int} (o1 : RuleOk T1 p1 r1) (o2 : RuleOk T2 p2 r2) (s1 : RS 10000000000000 T1 p1 r1) (s2 : RS 10000000000000 T2 p2 r2) (hB : T1.length - p1 ≤ B) (hb : B + p1 ≤ 5000) (hL : ∀ x, B ≤ x → vl T2 p2 r2 x ≤ vl T1 p1 r1 x) :
    RuleOk (gtab T1 p1 r1 T2 p2 r2 (B + p1)) p1 r1 ∧ RB (gtab T1 p1 r1 T2 p2 r2 (B + p1)) p1 r1 ∧ ∀ x, vl (gtab T1 p1 r1 T2 p2 r2 (B + p1)) p1 r1 x = max (vl T1 p1 r1 x) (vl T2 p2 r2 x) := by
  have turn := over_turn o1 hB hL
  have r1' := s1.r1
  refine ⟨tab_ok (f := fun x => max (vl T1 p1 r1 x) (vl T2 p2 r2 x)) o1.p0 o1.r0 turn (fun x => ?_) (fun x => ?_), ⟨?_, by omega, fun i hi => ?_⟩, tab_vl o1.p0 turn⟩
  · have := o1.pos x
    omega
  · have := o1.up x
    have := o2.up x
    omega
  · unfold gtab
    rw [List.length_map, List.length_range]
    omega
  · unfold gtab at hi ⊢
    rw [tab_len] at hi
    rw [tab_getD hi]
    have h1 := RS.vl o1 s1 (by decide) i
    have h2 := RS.vl o2 s2 (by decide) i
    have h3 : (10000000000000 : Int) * ((i : Int) + 1) ≤ 10000000000000 * 5001 := Int.mul_le_mul_of_nonneg_left (by omega) (by decide)
    omega
section
variable {P : Program} {w : World} {K : PySem.W.Frag} {mg : Str → Option Value} {base : Heap} {cTooLong : Addr}
abbrev s_overtaking_rule : Stmt := topS 19
abbrev N_overtaking_rule : List Str := ["steep", "flat", "count"]
theorem sc_overtaking_rule : FnScope N_overtaking_rule ["steep", "flat"] (defScope s_overtaking_rule) := ⟨rfl, rfl, rfl, by decide +kernel, rfl, by decide +kernel, by decide +kernel⟩
theorem ok_overtaking_rule (T : Txt mg) (D : Df K mg "overtaking_rule" s_overtaking_rule ["steep", "flat"]) (C_greater_values : CalX P w K mg base "greater_values" ["one", "other", "count", "turn"] 5 (sp_greater cTooLong)) (C_check_told : CalX P w K mg base "check_told" ["number"] 3 (sp_check_told cTooLong)) (C_last_above : Cal P w K mg base "last_above" ["flat", "steep"] 3 (sp_last_above K)) (C_begin_of : Cal P w K mg base "begin_of" ["rule"] 1 (sp_begin_of K)) : CalX P w K mg base "overtaking_rule" ["steep", "flat"] 6 (sp_over cTooLong) := by
  obtain ⟨f_greater_values, fd_greater_values, G_greater_values, m_greater_values, k_greater_values, b_greater_values⟩ := C_greater_values
  obtain ⟨f_check_told, fd_check_told, G_check_told, m_check_told, k_check_told, b_check_told⟩ := C_check_told
  obtain ⟨f_last_above, fd_last_above, G_last_above, m_last_above, k_last_above, b_last_above⟩ := C_last_above
  obtain ⟨f_begin_of, fd_begin_of, G_begin_of, m_begin_of, k_begin_of, b_begin_of⟩ := C_begin_of
  obtain ⟨f, fd, F, m, b⟩ := D
  refine ⟨f, fd, F.okX sc_overtaking_rule (fun vs H Q E h => ?_) (fun cdv A outer s H vs Q E hr h => ?_), m, F.kp, b⟩
  · obtain ⟨d1, d2, T1, T2, p1, p2, r1, r2, rfl, _⟩ := h
    rfl
  obtain ⟨d1, d2, T1, T2, p1, p2, r1, r2, rfl, R1, R2, sh1, o2, s1, s2, lt, kq, kl⟩ := h
  have o1 := sh1.ok
  have pp := o1.p0
  have l1 := o1.p1
  have bl1 := s1.len
  refine ⟨_, (pss_cons (ps_set (i := 2) sc_overtaking_rule.nd rfl (Or.inl rfl) (pe_op op_add (pe_callB (call_max2 rfl) (by rfl) T.n_max (by decide +kernel) (pa_cons (pe_call G_begin_of (hr.mono (by decide)) (by rfl) m_begin_of k_begin_of b_begin_of .nil pass0 (pa_cons (pv 0) pa_nil)) (pa_cons (pe_op op_add (pe_call G_last_above (hr.mono (by decide)) (by rfl) m_last_above k_last_above b_last_above .nil pass0 (pa_cons (pv 1) (pa_cons (pv 0) pa_nil))) pe_int) pa_nil))) (pe_ix ix_tup (pv 0) pe_int (fun _ _ => rfl))))
    (pss_cons (ps_if (pt_cmpR op_gt (pv 2) (pe_callB call_len_seq (by rfl) T.n_len (by decide +kernel) (pa_cons (pe_ix ix_tup (pv 0) pe_int (fun _ _ => rfl)) pa_nil)) (nomark _)) (pss_one (ps_expr (pe_callS G_check_told (hr.mono (by decide)) rfl m_check_told k_check_told b_check_told (fun σ => passAt (takes_of rfl rfl rfl rfl) σ) (pa_cons (pv 2) pa_nil)))) pss_nil)
    (pss_one (ps_ret (pe_callS G_greater_values (hr.mono (by decide)) rfl m_greater_values k_greater_values b_greater_values (fun σ => passAt (takes_of rfl rfl rfl rfl) σ) (pa_cons (pv 0) (pa_cons (pv 1) (pa_cons (pv 2) (pa_cons (pe_ix ix_tup (pv 0) pe_int (fun _ _ => rfl)) pa_nil))))))))), ?_⟩
  refine ⟨_, rfl, d1, T1, p1, r1, rfl, R1, l1, _, rfl, _, rfl, d2, d1, T2, T1, p2, p1, r2, r1, rfl, R2, R1, o2, o1, s2, s1, lt, fun H1 L sA isl => ?_⟩
  have R1a := R1.same sA
  have R2a := R2.same sA
  obtain ⟨t1, hd1, ht1⟩ := id R1a
  have L0 : -1 ≤ L := by
    rcases isl.1 with e | ⟨n, e, _⟩ <;> omega
  obtain ⟨B, hBn⟩ : ∃ B : Nat, (B : Int) = if L + 1 > ((T1.length - p1 : Nat) : Int) then L + 1 else ((T1.length - p1 : Nat) : Int) := by
    refine ⟨(if L + 1 > ((T1.length - p1 : Nat) : Int) then L + 1 else ((T1.length - p1 : Nat) : Int)).toNat, Int.toNat_of_nonneg ?_⟩
    split <;> omega
  have hB1 : T1.length - p1 ≤ B := by
    split at hBn <;> omega
  have hB2 : L < (B : Int) := by
    split at hBn <;> omega
  refine ⟨_, _, rfl, rfl, _, _, rfl, _, rfl, _, _, _, _, rfl, rfl, SqT.of hd1, atI_nat (j := 1) rfl, _, _, rfl, rfl, ?_⟩
  have z : ∀ C : Int → Prop, C ((B + p1 : Nat) : Int) → C ((if L + 1 > ((T1.length - p1 : Nat) : Int) then L + 1 else ((T1.length - p1 : Nat) : Int)) + (p1 : Int)) := fun C h => by
    rw [← hBn]
    exact h
  refine z (fun y => gName 2 (.int y) _ _ _) ?_
  clear z
  have hL : ∀ x, B ≤ x → vl T2 p2 r2 x ≤ vl T1 p1 r1 x := fun x hx => by
    have q := isl.2 x
    rcases Int.lt_or_le 0 (vl T2 p2 r2 x - vl T1 p1 r1 x) with g | g
    · have := q g
      omega
    · omega
  have rb1 := s1.rb (by decide)
  have rb2 := s2.rb (by decide)
  have args : [V.ref d1, V.ref d2, V.int ((B + p1 : Nat) : Int), V.int (p1 : Int)] = [V.ref d1, V.ref d2, V.int ((B + p1 : Nat) : Int), V.int ((1 * p1 : Nat) : Int)] := by rw [Nat.one_mul]
  have fin : B + p1 ≤ 5000 → sp_greater cTooLong [V.ref d1, V.ref d2, V.int ((B + p1 : Nat) : Int), V.int (p1 : Int)] H1 Q E := fun q => by
    obtain ⟨og, bg, ov⟩ := over_tab o1 o2 s1 s2 hB1 q hL
    have gl : (gtab T1 p1 r1 T2 p2 r2 (B + p1)).length = B + p1 := by
      unfold gtab
      rw [List.length_map, List.length_range]
    refine ⟨d1, d2, T1, T2, p1, p2, B + p1, 1, r1, r2, args, R1a, R2a, o1, o2, rb1, rb2, q, ?_, ?_, ?_⟩
    · rw [Nat.one_mul, show r1 * ((1 : Nat) : Int) = r1 from Int.mul_one r1]
      exact og
    · rw [Nat.one_mul, show r1 * ((1 : Nat) : Int) = r1 from Int.mul_one r1]
      exact bg
    · rw [Nat.one_mul, show r1 * ((1 : Nat) : Int) = r1 from Int.mul_one r1]
      intro H' d' T' p' r' s' R c sh hv
      have cl := c.len
      exact ⟨fun q2 => kq H' d' T' p' r' (sA.trans s') R (c.rb bg) sh (fun x => (hv x).trans (ov x)) q2, fun q2 => by omega⟩
  refine ⟨_, rfl, _, rfl, _, _, _, _, rfl, rfl, SqT.of hd1, atI_nat (j := 0) rfl, _, _, rfl, .inr (SqT.of ht1), _, _, rfl, rfl, _, rfl, ite3 (fun e => ?_) (fun e => ?_)⟩
  · rw [len_int] at e
    refine ⟨_, rfl, ((B + p1 : Nat) : Int), rfl, fun q => ?_, fun q => ?_⟩
    · exact ⟨_, rfl, _, rfl, _, rfl, _, rfl, _, _, _, _, rfl, rfl, SqT.of hd1, atI_nat (j := 1) rfl, fin (by omega)⟩
    · have e : T1.length < B + p1 := by omega
      have eB : (B : Int) = L + 1 := by
        split at hBn <;> omega
      obtain ⟨n, rfl, above⟩ : ∃ n : Nat, L = (n : Int) ∧ 0 < vl T2 p2 r2 n - vl T1 p1 r1 n := by
        rcases isl.1 with e1 | e1
        · omega
        · exact e1
      refine kl (B + p1) (by omega) (fun T' p' r' s hv => ?_) H1 sA
      obtain ⟨_, _, len⟩ := over_len s sh1 hv (L := n) (by omega) (by omega) fun x hx => hL x (by omega)
      omega
  · rw [len_int] at e
    exact ⟨_, rfl, _, rfl, _, rfl, _, rfl, _, _, _, _, rfl, rfl, SqT.of hd1, atI_nat (j := 1) rfl, fin (by omega)⟩
end
end Sm

set_option Elab.async false
set_option linter.all false
set_option maxRecDepth 100000
set_option maxHeartbeats 16000000
namespace Sm
open PySem PySem.Spec PyProof.Rows L2
open C8 (pss_cut tCut)
def sp_best (c : Addr) : Sp := fun vs H Q E => ∃ (d1 d2 : Addr) (T1 T2 : List Int) (p1 p2 : Nat) (r1 r2 : Int), vs = [.ref d1, .ref d2] ∧ RuleAt H d1 T1 p1 r1 ∧ RuleAt H d2 T2 p2 r2 ∧ Short T1 p1 r1 ∧ Short T2 p2 r2 ∧ RS 10000000000000 T1 p1 r1 ∧ RS 10000000000000 T2 p2 r2 ∧ BestOf c T1 p1 r1 T2 p2 r2 H Q E
theorem BestOf.swap {c : Addr} {T1 T2 : List Int} {p1 p2 : Nat} {r1 r2 : Int} {H : Hp} {Q : VK} {E : XK} (b : BestOf c T1 p1 r1 T2 p2 r2 H Q E) : BestOf c T2 p2 r2 T1 p1 r1 H Q E :=
  ⟨fun H' d' T' p' r' s R rb sh hv l => b.1 H' d' T' p' r' s R rb sh (fun x => (hv x).trans (Int.max_comm _ _)) l, fun n hn h H' s => b.2 n hn (fun T' p' r' sh hv => h T' p' r' sh fun x => (hv x).trans (Int.max_comm _ _)) H' s⟩
theorem alike_tab {T1 T2 : List Int} {p1 p2 B t ka kb : Nat} {r1 r2 : Int} (o1 : RuleOk T1 p1 r1) (o2 : RuleOk T2 p2 r2) (s1 : RS 10000000000000 T1 p1 r1) (s2 : RS 10000000000000 T2 p2 r2) (hB1 : T1.length - p1 ≤ B) (hB2 : T2.length - p2 ≤ B) (hB : B ≤ 300) (t0 : 0 < t) (ht : t ≤ 1600)
    (ea : ka * p1 = t) (eb : kb * p2 = t) (hk : ka ≤ 1600) (e : r1 * (ka : Int) = r2 * (kb : Int)) :
    RuleOk (gtab T1 p1 r1 T2 p2 r2 (B + t)) t (r1 * (ka : Int)) ∧ RB (gtab T1 p1 r1 T2 p2 r2 (B + t)) t (r1 * (ka : Int)) ∧ ∀ x, vl (gtab T1 p1 r1 T2 p2 r2 (B + t)) t (r1 * (ka : Int)) x = max (vl T1 p1 r1 x) (vl T2 p2 r2 x) := by
  have turn : ∀ x, B ≤ x → max (vl T1 p1 r1 (x + t)) (vl T2 p2 r2 (x + t)) = max (vl T1 p1 r1 x) (vl T2 p2 r2 x) + r1 * (ka : Int) := by
    intro x hx
    have e1 := vl_addk o1.p0 o1.p1 (r := r1) (x := x) (by omega) ka
    have e2 := vl_addk o2.p0 o2.p1 (r := r2) (x := x) (by omega) kb
    rw [ea, Int.mul_comm] at e1
    rw [eb, Int.mul_comm, ← e] at e2
    omega
  have u1 : r1 * (ka : Int) ≤ 10000000000000 * 1600 := Int.mul_le_mul s1.r1 (by omega) (by omega) (by decide)
  refine ⟨tab_ok (f := fun x => max (vl T1 p1 r1 x) (vl T2 p2 r2 x)) t0 (Int.mul_nonneg o1.r0 (by omega)) turn (fun x => ?_) (fun x => ?_), ⟨?_, by omega, fun i hi => ?_⟩, tab_vl t0 turn⟩
  · have := o1.pos x
    omega
  · have := o1.up x
    have := o2.up x
    omega
  · unfold gtab
    rw [List.length_map, List.length_range]
    omega
  · unfold gtab at hi ⊢
    rw [tab_len] at hi
    rw [tab_getD hi]
    have h1 := RS.vl o1 s1 (by decide) i
    have h2 := RS.vl o2 s2 (by decide) i
    have h3 : (10000000000000 : Int) * ((i : Int) + 1) ≤ 10000000000000 * 5001 := Int.mul_le_mul_of_nonneg_left (by omega) (by decide)
    omega
section
variable {P : Program} {w : World} {K : PySem.W.Frag} {mg : Str → Option Value} {base : Heap} {cTooLong : Addr}
abbrev s_best_rule : Stmt := topS 18
abbrev N_best_rule : List Str := ["one", "other", "ahead", "begin", "turn"]
theorem sc_best_rule : FnScope N_best_rule ["one", "other"] (defScope s_best_rule) := ⟨rfl, rfl, rfl, by decide +kernel, rfl, by decide +kernel, by decide +kernel⟩
theorem ok_best_rule (T : Txt mg) (D : Df K mg "best_rule" s_best_rule ["one", "other"]) (C_overtaking_rule : CalX P w K mg base "overtaking_rule" ["steep", "flat"] 6 (sp_over cTooLong)) (C_greater_values : CalX P w K mg base "greater_values" ["one", "other", "count", "turn"] 5 (sp_greater cTooLong)) (C_common_turn : Cal P w K mg base "common_turn" ["one", "other"] 2 (sp_common_turn K)) : CalX P w K mg base "best_rule" ["one", "other"] 7 (sp_best cTooLong) := by
  obtain ⟨f_greater_values, fd_greater_values, G_greater_values, m_greater_values, k_greater_values, b_greater_values⟩ := C_greater_values
  obtain ⟨f_overtaking_rule, fd_overtaking_rule, G_overtaking_rule, m_overtaking_rule, k_overtaking_rule, b_overtaking_rule⟩ := C_overtaking_rule
  obtain ⟨f_common_turn, fd_common_turn, G_common_turn, m_common_turn, k_common_turn, b_common_turn⟩ := C_common_turn
  obtain ⟨f, fd, F, m, b⟩ := D
  refine ⟨f, fd, F.okX sc_best_rule (fun vs H Q E h => ?_) (fun cdv A outer s H vs Q E hr h => ?_), m, F.kp, b⟩
  · obtain ⟨d1, d2, T1, T2, p1, p2, r1, r2, rfl, _⟩ := h
    rfl
  obtain ⟨d1, d2, T1, T2, p1, p2, r1, r2, rfl, R1, R2, sh1, sh2, s1, s2, kb⟩ := h
  obtain ⟨t1, hd1, ht1⟩ := id R1
  obtain ⟨t2, hd2, ht2⟩ := id R2
  have o1 := sh1.ok
  have o2 := sh2.ok
  have z1 := o1.p0
  have z2 := o2.p0
  have l1 := o1.p1
  have l2 := o2.p1
  have bl1 := s1.len
  have bl2 := s2.len
  have c1 := s1.turn
  have c2 := s2.turn
  refine ⟨_, (pss_cons (ps_set (i := 2) sc_best_rule.nd rfl (Or.inl rfl) (pe_op op_sub (pe_op op_mul (pe_ix ix_tup (pv 0) pe_int (fun _ _ => rfl)) (pe_ix ix_tup (pv 1) pe_int (fun _ _ => rfl))) (pe_op op_mul (pe_ix ix_tup (pv 1) pe_int (fun _ _ => rfl)) (pe_ix ix_tup (pv 0) pe_int (fun _ _ => rfl)))))
    (pss_cons (ps_if (pt_cmpR op_eq (pv 2) pe_int (nomark _)) (pss_cons (ps_asg (pe_call G_common_turn (hr.mono (by decide)) (by rfl) m_common_turn k_common_turn b_common_turn .nil pass0 (pa_cons (pv 0) (pa_cons (pv 1) pa_nil))) (pg_tup (by rfl) (pgs_cons (pg_name (i := 3) sc_best_rule.nd rfl (Or.inl rfl)) (pgs_cons (pg_name (i := 4) sc_best_rule.nd rfl (Or.inl rfl)) pgs_nil))))
    (pss_one (ps_ret (pe_callS G_greater_values (hr.mono (by decide)) rfl m_greater_values k_greater_values b_greater_values (fun σ => passAt (takes_of rfl rfl rfl rfl) σ) (pa_cons (pv 0) (pa_cons (pv 1) (pa_cons (pe_op op_add (pv 3) (pv 4)) (pa_cons (pv 4) pa_nil)))))))) pss_nil)
    (pss_cons (ps_if (pt_cmpR op_gt (pv 2) pe_int (nomark _)) (pss_one (ps_ret (pe_callS G_overtaking_rule (hr.mono (by decide)) rfl m_overtaking_rule k_overtaking_rule b_overtaking_rule (fun σ => passAt (takes_of rfl rfl rfl rfl) σ) (pa_cons (pv 0) (pa_cons (pv 1) pa_nil))))) pss_nil)
    (pss_one (ps_ret (pe_callS G_overtaking_rule (hr.mono (by decide)) rfl m_overtaking_rule k_overtaking_rule b_overtaking_rule (fun σ => passAt (takes_of rfl rfl rfl rfl) σ) (pa_cons (pv 1) (pa_cons (pv 0) pa_nil)))))))), ?_⟩
  refine ⟨_, rfl, _, _, _, _, rfl, rfl, SqT.of hd1, atI_nat (j := 2) rfl, _, rfl, _, _, _, _, rfl, rfl, SqT.of hd2, atI_nat (j := 1) rfl, _, _, rfl, rfl, .inr ⟨by omega, by omega⟩, ?_⟩
  refine ⟨_, rfl, _, _, _, _, rfl, rfl, SqT.of hd2, atI_nat (j := 2) rfl, _, rfl, _, _, _, _, rfl, rfl, SqT.of hd1, atI_nat (j := 1) rfl, _, _, rfl, rfl, .inr ⟨by omega, by omega⟩, _, _, rfl, rfl, ?_⟩
  refine ⟨_, rfl, rfl, _, rfl, ite3 (fun e => ?_) (fun e => ?_)⟩
  · have e : r1 * (p2 : Int) - r2 * (p1 : Int) = 0 := V.int.inj e
    have rb1 := s1.rb (by decide)
    have rb2 := s2.rb (by decide)
    obtain ⟨ka, hka⟩ := Nat.dvd_lcm_left p1 p2
    obtain ⟨kc, hkc⟩ := Nat.dvd_lcm_right p1 p2
    have lcm0 : 0 < Nat.lcm p1 p2 := Nat.lcm_pos z1 z2
    have lcm1 : Nat.lcm p1 p2 ≤ 1600 := by
      have h1 : Nat.lcm p1 p2 ≤ p1 * p2 := PySem.W.mc_lcm_le p1 p2
      have h2 : p1 * p2 ≤ 40 * 40 := Nat.mul_le_mul c1 c2
      omega
    have da : Nat.lcm p1 p2 / p1 = ka := by rw [hka]; exact Nat.mul_div_cancel_left ka z1
    have ea : ka * p1 = Nat.lcm p1 p2 := by rw [Nat.mul_comm]; exact hka.symm
    have ec : kc * p2 = Nat.lcm p1 p2 := by rw [Nat.mul_comm]; exact hkc.symm
    have ka1 : ka ≤ 1600 := Nat.le_trans (by rw [← da]; exact Nat.div_le_self _ _) lcm1
    have same : r1 * (ka : Int) = r2 * (kc : Int) := by
      have ce : (ka : Int) * (p1 : Int) = (kc : Int) * (p2 : Int) := by
        rw [← Int.natCast_mul, ← Int.natCast_mul, ea, ec]
      refine Int.eq_of_mul_eq_mul_right (show (p2 : Int) ≠ 0 by omega) ?_
      rw [Int.mul_assoc, Int.mul_comm (ka : Int), ← Int.mul_assoc, show r1 * (p2 : Int) = r2 * (p1 : Int) by omega, Int.mul_assoc, Int.mul_comm (p1 : Int), ce, ← Int.mul_assoc]
    refine ⟨_, rfl, _, rfl, d1, d2, T1, T2, p1, p2, r1, r2, rfl, R1, R2, l1, l2, c1, c2, fun H1 q1 s' hq1 => ?_⟩
    refine ⟨_, _, rfl, SqT.of hq1, rfl, _, _, rfl, _, _, rfl, rfl, ?_⟩
    obtain ⟨og, bg, ov⟩ := alike_tab o1 o2 s1 s2 (B := max (T1.length - p1) (T2.length - p2)) (t := ka * p1) (by omega) (by omega) (by omega) (by omega) (by omega) rfl (ec.trans ea.symm) ka1 same
    have gl : (gtab T1 p1 r1 T2 p2 r2 (max (T1.length - p1) (T2.length - p2) + ka * p1)).length = max (T1.length - p1) (T2.length - p2) + ka * p1 := by
      unfold gtab
      rw [List.length_map, List.length_range]
    refine ⟨_, rfl, _, rfl, _, rfl, _, rfl, _, _, rfl, rfl, _, rfl, d1, d2, T1, T2, p1, p2, max (T1.length - p1) (T2.length - p2) + ka * p1, ka, r1, r2, ?_, R1.same s', R2.same s', o1, o2, rb1, rb2, by omega, og, bg, fun H' d' T' p' r' s2' R c sh hv => ?_⟩
    · rw [ea]
      rfl
    · have cl := c.len
      exact ⟨fun q => kb.1 H' d' T' p' r' (s'.trans s2') R (c.rb bg) sh (fun x => (hv x).trans (ov x)) q, fun q => by omega⟩
  · refine ⟨_, rfl, _, _, rfl, rfl, _, rfl, ite3 (fun e2 => ?_) (fun e2 => ?_)⟩
    · exact ⟨_, rfl, _, rfl, d1, d2, T1, T2, p1, p2, r1, r2, rfl, R1, R2, sh1, o2, s1, s2, by omega, kb⟩
    · have e : r1 * (p2 : Int) - r2 * (p1 : Int) ≠ 0 := fun q => e (congrArg V.int q)
      exact ⟨_, rfl, _, rfl, d2, d1, T2, T1, p2, p1, r2, r1, rfl, R2, R1, sh2, o1, s2, s1, by omega, kb.swap⟩
end
end Sm

set_option Elab.async false
set_option linter.all false
set_option maxRecDepth 100000
set_option maxHeartbeats 4000000
namespace Sm
open PySem PySem.Spec PyProof.Rows L2
/-! ### a tuple taken once, or no times -/
theorem tuple_once (l : Addr) (items : Array Value) (n : Nat) (dd : Option Addr) (sl : Array (Option Value)) (u : Tok) :
    Meets (Builtin.«tuple.__mul__» ⟨[.ref l, .int 1 u], []⟩) (fun _ R s => s.heap.get? l = some { cls := .type "tuple", dict := dd, data := .seq items n, slots := sl } ∧ R (.ok (.ret (Value.ref l))) s) :=
  .of_wp fun prog w A R s h => by
    obtain ⟨hp, g, d, tk, os⟩ := s
    obtain ⟨hl, h⟩ := h
    have f1 := AutoSeq1.idx_int
    have c0 : (decide ((1 : Int) < -(2 ^ 63)) || decide ((1 : Int) ≥ 2 ^ 63)) = false := by decide
    wp_walk using wpAny_loadPart' hl
    exact ⟨_, rfl, h⟩
theorem tuple_zero (l : Addr) (items : Array Value) (n : Nat) (dd : Option Addr) (sl : Array (Option Value)) (u : Tok) (hi : items.isEmpty = false) :
    Meets (Builtin.«tuple.__mul__» ⟨[.ref l, .int 0 u], []⟩) (fun _ R s => s.heap.get? l = some { cls := .type "tuple", dict := dd, data := .seq items n, slots := sl } ∧ R (.ok (.ret (Value.ref s.heap.objs.size))) { s with heap := s.heap.push { cls := Value.type "tuple", data := Data.seq #[] } }) :=
  .of_wp fun prog w A R s h => by
    obtain ⟨hp, g, d, tk, os⟩ := s
    obtain ⟨hl, h⟩ := h
    have f1 := AutoSeq1.idx_int
    wp_walk using wpAny_loadPart' hl
    exact ⟨_, rfl, h⟩
section
variable {X : Cx}
/-- tuple * int, the int from 0 on -/
theorem op_rep0 : OpR X (binaryOp .Mult) (fun x y H Q => ∃ (l : Addr) (k : Int) (xs : List V), x = .ref l ∧ y = .int k ∧ H l = some (.tup xs) ∧ xs ≠ [] ∧ 0 ≤ k ∧ k ≤ 1000 ∧ xs.length ≤ 1000 ∧
    ∀ H' q, Same H H' → H' q = some (.tup (List.replicate k.toNat xs).flatten) → Q (.ref q) H') := by
  intro pins s σ H x y v u Q I rx ry want
  obtain ⟨l, k, xs, rfl, rfl, hT, hne, h0, h1, hz, q⟩ := want
  by_cases big : 2 ≤ k
  · exact op_repT pins s σ H _ _ v u Q I rx ry ⟨l, k, xs, rfl, rfl, SqT.of hT, hne, big, h1, hz, fun p np => q _ p (fun b o e => by rw [upd_ne (ne_of_none e np)]; exact e) upd_same⟩
  cases rx
  obtain ⟨t, rfl⟩ := ry
  obtain ⟨its, r, ⟨⟨cls, dd, data, sl⟩, ho, hc, n, hd⟩, hs⟩ := I.tuple (SqT.of hT)
  simp only at hc hd
  subst hc hd
  have hi : its.toArray.isEmpty = false := by
    cases its with
    | nil =>
      have := r.length
      exact absurd (List.eq_nil_of_length_eq_zero this) hne
    | cons a b => rfl
  by_cases one : k = 1
  · subst one
    refine wpAny_binaryOp_repeat_ref (T := "tuple") (U := "int") (by decide) ⟨_, ho, rfl⟩ (fun s' => typeIs_int s' 1 t) noFill_tuple_mul F.fills_int_mul F.slot_int_rmul repeat_tuple F.slot_int_index.lookup
      (call_meets F.slot_int_rmul (typeIs_int s 1 t) F.entry_int_rmul (F.args_int_rmul_2 _ _) (int_rmul_tuple 1 t l its.toArray n dd sl) ⟨ho, rfl, ⟨_, ho, rfl⟩, ?_⟩)
    refine call_meets F.slot_tuple_mul ⟨_, ho, rfl⟩ F.entry_tuple_mul (F.args_tuple_mul_2 _ _) (tuple_once l its.toArray n dd sl t) ⟨ho, ?_⟩
    refine ⟨.ref l, H, I, rfl, q H l (Same.refl H) ?_⟩
    rw [hT]
    simp
  · have zero : k = 0 := by omega
    subst zero
    refine wpAny_binaryOp_repeat_ref (T := "tuple") (U := "int") (by decide) ⟨_, ho, rfl⟩ (fun s' => typeIs_int s' 0 t) noFill_tuple_mul F.fills_int_mul F.slot_int_rmul repeat_tuple F.slot_int_index.lookup
      (call_meets F.slot_int_rmul (typeIs_int s 0 t) F.entry_int_rmul (F.args_int_rmul_2 _ _) (int_rmul_tuple 0 t l its.toArray n dd sl) ⟨ho, rfl, ⟨_, ho, rfl⟩, ?_⟩)
    refine call_meets F.slot_tuple_mul ⟨_, ho, rfl⟩ F.entry_tuple_mul (F.args_tuple_mul_2 _ _) (tuple_zero l its.toArray n dd sl t hi) ⟨ho, ?_⟩
    have fresh := I.hok.fresh (Nat.le_refl s.heap.objs.size)
    refine ⟨.ref s.heap.objs.size, upd H s.heap.objs.size (.tup []), I.laid (t' := s.toks) (fun b ob e => Heap.get?_push_of_some _ e) (Nat.le_refl _) ?_, rfl, q _ _ (fun b o e => by rw [upd_ne (ne_of_none e fresh)]; exact e) upd_same⟩
    exact ⟨Nat.zero_le _, [], .nil, IsTup.new _ _⟩
end
end Sm

set_option Elab.async false
set_option linter.all false
set_option maxRecDepth 100000
set_option maxHeartbeats 16000000
namespace Sm
open PySem PySem.Spec PyProof.Rows L2
open C8 (pss_cut tCut)
/-- a rule, or word of how long it would be -/
def ToldAt (H : Hp) (q : Addr) (T : List Int) (p : Nat) (r : Int) : Prop := (T.length ≤ 5000 ∧ RuleAt H q T p r) ∨ (5000 < T.length ∧ H q = some (.lst [.str "long", .int (T.length : Int)]))
def sp_l_told (_ : PySem.W.Frag) : Sp := fun vs H Q _ => ∃ (d : Addr) (T : List Int) (p : Nat) (r : Int), vs = [.ref d] ∧ RuleAt H d T p r ∧ ∀ H' q, Same H H' → ToldAt H' q T p r → Q (.ref q) H'
def sp_l_last (_ : PySem.W.Frag) : Sp := fun vs H Q _ => ∃ (d1 d2 : Addr) (T1 T2 : List Int) (p1 p2 : Nat) (r1 r2 : Int), vs = [.ref d1, .ref d2] ∧ RuleAt H d1 T1 p1 r1 ∧ RuleAt H d2 T2 p2 r2 ∧ RuleOk T1 p1 r1 ∧ RuleOk T2 p2 r2 ∧ RS 10000000000000 T1 p1 r1 ∧ RS 10000000000000 T2 p2 r2 ∧ r1 * (p2 : Int) < r2 * (p1 : Int) ∧
  ∀ L, IsLast (fun x => vl T1 p1 r1 x - vl T2 p2 r2 x) L → Q (.int L) H
/-- the greatest of a list, -1 of the empty one -/
def Top (ns : List Int) (m : Int) : Prop := (ns = [] ∧ m = -1) ∨ (m ∈ ns ∧ ∀ y ∈ ns, y ≤ m)
theorem Top.more {ns : List Int} {m c : Int} (h : Top ns m) (c0 : 0 ≤ c) : Top (ns ++ [c]) (if c > m then c else m) := by
  rcases h with ⟨rfl, rfl⟩ | ⟨h1, h2⟩
  · rw [if_pos (by omega)]
    exact .inr ⟨List.mem_singleton.mpr rfl, fun y hy => by rw [List.mem_singleton.mp hy]; exact Int.le_refl _⟩
  · refine .inr ⟨?_, fun y hy => ?_⟩
    · split
      · exact List.mem_append_right _ (List.mem_singleton.mpr rfl)
      · exact List.mem_append_left _ h1
    · rcases List.mem_append.mp hy with hy | hy
      · have := h2 y hy
        split <;> omega
      · rw [List.mem_singleton.mp hy]
        split <;> omega
/-- what is found up to x -/
def seen (d : Nat → Int) (B t : Nat) (g : Int) (x : Nat) : List Int := earlyL d (min x B) ++ lateL d B t g (x - B)
theorem seen_early {d : Nat → Int} {B t x : Nat} {g : Int} (h : x < B) (hp : 0 < d x) : seen d B t g (x + 1) = seen d B t g x ++ [(x : Int)] := by
  unfold seen
  rw [show min (x + 1) B = x + 1 by omega, show min x B = x by omega, show x + 1 - B = 0 by omega, show x - B = 0 by omega, early_pos hp]
  show _ ++ [(x : Int)] ++ [] = _ ++ [] ++ [(x : Int)]
  simp
theorem seen_late {d : Nat → Int} {B t x : Nat} {g : Int} (h : ¬ x < B) (hp : 0 < d x) : seen d B t g (x + 1) = seen d B t g x ++ [(x : Int) + (t : Int) * ((d x - 1) / g)] := by
  unfold seen
  obtain ⟨j, rfl⟩ : ∃ j, x = B + j := ⟨x - B, by omega⟩
  rw [show min (B + j + 1) B = B by omega, show min (B + j) B = B by omega, show B + j + 1 - B = j + 1 by omega, show B + j - B = j by omega, late_pos hp, List.append_assoc]
theorem seen_not {d : Nat → Int} {B t x : Nat} {g : Int} (hp : ¬ 0 < d x) : seen d B t g (x + 1) = seen d B t g x := by
  unfold seen
  by_cases h : x < B
  · rw [show min (x + 1) B = x + 1 by omega, show min x B = x by omega, show x + 1 - B = 0 by omega, show x - B = 0 by omega, early_neg hp]
  · obtain ⟨j, rfl⟩ : ∃ j, x = B + j := ⟨x - B, by omega⟩
    rw [show min (B + j + 1) B = B by omega, show min (B + j) B = B by omega, show B + j + 1 - B = j + 1 by omega, show B + j - B = j by omega, late_neg hp]
section
variable {P : Program} {w : World} {K : PySem.W.Frag} {mg : Str → Option Value} {base : Heap}
abbrev s_l_told : Stmt := topS 35
abbrev N_l_told : List Str := ["_law_rule_here"]
theorem sc_l_told : FnScope N_l_told ["_law_rule_here"] (defScope s_l_told) := ⟨rfl, rfl, rfl, by decide +kernel, rfl, by decide +kernel, by decide +kernel⟩
theorem ok_l_told (T : Txt mg) (D : Df K mg "_law_told" s_l_told ["_law_rule_here"]) : Cal P w K mg base "_law_told" ["_law_rule_here"] 1 (sp_l_told K) := by
  refine D.cal sc_l_told (fun vs H Q E h => ?_) (fun f cdv A outer s H vs Q E hr h => ?_)
  · obtain ⟨d, T0, p, r, rfl, _⟩ := h
    rfl
  obtain ⟨d, T0, p, r, rfl, R, kk⟩ := h
  obtain ⟨t, hd, ht⟩ := id R
  have ll := len_int T0
  refine ⟨_, (pss_one (ps_ret (pe_ifExp (pt_cmpR op_gt (pe_callB call_len_seq (by rfl) T.n_len (by decide +kernel) (pa_cons (pe_ix ix_tup (pv 0) pe_int (fun _ _ => rfl)) pa_nil)) pe_int (nomark _)) (pe_lst (pa_cons pe_str (pa_cons (pe_callB call_len_seq (by rfl) T.n_len (by decide +kernel) (pa_cons (pe_ix ix_tup (pv 0) pe_int (fun _ _ => rfl)) pa_nil)) pa_nil))) (pv 0)))), ?_⟩
  refine ⟨_, rfl, _, _, _, _, rfl, rfl, SqT.of hd, atI_nat (j := 0) rfl, _, _, rfl, .inr (SqT.of ht), _, _, rfl, rfl, _, rfl, ite3 (fun e => ?_) (fun e => ?_)⟩
  · rw [ll] at e
    refine ⟨_, rfl, _, _, _, _, rfl, rfl, SqT.of hd, atI_nat (j := 0) rfl, _, _, rfl, .inr (SqT.of ht), (by show 2 ≤ sizeLine; decide), fun q nq => ?_⟩
    refine kk _ q (same_upd nq) (.inr ⟨by omega, ?_⟩)
    rw [upd_same, ll]
  · rw [ll] at e
    exact ⟨_, rfl, kk H d (Same.refl H) (.inl ⟨by omega, R⟩)⟩
abbrev s_l_last : Stmt := topS 33
abbrev N_l_last : List Str := ["_law_less", "_law_more", "_law_begin", "_law_period", "_law_found", "_law_nearer", "_law_x", "_law_gap"]
theorem sc_l_last : FnScope N_l_last ["_law_less", "_law_more"] (defScope s_l_last) := ⟨rfl, rfl, rfl, by decide +kernel, rfl, by decide +kernel, by decide +kernel⟩
theorem ok_l_last (T : Txt mg) (D : Df K mg "_law_last" s_l_last ["_law_less", "_law_more"]) (C_l_value : Cal P w K mg base "_law_value" ["_law_rule_here", "_law_x"] 1 (sp_l_value K)) : Cal P w K mg base "_law_last" ["_law_less", "_law_more"] 2 (sp_l_last K) := by
  obtain ⟨f_l_value, fd_l_value, G_l_value, m_l_value, k_l_value, b_l_value⟩ := C_l_value
  refine D.cal sc_l_last (fun vs H Q E h => ?_) (fun f cdv A outer s H vs Q E hr h => ?_)
  · obtain ⟨d1, d2, T1, T2, p1, p2, r1, r2, rfl, _⟩ := h
    rfl
  obtain ⟨d1, d2, T1, T2, p1, p2, r1, r2, rfl, R1, R2, o1, o2, s1, s2, steep, k⟩ := h
  have l1 := o1.p1
  have l2 := o2.p1
  have z1 := o1.p0
  have z2 := o2.p0
  have b1 := s1.rb (by decide)
  have b2 := s2.rb (by decide)
  have bl1 := s1.len
  have bl2 := s2.len
  have c1 := s1.turn
  have c2 := s2.turn
  have ll1 := len_int T1
  have ll2 := len_int T2
  obtain ⟨t1, hd1, ht1⟩ := id R1
  obtain ⟨t2, hd2, ht2⟩ := id R2
  have r10 := o1.r0
  have r20 := o2.r0
  have r1m := s1.r1
  have r2m := s2.r1
  have pp : (p1 : Int) * (p2 : Int) ≤ 1600 := by
    have h2 : p1 * p2 ≤ 40 * 40 := Nat.mul_le_mul c1 c2
    have h3 : ((p1 * p2 : Nat) : Int) ≤ 1600 := by omega
    rw [Int.natCast_mul] at h3
    exact h3
  have t0 : 0 < p1 * p2 := Nat.mul_pos z1 z2
  have et : ((p1 * p2 : Nat) : Int) = (p1 : Int) * (p2 : Int) := Int.natCast_mul ..
  obtain ⟨B, hB⟩ : ∃ B : Nat, B = max T1.length T2.length := ⟨_, rfl⟩
  have eB : (B : Int) = (if (((T2.map V.int).length : Nat) : Int) > (((T1.map V.int).length : Nat) : Int) then (((T2.map V.int).length : Nat) : Int) else (((T1.map V.int).length : Nat) : Int)) := by
    rw [hB, ll1, ll2]
    split <;> omega
  obtain ⟨g, hg⟩ : ∃ g : Int, g = r2 * (p1 : Int) - r1 * (p2 : Int) := ⟨_, rfl⟩
  have gp : 0 < g := by omega
  have gtop : r2 * (p1 : Int) ≤ 10000000000000 * 40 := Int.mul_le_mul r2m (by omega) (by omega) (by decide)
  have gbot : 0 ≤ r1 * (p2 : Int) := Int.mul_nonneg r10 (by omega)
  have dv : ∀ x : Int, CDivW x g := fun x => wide_div (b := 60) gp (by omega) (by decide) (by decide)
  have turn0 : ∀ x, B ≤ x → vl T1 p1 r1 (x + p1 * p2) - vl T2 p2 r2 (x + p1 * p2) = vl T1 p1 r1 x - vl T2 p2 r2 x - g := fun x hx => by
    have := gp_turn o1.w o2.w (B := B) (a := p2) (b := p1) (by omega) (by omega) (by rw [Nat.mul_comm]) hx
    unfold Sm.gp at this
    rw [Nat.mul_comm p2 p1] at this
    rw [this, hg, Int.mul_comm r1, Int.mul_comm r2]
    omega
  refine ⟨_, (pss_cons (ps_par3 (i := 2) (j := 3) (l := 4) (by rfl) sc_l_last.nd rfl rfl rfl (by decide) (by decide) (by decide) rfl rfl rfl (pa_cons (pe_callB (call_max2 rfl) (by rfl) T.n_max (by decide +kernel) (pa_cons (pe_callB call_len_seq (by rfl) T.n_len (by decide +kernel) (pa_cons (pe_ix ix_tup (pv 0) pe_int (fun _ _ => rfl)) pa_nil)) (pa_cons (pe_callB call_len_seq (by rfl) T.n_len (by decide +kernel) (pa_cons (pe_ix ix_tup (pv 1) pe_int (fun _ _ => rfl)) pa_nil)) pa_nil))) (pa_cons (pe_op op_mul (pe_ix ix_tup (pv 0) pe_int (fun _ _ => rfl)) (pe_ix ix_tup (pv 1) pe_int (fun _ _ => rfl))) (pa_cons (pe_un un_neg pe_int) pa_nil))) (by rfl))
    (pss_cut (ps_set (i := 5) sc_l_last.nd rfl (Or.inl rfl) (pe_op op_sub (pe_op op_mul (pe_ix ix_tup (pv 1) pe_int (fun _ _ => rfl)) (pe_ix ix_tup (pv 0) pe_int (fun _ _ => rfl))) (pe_op op_mul (pe_ix ix_tup (pv 0) pe_int (fun _ _ => rfl)) (pe_ix ix_tup (pv 1) pe_int (fun _ _ => rfl)))))
    (pss_cons (ps_for PassesOwn.never rfl (pi_range1 (by rfl) T.n_range (pa_cons (pe_op op_add (pv 2) (pv 3)) pa_nil)) (pg_name (i := 6) sc_l_last.nd rfl (Or.inl rfl))
      (pss_cons (ps_set (i := 7) sc_l_last.nd rfl (Or.inl rfl) (pe_op op_sub (pe_call G_l_value (hr.mono (by decide)) (by rfl) m_l_value k_l_value b_l_value .nil pass0 (pa_cons (pv 0) (pa_cons (pv 6) pa_nil))) (pe_call G_l_value (hr.mono (by decide)) (by rfl) m_l_value k_l_value b_l_value .nil pass0 (pa_cons (pv 1) (pa_cons (pv 6) pa_nil)))))
    (pss_one (ps_if (pt_cmpR op_gt (pv 7) pe_int (nomark _)) (pss_one (ps_set (i := 4) sc_l_last.nd rfl (Or.inl rfl) (pe_callB (call_max2 rfl) (by rfl) T.n_max (by decide +kernel) (pa_cons (pv 4) (pa_cons (pe_ifExp (pt_cmpR op_lt (pv 6) (pv 2) (nomark _)) (pv 6) (pe_op op_add (pv 6) (pe_op op_mul (pe_op op_fdivW (pe_op op_sub (pv 7) pe_int) (pv 5)) (pv 3)))) pa_nil))))) pss_nil))))
    (pss_one (ps_ret (pv 4)))))), ?_⟩
  refine ⟨_, rfl, _, _, _, _, rfl, rfl, SqT.of hd1, atI_nat (j := 0) rfl, _, _, rfl, .inr (SqT.of ht1), _, rfl, _, _, _, _, rfl, rfl, SqT.of hd2, atI_nat (j := 0) rfl, _, _, rfl, .inr (SqT.of ht2), _, _, rfl, ?_⟩
  refine ⟨_, rfl, _, _, _, _, rfl, rfl, SqT.of hd1, atI_nat (j := 1) rfl, _, rfl, _, _, _, _, rfl, rfl, SqT.of hd2, atI_nat (j := 1) rfl, _, _, rfl, rfl, .inl ⟨by omega, by omega⟩, _, rfl, _, _, _, rfl, ?_⟩
  refine ⟨fun σ H' => H' = H ∧ σ = [some (.ref d1), some (.ref d2), some (.int (B : Int)), some (.int ((p1 : Int) * (p2 : Int))), some (.int (-1)), some (.int g), none, none], ?_, ?_⟩
  · refine ⟨_, rfl, _, _, _, _, rfl, rfl, SqT.of hd2, atI_nat (j := 2) rfl, _, rfl, _, _, _, _, rfl, rfl, SqT.of hd1, atI_nat (j := 1) rfl, _, _, rfl, rfl, .inl ⟨by omega, by omega⟩, ?_⟩
    refine ⟨_, rfl, _, _, _, _, rfl, rfl, SqT.of hd1, atI_nat (j := 2) rfl, _, rfl, _, _, _, _, rfl, rfl, SqT.of hd2, atI_nat (j := 1) rfl, _, _, rfl, rfl, .inl ⟨by omega, by omega⟩, _, _, rfl, rfl, rfl, ?_⟩
    rw [eB, hg]
    rfl
  rintro σ H' ⟨rfl, rfl⟩
  obtain ⟨D, hD⟩ : ∃ D : Nat → Int, D = fun x => vl T1 p1 r1 x - vl T2 p2 r2 x := ⟨_, rfl⟩
  have eD : ∀ x, D x = vl T1 p1 r1 x - vl T2 p2 r2 x := fun x => by rw [hD]
  rw [← hD] at k
  have turnD : ∀ x, B ≤ x → D (x + p1 * p2) = D x - g := fun x hx => by rw [eD, eD]; exact turn0 x hx
  have cnt : ((B : Int) + (p1 : Int) * (p2 : Int)).toNat = B + p1 * p2 := by rw [← et]; omega
  refine ⟨_, rfl, _, rfl, _, _, rfl, rfl, _, rfl, by omega, by omega, ?_⟩
  rw [cnt]
  refine for_range (lo := 0) (n := B + p1 * p2) (fun j σ H2 => ∃ (m : Int) (v6 v7 : Option V), H2 = H' ∧ σ = [some (.ref d1), some (.ref d2), some (.int (B : Int)), some (.int ((p1 : Int) * (p2 : Int))), some (.int m), some (.int g), v6, v7] ∧ Top (seen D B (p1 * p2) g j) m)
    ⟨-1, none, none, rfl, rfl, .inl ⟨?_, rfl⟩⟩ ?_ ?_
  · unfold seen
    rw [show min 0 B = 0 by omega, show 0 - B = 0 by omega]
    rfl
  · rintro j σ H2 hj ⟨m, v6, v7, rfl, rfl, top⟩
    rw [Int.zero_add]
    refine ⟨_, rfl, _, rfl, d1, T1, p1, r1, j, rfl, R1, o1, b1, _, rfl, _, rfl, d2, T2, p2, r2, j, rfl, R2, o2, b2, _, _, rfl, rfl, ?_⟩
    refine ⟨_, rfl, _, _, rfl, rfl, _, rfl, ite3 (fun pos => ?_) (fun npos => ?_)⟩
    · have pos : 0 < D j := by rw [eD]; exact pos
      have pv := Int.ediv_nonneg (a := D j - 1) (b := g) (by omega) (by omega)
      refine ⟨_, rfl, ?_⟩
      by_cases h : j < B
      · refine ⟨_, rfl, _, rfl, _, _, rfl, rfl, _, rfl, iteP (by omega) ?_⟩
        refine ⟨_, rfl, _, _, rfl, ?_⟩
        refine ⟨_, _, _, rfl, rfl, ?_⟩
        rw [seen_early h pos]
        exact top.more (by omega)
      · refine ⟨_, rfl, _, rfl, _, _, rfl, rfl, _, rfl, iteN (by omega) ?_⟩
        refine ⟨_, rfl, _, rfl, _, _, rfl, rfl, _, rfl, _, _, rfl, rfl, dv _, _, rfl, _, _, rfl, rfl, .inr ⟨by omega, by omega⟩, _, _, rfl, rfl, _, _, rfl, ?_⟩
        refine ⟨_, _, _, rfl, rfl, ?_⟩
        rw [seen_late h pos]
        rw [← eD, et, Int.mul_comm ((p1 : Int) * (p2 : Int))]
        refine top.more ?_
        have : 0 ≤ (D j - 1) / g * ((p1 : Int) * (p2 : Int)) := Int.mul_nonneg pv (by omega)
        omega
    · refine ⟨m, _, _, rfl, rfl, ?_⟩
      rw [seen_not (by rw [eD]; exact npos)]
      exact top
  · rintro σ H2 ⟨m, v6, v7, rfl, rfl, top⟩
    have le := last_is (d := D) (B := B) (t := p1 * p2) (g := g) t0 gp turnD (ns := seen D B (p1 * p2) g (B + p1 * p2)) (by
      unfold seen
      rw [show min (B + p1 * p2) B = B by omega, show B + p1 * p2 - B = p1 * p2 by omega])
    refine ⟨_, rfl, k m ?_⟩
    rcases top with ⟨e, rfl⟩ | ⟨e1, e2⟩
    · exact le.1 e
    · exact le.2 m e1 e2
end
end Sm

set_option Elab.async false
set_option linter.all false
set_option maxRecDepth 100000
set_option maxHeartbeats 16000000
namespace Sm
open PySem PySem.Spec PyProof.Rows L2
open C8 (pss_cut tCut)
/-- what the law expects at q: the shortest rule of the greater values, or word of its length -/
def DueAt (H : Hp) (q : Addr) (T1 : List Int) (p1 : Nat) (r1 : Int) (T2 : List Int) (p2 : Nat) (r2 : Int) : Prop :=
  (∃ (T : List Int) (p : Nat) (r : Int), Short T p r ∧ (∀ x, vl T p r x = max (vl T1 p1 r1 x) (vl T2 p2 r2 x)) ∧ RB T p r ∧ T.length ≤ 5000 ∧ RuleAt H q T p r) ∨
  ∃ n : Nat, 5000 < n ∧ (∀ T p r, Short T p r → (∀ x, vl T p r x = max (vl T1 p1 r1 x) (vl T2 p2 r2 x)) → T.length = n) ∧ H q = some (.lst [.str "long", .int (n : Int)])
theorem ToldAt.due {H : Hp} {q : Addr} {T T1 T2 : List Int} {p p1 p2 : Nat} {r r1 r2 : Int} (h : ToldAt H q T p r) (s : Short T p r) (b : RB T p r) (hv : ∀ x, vl T p r x = max (vl T1 p1 r1 x) (vl T2 p2 r2 x)) : DueAt H q T1 p1 r1 T2 p2 r2 := by
  rcases h with ⟨l, R⟩ | ⟨l, e⟩
  · exact .inl ⟨T, p, r, s, hv, b, l, R⟩
  · refine .inr ⟨T.length, l, fun T' p' r' s' hv' => ?_, e⟩
    rw [(short_one s' s fun x => by rw [hv, hv']).1]
def sp_l_best (_ : PySem.W.Frag) : Sp := fun vs H Q _ => ∃ (d1 d2 : Addr) (T1 T2 : List Int) (p1 p2 : Nat) (r1 r2 : Int), vs = [.ref d1, .ref d2] ∧ RuleAt H d1 T1 p1 r1 ∧ RuleAt H d2 T2 p2 r2 ∧ Short T1 p1 r1 ∧ Short T2 p2 r2 ∧ RS 10000000000000 T1 p1 r1 ∧ RS 10000000000000 T2 p2 r2 ∧
  ∀ H' q, Same H H' → DueAt H' q T1 p1 r1 T2 p2 r2 → Q (.ref q) H'
theorem over_tab20 {T1 T2 : List Int} {p1 p2 B : Nat} {r1 r2 : Int} (o1 : RuleOk T1 p1 r1) (o2 : RuleOk T2 p2 r2) (s1 : RS 10000000000000 T1 p1 r1) (s2 : RS 10000000000000 T2 p2 r2) (hB : T1.length - p1 ≤ B) (hb : B + p1 ≤ 20000) (hL : ∀ x, B ≤ x → vl T2 p2 r2 x ≤ vl T1 p1 r1 x) :
    RuleOk (gtab T1 p1 r1 T2 p2 r2 (B + p1)) p1 r1 ∧ RB (gtab T1 p1 r1 T2 p2 r2 (B + p1)) p1 r1 ∧ ∀ x, vl (gtab T1 p1 r1 T2 p2 r2 (B + p1)) p1 r1 x = max (vl T1 p1 r1 x) (vl T2 p2 r2 x) := by
  have turn := over_turn o1 hB hL
  have r1' := s1.r1
  refine ⟨tab_ok (f := fun x => max (vl T1 p1 r1 x) (vl T2 p2 r2 x)) o1.p0 o1.r0 turn (fun x => ?_) (fun x => ?_), ⟨?_, by omega, fun i hi => ?_⟩, tab_vl o1.p0 turn⟩
  · have := o1.pos x
    omega
  · have := o1.up x
    have := o2.up x
    omega
  · unfold gtab
    rw [List.length_map, List.length_range]
    omega
  · unfold gtab at hi ⊢
    rw [tab_len] at hi
    rw [tab_getD hi]
    have h1 := RS.vl o1 s1 (by decide) i
    have h2 := RS.vl o2 s2 (by decide) i
    have h3 : (10000000000000 : Int) * ((i : Int) + 1) ≤ 10000000000000 * 20001 := Int.mul_le_mul_of_nonneg_left (by omega) (by decide)
    omega
theorem gtab_swap {T1 T2 : List Int} {p1 p2 n : Nat} {r1 r2 : Int} : gtab T1 p1 r1 T2 p2 r2 n = gtab T2 p2 r2 T1 p1 r1 n := by
  unfold gtab
  exact List.map_congr_left fun x _ => Int.max_comm _ _
/-- the steeper one, over the other behind L -/
theorem over_due {T1 T2 : List Int} {p1 p2 : Nat} {r1 r2 L : Int} (s1 : Short T1 p1 r1) (s2 : Short T2 p2 r2) (b1 : RS 10000000000000 T1 p1 r1) (b2 : RS 10000000000000 T2 p2 r2) (hL : IsLast (fun x => vl T2 p2 r2 x - vl T1 p1 r1 x) L) {many : Nat} (em : (many : Int) = max (L + 1 + (p1 : Int)) (T1.length : Int)) :
    (20000 < many → ∀ T p r, Short T p r → (∀ x, vl T p r x = max (vl T1 p1 r1 x) (vl T2 p2 r2 x)) → T.length = many) ∧
    (many ≤ 20000 → RuleOk (gtab T1 p1 r1 T2 p2 r2 many) p1 r1 ∧ RB (gtab T1 p1 r1 T2 p2 r2 many) p1 r1 ∧ ∀ x, vl (gtab T1 p1 r1 T2 p2 r2 many) p1 r1 x = max (vl T1 p1 r1 x) (vl T2 p2 r2 x)) := by
  have o1 := s1.ok
  have o2 := s2.ok
  have l1 := b1.len
  have c1 := b1.turn
  have q1 := o1.p1
  obtain ⟨h1, h2⟩ := hL
  have behind : ∀ x : Nat, L < (x : Int) → vl T2 p2 r2 x ≤ vl T1 p1 r1 x := fun x hx => by
    have := h2 x
    by_cases q : 0 < vl T2 p2 r2 x - vl T1 p1 r1 x
    · have := this q
      omega
    · omega
  refine ⟨fun big T p r s hv => ?_, fun small => ?_⟩
  · rcases h1 with rfl | ⟨n, rfl, hn⟩
    · omega
    · have hn : 0 < vl T2 p2 r2 n - vl T1 p1 r1 n := hn
      have := over_len s s1 hv (L := n) (by omega) (by omega) fun x hx => behind x (by omega)
      omega
  · obtain ⟨B, rfl⟩ : ∃ B, many = B + p1 := ⟨many - p1, by omega⟩
    exact over_tab20 o1 o2 b1 b2 (by omega) small fun x hx => behind x (by omega)
section
variable {P : Program} {w : World} {K : PySem.W.Frag} {mg : Str → Option Value} {base : Heap}
abbrev s_l_best : Stmt := topS 34
abbrev N_l_best : List Str := ["_law_one_here", "_law_other", "_law_many", "_law_table", "_law_less", "_law_more", "_law_last_here", "_law_x"]
theorem sc_l_best : FnScope N_l_best ["_law_one_here", "_law_other"] (defScope s_l_best) := ⟨rfl, rfl, rfl, by decide +kernel, rfl, by decide +kernel, by decide +kernel⟩
theorem ok_l_best (T : Txt mg) (D : Df K mg "_law_best" s_l_best ["_law_one_here", "_law_other"]) (C_l_told : Cal P w K mg base "_law_told" ["_law_rule_here"] 1 (sp_l_told K)) (C_l_least : Cal P w K mg base "_law_least" ["_law_rule_here"] 3 (sp_l_least K)) (C_l_value : Cal P w K mg base "_law_value" ["_law_rule_here", "_law_x"] 1 (sp_l_value K)) (C_l_last : Cal P w K mg base "_law_last" ["_law_less", "_law_more"] 2 (sp_l_last K)) : Cal P w K mg base "_law_best" ["_law_one_here", "_law_other"] 4 (sp_l_best K) := by
  obtain ⟨f_l_told, fd_l_told, G_l_told, m_l_told, k_l_told, b_l_told⟩ := C_l_told
  obtain ⟨f_l_least, fd_l_least, G_l_least, m_l_least, k_l_least, b_l_least⟩ := C_l_least
  obtain ⟨f_l_value, fd_l_value, G_l_value, m_l_value, k_l_value, b_l_value⟩ := C_l_value
  obtain ⟨f_l_last, fd_l_last, G_l_last, m_l_last, k_l_last, b_l_last⟩ := C_l_last
  refine D.cal sc_l_best (fun vs H Q E h => ?_) (fun f cdv A outer s H vs Q E hr h => ?_)
  · obtain ⟨d1, d2, T1, T2, p1, p2, r1, r2, rfl, _⟩ := h
    rfl
  obtain ⟨d1, d2, T1, T2, p1, p2, r1, r2, rfl, R1, R2, sh1, sh2, b1, b2, kk⟩ := h
  have o1 := sh1.ok
  have o2 := sh2.ok
  have l1 := o1.p1
  have l2 := o2.p1
  have z1 := o1.p0
  have z2 := o2.p0
  have bl1 := b1.len
  have bl2 := b2.len
  have c1 := b1.turn
  have c2 := b2.turn
  have rb1 := b1.rb (by decide)
  have rb2 := b2.rb (by decide)
  have ll1 := len_int T1
  have ll2 := len_int T2
  obtain ⟨t1, hd1, ht1⟩ := id R1
  obtain ⟨t2, hd2, ht2⟩ := id R2
  have pp : p1 * p2 ≤ 1600 := Nat.le_trans (Nat.mul_le_mul c1 c2) (by decide)
  have et : ((p1 * p2 : Nat) : Int) = (p1 : Int) * (p2 : Int) := Int.natCast_mul ..
  refine ⟨_, (pss_cut (ps_if (pt_cmpR op_eq (pe_op op_mul (pe_ix ix_tup (pv 0) pe_int (fun _ _ => rfl)) (pe_ix ix_tup (pv 1) pe_int (fun _ _ => rfl))) (pe_op op_mul (pe_ix ix_tup (pv 1) pe_int (fun _ _ => rfl)) (pe_ix ix_tup (pv 0) pe_int (fun _ _ => rfl))) (nomark _)) (pss_cut (ps_set (i := 2) sc_l_best.nd rfl (Or.inl rfl) (pe_op op_add (pe_callB (call_max2 rfl) (by rfl) T.n_max (by decide +kernel) (pa_cons (pe_callB call_len_seq (by rfl) T.n_len (by decide +kernel) (pa_cons (pe_ix ix_tup (pv 0) pe_int (fun _ _ => rfl)) pa_nil)) (pa_cons (pe_callB call_len_seq (by rfl) T.n_len (by decide +kernel) (pa_cons (pe_ix ix_tup (pv 1) pe_int (fun _ _ => rfl)) pa_nil)) pa_nil))) (pe_op op_mul (pe_ix ix_tup (pv 0) pe_int (fun _ _ => rfl)) (pe_ix ix_tup (pv 1) pe_int (fun _ _ => rfl)))))
    (pss_cut (ps_set (i := 3) sc_l_best.nd rfl (Or.inl rfl) (pe_callTy call_tuple_of (by rfl) T.n_tuple (by decide +kernel) (pa_cons (pe_lc (own := [("_law_x", 7)]) (g := gName 7) (tt := tYes) rfl sc_l_best.nd (pi_range1 (by rfl) T.n_range (pa_cons (pv 2) pa_nil)) (blkOk_by (own := [("_law_x", 7)]) (N := N_l_best) (sc := defScope s_l_best) (by decide +kernel)) (fun _ _ _ _ _ => pg_name (i := 7) sc_l_best.nd rfl (Or.inl rfl)) (fun _ _ _ _ _ => pts_nil) (fun _ _ _ _ _ => (pe_callB (call_max2 rfl) (by rfl) T.n_max (by decide +kernel) (pa_cons (pe_call G_l_value (hr.mono (by decide)) (by rfl) m_l_value k_l_value b_l_value .nil pass0 (pa_cons (pv 0) (pa_cons (pv 7) pa_nil))) (pa_cons (pe_call G_l_value (hr.mono (by decide)) (by rfl) m_l_value k_l_value b_l_value .nil pass0 (pa_cons (pv 1) (pa_cons (pv 7) pa_nil))) pa_nil))))) pa_nil)))
    (pss_one (ps_ret (pe_call G_l_told (hr.mono (by decide)) (by rfl) m_l_told k_l_told b_l_told .nil pass0 (pa_cons (pe_call G_l_least (hr.mono (by decide)) (by rfl) m_l_least k_l_least b_l_least .nil pass0 (pa_cons (pe_tup (pa_cons (pv 3) (pa_cons (pe_op op_mul (pe_ix ix_tup (pv 0) pe_int (fun _ _ => rfl)) (pe_ix ix_tup (pv 1) pe_int (fun _ _ => rfl))) (pa_cons (pe_op op_mul (pe_ix ix_tup (pv 0) pe_int (fun _ _ => rfl)) (pe_ix ix_tup (pv 1) pe_int (fun _ _ => rfl))) pa_nil)))) pa_nil)) pa_nil)))))) pss_nil)
    (pss_cons (ps_par (i := 4) (j := 5) (by rfl) sc_l_best.nd rfl rfl (by decide) rfl rfl (pa_cons (pv 1) (pa_cons (pv 0) pa_nil)) (by rfl))
    (pss_cut (ps_if (pt_cmpR op_lt (pe_op op_mul (pe_ix ix_tup (pv 0) pe_int (fun _ _ => rfl)) (pe_ix ix_tup (pv 1) pe_int (fun _ _ => rfl))) (pe_op op_mul (pe_ix ix_tup (pv 1) pe_int (fun _ _ => rfl)) (pe_ix ix_tup (pv 0) pe_int (fun _ _ => rfl))) (nomark _)) (pss_one (ps_par (i := 4) (j := 5) (by rfl) sc_l_best.nd rfl rfl (by decide) rfl rfl (pa_cons (pv 0) (pa_cons (pv 1) pa_nil)) (by rfl))) pss_nil)
    (pss_cut (ps_set (i := 6) sc_l_best.nd rfl (Or.inl rfl) (pe_call G_l_last (hr.mono (by decide)) (by rfl) m_l_last k_l_last b_l_last .nil pass0 (pa_cons (pv 4) (pa_cons (pv 5) pa_nil))))
    (pss_cut (ps_set (i := 2) sc_l_best.nd rfl (Or.inl rfl) (pe_callB (call_max2 rfl) (by rfl) T.n_max (by decide +kernel) (pa_cons (pe_op op_add (pe_op op_add (pv 6) pe_int) (pe_ix ix_tup (pv 5) pe_int (fun _ _ => rfl))) (pa_cons (pe_callB call_len_seq (by rfl) T.n_len (by decide +kernel) (pa_cons (pe_ix ix_tup (pv 5) pe_int (fun _ _ => rfl)) pa_nil)) pa_nil))))
    (pss_cons (ps_if (pt_cmpR op_gt (pv 2) pe_int (nomark _)) (pss_one (ps_ret (pe_lst (pa_cons pe_str (pa_cons (pv 2) pa_nil))))) pss_nil)
    (pss_cut (ps_set (i := 3) sc_l_best.nd rfl (Or.inl rfl) (pe_callTy call_tuple_of (by rfl) T.n_tuple (by decide +kernel) (pa_cons (pe_lc (own := [("_law_x", 7)]) (g := gName 7) (tt := tYes) rfl sc_l_best.nd (pi_range1 (by rfl) T.n_range (pa_cons (pv 2) pa_nil)) (blkOk_by (own := [("_law_x", 7)]) (N := N_l_best) (sc := defScope s_l_best) (by decide +kernel)) (fun _ _ _ _ _ => pg_name (i := 7) sc_l_best.nd rfl (Or.inl rfl)) (fun _ _ _ _ _ => pts_nil) (fun _ _ _ _ _ => (pe_callB (call_max2 rfl) (by rfl) T.n_max (by decide +kernel) (pa_cons (pe_call G_l_value (hr.mono (by decide)) (by rfl) m_l_value k_l_value b_l_value .nil pass0 (pa_cons (pv 0) (pa_cons (pv 7) pa_nil))) (pa_cons (pe_call G_l_value (hr.mono (by decide)) (by rfl) m_l_value k_l_value b_l_value .nil pass0 (pa_cons (pv 1) (pa_cons (pv 7) pa_nil))) pa_nil))))) pa_nil)))
    (pss_one (ps_ret (pe_call G_l_told (hr.mono (by decide)) (by rfl) m_l_told k_l_told b_l_told .nil pass0 (pa_cons (pe_call G_l_least (hr.mono (by decide)) (by rfl) m_l_least k_l_least b_l_least .nil pass0 (pa_cons (pe_tup (pa_cons (pv 3) (pa_cons (pe_ix ix_tup (pv 5) pe_int (fun _ _ => rfl)) (pa_cons (pe_ix ix_tup (pv 5) pe_int (fun _ _ => rfl)) pa_nil)))) pa_nil)) pa_nil))))))))))), ?_⟩
  refine ⟨fun σ H' => H' = H ∧ r1 * (p2 : Int) ≠ r2 * (p1 : Int) ∧ σ = [some (.ref d1), some (.ref d2), none, none, none, none, none, none], ?_, ?_⟩
  · refine ⟨_, rfl, _, _, _, _, rfl, rfl, SqT.of hd1, atI_nat (j := 2) rfl, _, rfl, _, _, _, _, rfl, rfl, SqT.of hd2, atI_nat (j := 1) rfl, _, _, rfl, rfl, .inr ⟨by omega, by omega⟩, ?_⟩
    refine ⟨_, rfl, _, _, _, _, rfl, rfl, SqT.of hd2, atI_nat (j := 2) rfl, _, rfl, _, _, _, _, rfl, rfl, SqT.of hd1, atI_nat (j := 1) rfl, _, _, rfl, rfl, .inr ⟨by omega, by omega⟩, rfl, _, rfl, ite3 (fun alike => ?_) (fun unlike => ⟨rfl, fun e => unlike (congrArg V.int e), rfl⟩)⟩
    have alike := V.int.inj alike
    obtain ⟨B, hB⟩ : ∃ B : Nat, B = max T1.length T2.length := ⟨_, rfl⟩
    have eN : ((B + p1 * p2 : Nat) : Int) = (if (((T2.map V.int).length : Nat) : Int) > (((T1.map V.int).length : Nat) : Int) then (((T2.map V.int).length : Nat) : Int) else (((T1.map V.int).length : Nat) : Int)) + (p1 : Int) * (p2 : Int) := by
      rw [Int.natCast_add, et, hB, ll1, ll2]
      split <;> omega
    obtain ⟨ok, rb, hv⟩ := alike_tab o1 o2 b1 b2 (B := B) (t := p1 * p2) (ka := p2) (kb := p1) (by omega) (by omega) (by omega) (Nat.mul_pos z1 z2) pp (Nat.mul_comm ..) rfl (by omega) alike
    refine ⟨fun σ H' => H' = H ∧ σ = [some (.ref d1), some (.ref d2), some (.int ((B + p1 * p2 : Nat) : Int)), none, none, none, none, none], ?_, ?_⟩
    · refine ⟨_, rfl, _, _, _, _, rfl, rfl, SqT.of hd1, atI_nat (j := 0) rfl, _, _, rfl, .inr (SqT.of ht1), _, rfl, _, _, _, _, rfl, rfl, SqT.of hd2, atI_nat (j := 0) rfl, _, _, rfl, .inr (SqT.of ht2), _, _, rfl, ?_⟩
      refine ⟨_, rfl, _, _, _, _, rfl, rfl, SqT.of hd1, atI_nat (j := 1) rfl, _, rfl, _, _, _, _, rfl, rfl, SqT.of hd2, atI_nat (j := 1) rfl, _, _, rfl, rfl, .inl ⟨by omega, by omega⟩, _, _, rfl, rfl, rfl, ?_⟩
      rw [eN]
      rfl
    rintro σ H' ⟨rfl, rfl⟩
    refine ⟨fun σ H2 => ∃ tb : Addr, Same H' H2 ∧ H2 tb = some (.tup ((gtab T1 p1 r1 T2 p2 r2 (B + p1 * p2)).map V.int)) ∧ σ = [some (.ref d1), some (.ref d2), some (.int ((B + p1 * p2 : Nat) : Int)), some (.ref tb), none, none, none, none], ?_, ?_⟩
    · refine ⟨_, rfl, _, rfl, (by omega), (by omega), fun U nU => ?_⟩
      have sU := same_upd (o := .lst []) nU
      rw [Int.toNat_natCast]
      refine lc_range (lo := 0) (n := B + p1 * p2) (fun j H2 => Same H' H2 ∧ H2 U = some (.lst ((gtab T1 p1 r1 T2 p2 r2 j).map V.int))) ⟨sU, upd_same⟩ ?_ ?_
      · rintro j H2 hj ⟨s2, hU⟩
        refine ⟨rfl, ?_⟩
        unfold tYes
        refine iteT ?_
        rw [Int.zero_add]
        refine ⟨_, rfl, _, rfl, d1, T1, p1, r1, j, rfl, R1.same s2, o1, rb1, _, rfl, _, rfl, d2, T2, p2, r2, j, rfl, R2.same s2, o2, rb2, _, _, rfl, _, hU, ?_, fun b o e' => ?_, ?_⟩
        · unfold gtab
          rw [List.length_map, List.length_map, List.length_range]
          exact Nat.lt_of_le_of_lt (show j ≤ 20000 by omega) (by decide)
        · rw [upd_ne (ne_of_none e' nU)]
          exact s2 _ _ e'
        · rw [upd_same]
          unfold gtab
          rw [List.range_succ, List.map_append, List.map_append, max_if]
          rfl
      rintro H2 ⟨s2, hU⟩
      refine ⟨_, _, rfl, .inl ⟨SqL.of hU, fun tb ntb => ?_⟩⟩
      exact ⟨tb, s2.trans (same_upd ntb), upd_same, rfl⟩
    rintro σ H2 ⟨tb, s2, htb, rfl⟩
    refine ⟨_, rfl, _, rfl, _, _, _, _, rfl, rfl, SqT.of (s2 _ _ hd1), atI_nat (j := 1) rfl, _, rfl, _, _, _, _, rfl, rfl, SqT.of (s2 _ _ hd2), atI_nat (j := 1) rfl, _, _, rfl, rfl, .inl ⟨by omega, by omega⟩, ?_⟩
    refine ⟨_, rfl, _, _, _, _, rfl, rfl, SqT.of (s2 _ _ hd1), atI_nat (j := 2) rfl, _, rfl, _, _, _, _, rfl, rfl, SqT.of (s2 _ _ hd2), atI_nat (j := 1) rfl, _, _, rfl, rfl, .inr ⟨by omega, by omega⟩, (by show 3 ≤ sizeLine; decide), fun e ne => ?_⟩
    have se := same_upd (o := .tup [.ref tb, .int ((p1 : Int) * (p2 : Int)), .int (r1 * (p2 : Int))]) ne
    refine ⟨e, _, _, _, rfl, ⟨tb, by rw [et]; exact upd_same, se _ _ htb⟩, ok, rb, fun H3 d' T' p' r' s3 R cut sh hv' => ?_⟩
    refine ⟨d', T', p', r', rfl, R, fun H4 q s4 told => ?_⟩
    exact kk H4 q (s2.trans (se.trans (s3.trans s4))) (told.due sh (cut.rb rb) fun x => by rw [hv', hv])
  rintro σ H' ⟨rfl, ne, rfl⟩
  refine ⟨_, rfl, _, rfl, _, _, rfl, ?_⟩
  refine ⟨fun σ H2 => ∃ (dl dm : Addr) (Tl Tm : List Int) (pl pm : Nat) (rl rm : Int), σ = [some (.ref d1), some (.ref d2), none, none, some (.ref dl), some (.ref dm), none, none] ∧ H2 = H' ∧ RuleAt H' dl Tl pl rl ∧ RuleAt H' dm Tm pm rm ∧ Short Tl pl rl ∧ Short Tm pm rm ∧ RS 10000000000000 Tl pl rl ∧ RS 10000000000000 Tm pm rm ∧ rl * (pm : Int) < rm * (pl : Int) ∧ (∀ x, max (vl Tm pm rm x) (vl Tl pl rl x) = max (vl T1 p1 r1 x) (vl T2 p2 r2 x)) ∧ ∀ n, gtab T1 p1 r1 T2 p2 r2 n = gtab Tm pm rm Tl pl rl n, ?_, ?_⟩
  · refine ⟨_, rfl, _, _, _, _, rfl, rfl, SqT.of hd1, atI_nat (j := 2) rfl, _, rfl, _, _, _, _, rfl, rfl, SqT.of hd2, atI_nat (j := 1) rfl, _, _, rfl, rfl, .inr ⟨by omega, by omega⟩, ?_⟩
    refine ⟨_, rfl, _, _, _, _, rfl, rfl, SqT.of hd2, atI_nat (j := 2) rfl, _, rfl, _, _, _, _, rfl, rfl, SqT.of hd1, atI_nat (j := 1) rfl, _, _, rfl, rfl, .inr ⟨by omega, by omega⟩, _, _, rfl, rfl, _, rfl, ite3 (fun lt => ?_) (fun ge => ?_)⟩
    · refine ⟨_, rfl, _, rfl, _, _, rfl, ?_⟩
      exact ⟨d1, d2, T1, T2, p1, p2, r1, r2, rfl, rfl, R1, R2, sh1, sh2, b1, b2, lt, fun x => Int.max_comm _ _, fun n => gtab_swap⟩
    · exact ⟨d2, d1, T2, T1, p2, p1, r2, r1, rfl, rfl, R2, R1, sh2, sh1, b2, b1, by omega, fun x => rfl, fun n => rfl⟩
  rintro σ H2 ⟨dl, dm, Tl, Tm, pl, pm, rl, rm, rfl, rfl, Rl, Rm, shl, shm, bl, bm, steep, hmax, hgt⟩
  refine ⟨fun σ H3 => ∃ L : Int, H3 = H2 ∧ IsLast (fun x => vl Tl pl rl x - vl Tm pm rm x) L ∧ σ = [some (.ref d1), some (.ref d2), none, none, some (.ref dl), some (.ref dm), some (.int L), none], ?_, ?_⟩
  · exact ⟨_, rfl, _, rfl, dl, dm, Tl, Tm, pl, pm, rl, rm, rfl, Rl, Rm, shl.ok, shm.ok, bl, bm, steep, fun L hL => ⟨L, rfl, hL, rfl⟩⟩
  rintro σ H3 ⟨L, rfl, hL, rfl⟩
  obtain ⟨tm, hdm, htm⟩ := id Rm
  have lm := len_int Tm
  have L0 : -1 ≤ L := by
    rcases hL.1 with rfl | ⟨n, rfl, _⟩ <;> omega
  obtain ⟨N, hN⟩ : ∃ N : Nat, (N : Int) = max (L + 1 + (pm : Int)) (Tm.length : Int) := ⟨(max (L + 1 + (pm : Int)) (Tm.length : Int)).toNat, by omega⟩
  obtain ⟨due1, due2⟩ := over_due shm shl bm bl hL hN
  have eN : (N : Int) = (if (((Tm.map V.int).length : Nat) : Int) > L + 1 + (pm : Int) then (((Tm.map V.int).length : Nat) : Int) else L + 1 + (pm : Int)) := by
    rw [hN, lm]
    split <;> omega
  refine ⟨fun σ H4 => H4 = H3 ∧ σ = [some (.ref d1), some (.ref d2), some (.int (N : Int)), none, some (.ref dl), some (.ref dm), some (.int L), none], ?_, ?_⟩
  · refine ⟨_, rfl, _, _, rfl, rfl, _, rfl, _, _, _, _, rfl, rfl, SqT.of hdm, atI_nat (j := 1) rfl, _, _, rfl, rfl, _, rfl, _, _, _, _, rfl, rfl, SqT.of hdm, atI_nat (j := 0) rfl, _, _, rfl, .inr (SqT.of htm), _, _, rfl, rfl, ?_⟩
    rw [eN]
    rfl
  rintro σ H4 ⟨rfl, rfl⟩
  refine ⟨_, rfl, _, _, rfl, rfl, _, rfl, ite3 (fun big => ?_) (fun small => ?_)⟩
  · refine ⟨_, rfl, (by show 2 ≤ sizeLine; decide), fun q nq => ?_⟩
    exact kk _ q (same_upd nq) (.inr ⟨N, by omega, fun T p r s hv => due1 (by omega) T p r s fun x => by rw [hv, hmax], upd_same⟩)
  obtain ⟨ok, rb, hv⟩ := due2 (by omega)
  refine ⟨fun σ H2 => ∃ tb : Addr, Same H4 H2 ∧ H2 tb = some (.tup ((gtab T1 p1 r1 T2 p2 r2 N).map V.int)) ∧ σ = [some (.ref d1), some (.ref d2), some (.int (N : Int)), some (.ref tb), some (.ref dl), some (.ref dm), some (.int L), none], ?_, ?_⟩
  · refine ⟨_, rfl, _, rfl, (by omega), (by omega), fun U nU => ?_⟩
    have sU := same_upd (o := .lst []) nU
    rw [Int.toNat_natCast]
    refine lc_range (lo := 0) (n := N) (fun j H2 => Same H4 H2 ∧ H2 U = some (.lst ((gtab T1 p1 r1 T2 p2 r2 j).map V.int))) ⟨sU, upd_same⟩ ?_ ?_
    · rintro j H2 hj ⟨s2, hU⟩
      refine ⟨rfl, ?_⟩
      unfold tYes
      refine iteT ?_
      rw [Int.zero_add]
      refine ⟨_, rfl, _, rfl, d1, T1, p1, r1, j, rfl, R1.same s2, o1, rb1, _, rfl, _, rfl, d2, T2, p2, r2, j, rfl, R2.same s2, o2, rb2, _, _, rfl, _, hU, ?_, fun b o e' => ?_, ?_⟩
      · unfold gtab
        rw [List.length_map, List.length_map, List.length_range]
        exact Nat.lt_of_le_of_lt (show j ≤ 20000 by omega) (by decide)
      · rw [upd_ne (ne_of_none e' nU)]
        exact s2 _ _ e'
      · rw [upd_same]
        unfold gtab
        rw [List.range_succ, List.map_append, List.map_append, max_if]
        rfl
    rintro H2 ⟨s2, hU⟩
    refine ⟨_, _, rfl, .inl ⟨SqL.of hU, fun tb ntb => ?_⟩⟩
    exact ⟨tb, s2.trans (same_upd ntb), upd_same, rfl⟩
  rintro σ H2 ⟨tb, s2, htb, rfl⟩
  rw [hgt] at htb
  refine ⟨_, rfl, _, rfl, _, _, _, _, rfl, rfl, SqT.of (s2 _ _ hdm), atI_nat (j := 1) rfl, _, rfl, _, _, _, _, rfl, rfl, SqT.of (s2 _ _ hdm), atI_nat (j := 2) rfl, (by show 3 ≤ sizeLine; decide), fun e ne => ?_⟩
  have se := same_upd (o := .tup [.ref tb, .int (pm : Int), .int rm]) ne
  refine ⟨e, _, _, _, rfl, ⟨tb, upd_same, se _ _ htb⟩, ok, rb, fun H3 d' T' p' r' s3 R cut sh hv' => ?_⟩
  refine ⟨d', T', p', r', rfl, R, fun H5 q s5 told => ?_⟩
  exact kk H5 q (s2.trans (se.trans (s3.trans s5))) (told.due sh (cut.rb rb) fun x => by rw [hv', hv, hmax])
end
end Sm

set_option Elab.async false
set_option linter.all false
set_option maxRecDepth 100000
set_option maxHeartbeats 16000000
namespace Sm
open PySem PySem.Spec PyProof.Rows L2 LamX
open C8 (pss_cut tCut)
/-- what the written part says of the classes that _law_tried names -/
structure Txt3 (K : PySem.W.Frag) (mg : Str → Option Value) (cChangeError cTooLong cBadRule cNoRise cNoStart : Addr) : Prop where
  gChangeError : mg "ChangeError" = some (.ref cChangeError)
  gTooLong : mg "TooLong" = some (.ref cTooLong)
  gBadRule : mg "BadRule" = some (.ref cBadRule)
  gNoRise : mg "NoRise" = some (.ref cNoRise)
  gNoStart : mg "NoStart" = some (.ref cNoStart)
  noE : PySem.W.findIn K (.ref cTooLong) "number" = some none
  xf : XfC K cTooLong
  ec : ExcC K cTooLong
  te : PySem.W.exmOne K (.ref cTooLong) (.ref cChangeError) = some true
  k1 : PySem.W.kitAny K (.ref cTooLong) [.ref cBadRule, .ref cNoRise, .ref cNoStart] = some false
  k2 : PySem.W.kitOne K (.ref cTooLong) (.type "ValueError") = some true
  k3 : PySem.W.kitOne K (.ref cTooLong) (.ref cTooLong) = some true
abbrev s_l_tried : Stmt := topS 38
abbrev N_l_tried : List Str := ["_law_call", "error"]
theorem sc_l_tried : FnScope N_l_tried ["_law_call"] (defScope s_l_tried) := ⟨rfl, rfl, rfl, by decide +kernel, rfl, by decide +kernel, by decide +kernel⟩
theorem tried_gives {X : Cx} {q : Str} {cChangeError cTooLong cBadRule cNoRise cNoStart : Addr} (T : Txt X.mg) (XC : Txt3 X.K X.mg cChangeError cTooLong cBadRule cNoRise cNoStart) :
    ∃ ts : Addr → Value → Option Addr → TS, (∀ (g : Addr) (cdg : Value), GivesTo X N_l_tried "_law_tried" (defScope s_l_tried) g cdg (defBody s_l_tried) "_law_call" q (TAs X.K cChangeError N_l_tried 1 ts)) ∧
      ∀ (c d : Addr) (n : Int) (D : Ends) (σ : L2.St) (H : Hp), σ.length = 2 → H d = some (.xd [(("number" : Str), .int n)]) → (∀ H' q, Same H H' → H' q = some (.lst [.str "long", .int n]) → D.rt (.ref q) H') → ts c (.ref cTooLong) (some d) D (σ.set 1 (some (.ref c))) H := by
  refine ⟨_, fun g cdg => as_gives (by rfl) XC.gChangeError (by decide) (fun f => rfl) sc_l_tried.nd rfl (fun s H => by rfl) (fun s H a oe cls d pn hz hf => (pss_cons (ps_if (PW.pt (pw_or (pt_val (pe_callB (show CallR _ (.builtin "isinstance") (rIsX X.K cls d a) from call_isX hz hf) (by rfl) T.n_isinstance (by decide +kernel) (pa_cons (pv 1) (pa_cons (pe_tup (pa_cons (pe_glob (v := .ref cBadRule) rfl XC.gBadRule rfl) (pa_cons (pe_glob (v := .ref cNoRise) rfl XC.gNoRise rfl) (pa_cons (pe_glob (v := .ref cNoStart) rfl XC.gNoStart rfl) pa_nil)))) pa_nil)))) (pw_or1 (pt_not (pt_val (pe_callB (show CallR _ (.builtin "isinstance") (rIsX X.K cls d a) from call_isX hz hf) (by rfl) T.n_isinstance (by decide +kernel) (pa_cons (pv 1) (pa_cons (pe_bltn (v := .ty "ValueError") (by rfl) T.n_ValueError (by decide +kernel) rfl) pa_nil)))))))) (pss_one (ps_ret (pe_lst (pa_cons pe_str pa_nil)))) pss_nil)
    (pss_one (ps_ret (pe_ifExp (pt_val (pe_callB (show CallR _ (.builtin "isinstance") (rIsX X.K cls d a) from call_isX hz hf) (by rfl) T.n_isinstance (by decide +kernel) (pa_cons (pv 1) (pa_cons (pe_glob (v := .ref cTooLong) rfl XC.gTooLong rfl) pa_nil)))) (pe_lst (pa_cons pe_str (pa_cons (pe_xf XC.xf XC.noE hz hf (pv 1)) pa_nil))) (pe_lst (pa_cons pe_str pa_nil))))))), ?_⟩
  intro c d n D σ H len hd kk
  obtain ⟨x0, x1, rfl⟩ : ∃ x0 x1, σ = [x0, x1] := by
    match σ, len with
    | [x0, x1], _ => exact ⟨x0, x1, rfl⟩
  refine ⟨_, rfl, (by show 3 ≤ sizeLine; decide), fun tp ntp => ?_⟩
  have st := same_upd (o := .tup [.ref cBadRule, .ref cNoRise, .ref cNoStart]) ntp
  refine ⟨cTooLong, d, _, rfl, rfl, st _ _ hd, XC.ec, .inr ⟨tp, _, _, false, rfl, upd_same, .cons (.own _) (.cons (.own _) (.cons (.own _) .nil)), XC.k1, _, rfl, iteF ?_⟩⟩
  refine ⟨_, rfl, cTooLong, d, _, rfl, rfl, st _ _ hd, XC.ec, .inl ⟨_, _, true, rfl, .ty _, XC.k2, _, rfl, iteF ?_⟩⟩
  refine ⟨_, rfl, cTooLong, d, _, rfl, rfl, st _ _ hd, XC.ec, .inl ⟨_, _, true, rfl, .own _, XC.k3, _, rfl, iteT ?_⟩⟩
  refine ⟨_, rfl, rfl, rfl, d, _, _, rfl, st _ _ hd, rfl, (by show 2 ≤ sizeLine; decide), fun q nq => ?_⟩
  exact kk _ q (st.trans (same_upd nq)) upd_same
end Sm

set_option Elab.async false
set_option linter.all false
set_option maxRecDepth 100000
set_option maxHeartbeats 16000000
namespace Sm
open PySem PySem.Spec PyProof.Rows L2 LamX
open C8 (pss_cut tCut)
/-! ### what stands while tables grow -/
theorem extTup {H H' : Hp} (e : ExtN H H') {b : Addr} {xs : List V} (h : H b = some (.tup xs)) : H' b = some (.tup xs) := e _ _ h fun ps z => by cases z
theorem extLst {H H' : Hp} (e : ExtN H H') {b : Addr} {xs : List V} (h : H b = some (.lst xs)) : H' b = some (.lst xs) := e _ _ h fun ps z => by cases z
theorem RuleAt.ext {H H' : Hp} {d : Addr} {T : List Int} {p : Nat} {r : Int} (R : RuleAt H d T p r) (e : ExtN H H') : RuleAt H' d T p r := by
  obtain ⟨t, h1, h2⟩ := R
  exact ⟨t, extTup e h1, extTup e h2⟩
theorem DueAt.ext {H H' : Hp} {q : Addr} {T1 T2 : List Int} {p1 p2 : Nat} {r1 r2 : Int} (h : DueAt H q T1 p1 r1 T2 p2 r2) (e : ExtN H H') : DueAt H' q T1 p1 r1 T2 p2 r2 := by
  rcases h with ⟨T, p, r, h1, h2, h3, h4, h5⟩ | ⟨n, h1, h2, h3⟩
  · exact .inl ⟨T, p, r, h1, h2, h3, h4, h5.ext e⟩
  · exact .inr ⟨n, h1, h2, extLst e h3⟩
theorem Deck.ext {H H' : Hp} {p l : Addr} {n : Int} (D : Deck H p l n) (e : ExtN H H') : Deck H' p l n := by
  obtain ⟨cells, h1, h2⟩ := D.hl
  exact ⟨extLst e D.hp, cells, extLst e h1, h2⟩
theorem Tabs.fr {H H' : Hp} {p l : Addr} {n : Int} {TT : List (Addr × Str)} (t : Tabs TT H) (f : Fr p l H H') (D : Deck H p l n) : Tabs TT H' := by
  obtain ⟨cells, hl, _⟩ := D.hl
  have hp := D.hp
  intro x hx
  obtain ⟨ps, h1, h2, h3⟩ := t x hx
  have n1 : x.1 ≠ p := fun e => by
    rw [e, hp] at h1
    cases h1
  have n2 : x.1 ≠ l := fun e => by
    rw [e, hl] at h1
    cases h1
  refine ⟨ps, f _ _ n1 n2 h1, h2, fun pos cv hc => ?_⟩
  obtain ⟨c, rfl, hcd⟩ := h3 pos cv hc
  refine ⟨c, rfl, f _ _ (fun e => ?_) (fun e => ?_) hcd⟩
  · rw [e, hp] at hcd
    cases hcd
  · rw [e, hl] at hcd
    cases hcd
/-! ### rules and words of their length as data -/
def rD (T : List Int) (p : Nat) (r : Int) : PyData := .tuple [.tuple (T.map PyData.int), .int (p : Int), .int r]
def longD (n : Nat) : PyData := .list [.str "long", .int (n : Int)]
theorem log_20 {i : Int} (h0 : 0 ≤ i) (h1 : i ≤ 100000000000000000000) : i.natAbs.log2 < 1920 :=
  Nat.lt_of_lt_of_le (PySem.Flt.log2_lt_of (k := 310) (by decide) (by omega)) (by decide)
theorem RuleAt.dp {K : PySem.W.Frag} {H : Hp} {d : Addr} {T : List Int} {p : Nat} {r : Int} (R : RuleAt H d T p r) : Dp K H (.ref d) (rD T p r) := by
  obtain ⟨t, h1, h2⟩ := R
  exact .tup (SqT.of h1) (.cons (.tup (SqT.of h2) (dp_ints T)) (.cons (.int _) (.cons (.int _) .nil)))
theorem short_text {i : Int} (h0 : 0 ≤ i) (h1 : i ≤ 100000000000000000000) : (PySem.Str.ofString (toString i)).length ≤ 71 := by
  rw [PySem.ofString_length]
  exact PySem.int_text_length_le (k := 70) (by decide) (PySem.Flt.log2_lt_of (k := 70) (by decide) (by omega))
theorem short_texts : ∀ {ns : List Int}, (∀ n ∈ ns, 0 ≤ n ∧ n ≤ 100000000000000000000) → ((PyData.shownAll (ns.map PyData.int)).map (·.length)).sum ≤ 71 * ns.length ∧ (PyData.shownAll (ns.map PyData.int)).length = ns.length
  | [], _ => by simp [PyData.shownAll]
  | n :: ns, h => by
    have a := short_text (h n List.mem_cons_self).1 (h n List.mem_cons_self).2
    obtain ⟨b, c⟩ := short_texts (ns := ns) fun m hm => h m (List.mem_cons_of_mem _ hm)
    simp only [List.map_cons, PyData.shownAll, PyData.shown, List.sum_cons, List.length_cons]
    omega
structure Shw (d : PyData) : Prop where
  sh : PyData.showable d = true
  nd : PyData.hasDict d = false
  dep : d.depth ≤ 5
  len : d.shown.length ≤ 4000000
theorem at_mem {T : List Int} {n : Int} (h : n ∈ T) : ∃ i, i < T.length ∧ T.getD i 0 = n := by
  obtain ⟨i, hi, e⟩ := List.mem_iff_getElem.mp h
  exact ⟨i, hi, by rw [List.getD_eq_getElem?_getD, List.getElem?_eq_getElem hi, e]; rfl⟩
theorem rD_shw {T : List Int} {p : Nat} {r : Int} (o : RuleOk T p r) (b : RB T p r) (l5 : T.length ≤ 5000) : Shw (rD T p r) := by
  have p1 := o.p1
  have r0 := o.r0
  have r1 := b.r1
  have sm : ∀ n ∈ T, n.natAbs.log2 < 1920 := fun n hn => by
    obtain ⟨i, hi, rfl⟩ := at_mem hn
    exact log_20 (o.nn i hi) (b.top i hi)
  have sp : (p : Int).natAbs.log2 < 1920 := log_20 (by omega) (by omega)
  have sr : r.natAbs.log2 < 1920 := log_20 r0 (by omega)
  have lp := PyProof.Rows.int_text_len_1921 sp
  have lr := PyProof.Rows.int_text_len_1921 sr
  have dep := depth_ints T
  obtain ⟨s1, s2⟩ := short_texts fun n hn => by
    obtain ⟨i, hi, rfl⟩ := at_mem hn
    exact ⟨o.nn i hi, b.top i hi⟩
  have t1 := PySem.tupleText_len_le (PyData.shownAll (T.map PyData.int))
  refine ⟨?_, ?_, ?_, ?_⟩
  · unfold rD
    simp only [PyData.showable, PyData.showableAll, showable_ints sm, decide_eq_true sp, decide_eq_true sr, Bool.and_self]
  · unfold rD
    simp only [PyData.hasDict, PyData.hasDictAll, hasDict_ints, Bool.or_self]
  · unfold rD
    simp only [PyData.depth, PyData.depthAll]
    omega
  · unfold rD
    simp only [PyData.shown, PyData.shownAll]
    have t2 := PySem.tupleText_len_le [tupleText (PyData.shownAll (T.map PyData.int)), Str.ofString (toString (p : Int)), Str.ofString (toString r)]
    simp only [List.map_cons, List.map_nil, List.sum_cons, List.sum_nil, List.length_cons, List.length_nil] at t2
    omega
theorem longD_shw {n : Nat} (h : n ≤ 100000000000000000000) : Shw (longD n) := by
  have sn : (n : Int).natAbs.log2 < 1920 := log_20 (by omega) (by omega)
  have ln := PyProof.Rows.int_text_len_1921 sn
  refine ⟨?_, ?_, Nat.le_of_ble_eq_true rfl, ?_⟩
  · unfold longD
    simp only [PyData.showable, PyData.showableAll, decide_eq_true sn, Bool.and_self]
  · rfl
  · unfold longD
    simp only [PyData.shown, PyData.shownAll]
    have t2 := listText_len_le [PyData.shown (.str "long"), Str.ofString (toString (n : Int))]
    have l4 : (PyData.shown (.str "long")).length ≤ 100 := by decide +kernel
    simp only [List.map_cons, List.map_nil, List.sum_cons, List.sum_nil, List.length_cons, List.length_nil] at t2
    simp only [PyData.shown] at t2 l4
    omega
end Sm

set_option Elab.async false
set_option linter.all false
set_option maxRecDepth 100000
set_option maxHeartbeats 4000000
namespace Sm
open PySem PySem.Spec PyProof.Rows L2
/-! ### what is due is bounded, and but one -/
theorem far_over {T1 T2 : List Int} {p1 p2 N : Nat} {r1 r2 : Int} (o1 : RuleOk T1 p1 r1) (o2 : RuleOk T2 p2 r2) (b1 : RS 10000000000000 T1 p1 r1) (b2 : RS 10000000000000 T2 p2 r2) (g : r2 * (p1 : Int) < r1 * (p2 : Int)) (hN : 60000000000000000000 ≤ N) :
    ∀ x, N ≤ x → vl T2 p2 r2 x ≤ vl T1 p1 r1 x := by
  intro x hx
  have c1 := b1.turn
  have c2 := b2.turn
  have l1 := b1.len
  have l2 := b2.len
  have t0 : 0 < p1 * p2 := Nat.mul_pos o1.p0 o2.p0
  have t1 : p1 * p2 ≤ 1600 := Nat.mul_le_mul c1 c2
  obtain ⟨y, k, h1, h2, rfl⟩ := split_turn t0 (show 300 ≤ x by omega)
  have e1 := vl_addk o1.p0 o1.p1 (r := r1) (x := y) (by omega) (k * p2)
  have e2 := vl_addk o2.p0 o2.p1 (r := r2) (x := y) (by omega) (k * p1)
  rw [show k * p2 * p1 = k * (p1 * p2) by rw [Nat.mul_assoc, Nat.mul_comm p2 p1]] at e1
  rw [show k * p1 * p2 = k * (p1 * p2) by rw [Nat.mul_assoc]] at e2
  have u1 := o1.pos y
  have u2 := RS.vl o2 b2 (by decide) y
  have u3 : k * (p1 * p2) ≤ k * 1600 := Nat.mul_le_mul_left k t1
  rw [e1, e2, Int.natCast_mul, Int.natCast_mul, Int.mul_assoc, Int.mul_assoc, Int.mul_comm (p2 : Int), Int.mul_comm (p1 : Int)]
  have u4 : (k : Int) * (r2 * (p1 : Int) + 1) ≤ (k : Int) * (r1 * (p2 : Int)) := Int.mul_le_mul_of_nonneg_left (by omega) (by omega)
  rw [Int.mul_add, Int.mul_one] at u4
  generalize (k : Int) * (r2 * (p1 : Int)) = a at u4 ⊢
  generalize (k : Int) * (r1 * (p2 : Int)) = b at u4 ⊢
  generalize k * (p1 * p2) = c at *
  have u5 : (10000000000000 : Int) * ((y : Int) + 1) ≤ 10000000000000 * 1901 := Int.mul_le_mul_of_nonneg_left (by omega) (by decide)
  omega
theorem max_tab {T T1 T2 : List Int} {p p1 p2 B t : Nat} {r r1 r2 R : Int} (s : Short T p r) (o1 : RuleOk T1 p1 r1) (o2 : RuleOk T2 p2 r2) (t0 : 0 < t) (R0 : 0 ≤ R) (hv : ∀ x, vl T p r x = max (vl T1 p1 r1 x) (vl T2 p2 r2 x))
    (turn : ∀ x, B ≤ x → max (vl T1 p1 r1 (x + t)) (vl T2 p2 r2 (x + t)) = max (vl T1 p1 r1 x) (vl T2 p2 r2 x) + R) : T.length ≤ B + t := by
  have o := tab_ok (f := fun x => max (vl T1 p1 r1 x) (vl T2 p2 r2 x)) t0 R0 turn (fun x => by have := o1.pos x; omega) fun x => by
    have := o1.up x
    have := o2.up x
    omega
  have := short_len s o fun x => by rw [hv, tab_vl (f := fun x => max (vl T1 p1 r1 x) (vl T2 p2 r2 x)) t0 turn]
  rwa [tab_len] at this
theorem steep_len {T T1 T2 : List Int} {p p1 p2 : Nat} {r r1 r2 : Int} (s : Short T p r) (o1 : RuleOk T1 p1 r1) (o2 : RuleOk T2 p2 r2) (b1 : RS 10000000000000 T1 p1 r1) (b2 : RS 10000000000000 T2 p2 r2) (g : r2 * (p1 : Int) < r1 * (p2 : Int)) (hv : ∀ x, vl T p r x = max (vl T1 p1 r1 x) (vl T2 p2 r2 x)) : T.length ≤ 100000000000000000000 := by
  have c1 := b1.turn
  have l1 := b1.len
  obtain ⟨N, hN⟩ : ∃ N : Nat, N = 60000000000000000000 := ⟨_, rfl⟩
  have := max_tab s o1 o2 (B := N) o1.p0 o1.r0 hv (over_turn o1 (by omega) (far_over o1 o2 b1 b2 g (by omega)))
  omega
theorem due_len {T T1 T2 : List Int} {p p1 p2 : Nat} {r r1 r2 : Int} (s : Short T p r) (s1 : Short T1 p1 r1) (s2 : Short T2 p2 r2) (b1 : RS 10000000000000 T1 p1 r1) (b2 : RS 10000000000000 T2 p2 r2) (hv : ∀ x, vl T p r x = max (vl T1 p1 r1 x) (vl T2 p2 r2 x)) : T.length ≤ 100000000000000000000 := by
  have o1 := s1.ok
  have o2 := s2.ok
  rcases Int.lt_trichotomy (r2 * (p1 : Int)) (r1 * (p2 : Int)) with q | q | q
  · exact steep_len s o1 o2 b1 b2 q hv
  · have l1 := b1.len
    have l2 := b2.len
    have t1 : p1 * p2 ≤ 1600 := Nat.mul_le_mul b1.turn b2.turn
    have := max_tab s o1 o2 (B := 300) (t := p1 * p2) (R := r1 * (p2 : Int)) (Nat.mul_pos o1.p0 o2.p0) (Int.mul_nonneg o1.r0 (by omega)) hv fun x hx => by
      have e1 := vl_addk o1.p0 o1.p1 (r := r1) (x := x) (by omega) p2
      have e2 := vl_addk o2.p0 o2.p1 (r := r2) (x := x) (by omega) p1
      rw [Nat.mul_comm, Int.mul_comm] at e1
      rw [Int.mul_comm, q] at e2
      omega
    omega
  · exact steep_len s o2 o1 b2 b1 q fun x => by rw [hv, Int.max_comm]
/-- what is due, as data -/
def DueD (d : PyData) (T1 : List Int) (p1 : Nat) (r1 : Int) (T2 : List Int) (p2 : Nat) (r2 : Int) : Prop :=
  (∃ (T : List Int) (p : Nat) (r : Int), Short T p r ∧ (∀ x, vl T p r x = max (vl T1 p1 r1 x) (vl T2 p2 r2 x)) ∧ RB T p r ∧ T.length ≤ 5000 ∧ d = rD T p r) ∨
  ∃ n : Nat, 5000 < n ∧ n ≤ 100000000000000000000 ∧ (∀ T p r, Short T p r → (∀ x, vl T p r x = max (vl T1 p1 r1 x) (vl T2 p2 r2 x)) → T.length = n) ∧ d = longD n
theorem max_rule {T1 T2 : List Int} {p1 p2 : Nat} {r1 r2 : Int} (o1 : RuleOk T1 p1 r1) (o2 : RuleOk T2 p2 r2) (b1 : RS 10000000000000 T1 p1 r1) (b2 : RS 10000000000000 T2 p2 r2) : ∃ T p r, Short T p r ∧ ∀ x, vl T p r x = max (vl T1 p1 r1 x) (vl T2 p2 r2 x) := by
  have key : ∀ {T1 T2 : List Int} {p1 p2 : Nat} {r1 r2 : Int}, RuleOk T1 p1 r1 → RuleOk T2 p2 r2 → RS 10000000000000 T1 p1 r1 → RS 10000000000000 T2 p2 r2 → r2 * (p1 : Int) < r1 * (p2 : Int) → ∃ T p r, Short T p r ∧ ∀ x, vl T p r x = max (vl T1 p1 r1 x) (vl T2 p2 r2 x) := by
    intro T1 T2 p1 p2 r1 r2 o1 o2 b1 b2 q
    obtain ⟨N, hN⟩ : ∃ N : Nat, N = 60000000000000000000 := ⟨_, rfl⟩
    have l1 := b1.len
    have turn := over_turn o1 (B := N) (by omega) (far_over o1 o2 b1 b2 q (by omega))
    have o := tab_ok (f := fun x => max (vl T1 p1 r1 x) (vl T2 p2 r2 x)) o1.p0 o1.r0 turn (fun x => by have := o1.pos x; omega) fun x => by
      have := o1.up x
      have := o2.up x
      omega
    obtain ⟨T, p, r, s, e⟩ := short_is o
    exact ⟨T, p, r, s, fun x => by rw [e, tab_vl (f := fun x => max (vl T1 p1 r1 x) (vl T2 p2 r2 x)) o1.p0 turn]⟩
  rcases Int.lt_trichotomy (r2 * (p1 : Int)) (r1 * (p2 : Int)) with q | q | q
  · exact key o1 o2 b1 b2 q
  · have l1 := b1.len
    have l2 := b2.len
    have t0 : 0 < p1 * p2 := Nat.mul_pos o1.p0 o2.p0
    have turn : ∀ x, 300 ≤ x → max (vl T1 p1 r1 (x + p1 * p2)) (vl T2 p2 r2 (x + p1 * p2)) = max (vl T1 p1 r1 x) (vl T2 p2 r2 x) + r1 * (p2 : Int) := fun x hx => by
      have e1 := vl_addk o1.p0 o1.p1 (r := r1) (x := x) (by omega) p2
      have e2 := vl_addk o2.p0 o2.p1 (r := r2) (x := x) (by omega) p1
      rw [Nat.mul_comm, Int.mul_comm] at e1
      rw [Int.mul_comm, q] at e2
      omega
    have o := tab_ok (f := fun x => max (vl T1 p1 r1 x) (vl T2 p2 r2 x)) t0 (Int.mul_nonneg o1.r0 (by omega)) turn (fun x => by have := o1.pos x; omega) fun x => by
      have := o1.up x
      have := o2.up x
      omega
    obtain ⟨T, p, r, s, e⟩ := short_is o
    exact ⟨T, p, r, s, fun x => by rw [e, tab_vl (f := fun x => max (vl T1 p1 r1 x) (vl T2 p2 r2 x)) t0 turn]⟩
  · obtain ⟨T, p, r, s, e⟩ := key o2 o1 b2 b1 q
    exact ⟨T, p, r, s, fun x => by rw [e, Int.max_comm]⟩
theorem DueAt.dp {K : PySem.W.Frag} {H : Hp} {q : Addr} {T1 T2 : List Int} {p1 p2 : Nat} {r1 r2 : Int} (h : DueAt H q T1 p1 r1 T2 p2 r2) (s1 : Short T1 p1 r1) (s2 : Short T2 p2 r2) (b1 : RS 10000000000000 T1 p1 r1) (b2 : RS 10000000000000 T2 p2 r2) : ∃ d, Dp K H (.ref q) d ∧ DueD d T1 p1 r1 T2 p2 r2 := by
  rcases h with ⟨T, p, r, s, hv, b, l, R⟩ | ⟨n, l, hn, e⟩
  · exact ⟨_, R.dp, .inl ⟨T, p, r, s, hv, b, l, rfl⟩⟩
  · obtain ⟨T, p, r, s, hv⟩ := max_rule s1.ok s2.ok b1 b2
    have := due_len s s1 s2 b1 b2 hv
    rw [hn T p r s hv] at this
    exact ⟨longD n, .lst (SqL.of e) (.cons (.str _) (.cons (.int _) .nil)), .inr ⟨n, l, this, hn, rfl⟩⟩
theorem DueD.one {d e : PyData} {T1 T2 : List Int} {p1 p2 : Nat} {r1 r2 : Int} (h : DueD d T1 p1 r1 T2 p2 r2) (k : DueD e T1 p1 r1 T2 p2 r2) (s1 : Short T1 p1 r1) (s2 : Short T2 p2 r2) (b1 : RS 10000000000000 T1 p1 r1) (b2 : RS 10000000000000 T2 p2 r2) : d = e := by
  rcases h with ⟨T, p, r, s, hv, b, l, rfl⟩ | ⟨n, l, _, hn, rfl⟩ <;> rcases k with ⟨T', p', r', s', hv', b', l', rfl⟩ | ⟨n', l', _, hn', rfl⟩
  · obtain ⟨rfl, rfl, rfl⟩ := short_one s s' fun x => by rw [hv, hv']
    rfl
  · have := hn' T p r s hv
    omega
  · have := hn T' p' r' s' hv'
    omega
  · obtain ⟨T, p, r, s, hv⟩ := max_rule s1.ok s2.ok b1 b2
    rw [← hn T p r s hv, ← hn' T p r s hv]
theorem DueD.shw {d : PyData} {T1 T2 : List Int} {p1 p2 : Nat} {r1 r2 : Int} (h : DueD d T1 p1 r1 T2 p2 r2) : Shw d := by
  rcases h with ⟨T, p, r, s, hv, b, l, rfl⟩ | ⟨n, l, u, hn, rfl⟩
  · exact rD_shw s.ok b l
  · exact longD_shw u
end Sm

set_option Elab.async false
set_option linter.all false
set_option maxRecDepth 100000
set_option maxHeartbeats 4000000
namespace Sm
open PySem PySem.Spec PyProof.Rows L2
/-! ### best_rule where it cannot raise, and the written pairs -/
def sp_best0 (_ : PySem.W.Frag) : Sp := fun vs H Q _ => ∃ (d1 d2 : Addr) (T1 T2 : List Int) (p1 p2 : Nat) (r1 r2 : Int), vs = [.ref d1, .ref d2] ∧ RuleAt H d1 T1 p1 r1 ∧ RuleAt H d2 T2 p2 r2 ∧ Short T1 p1 r1 ∧ Short T2 p2 r2 ∧ RS 10000000000000 T1 p1 r1 ∧ RS 10000000000000 T2 p2 r2 ∧
  (∀ T p r, Short T p r → (∀ x, vl T p r x = max (vl T1 p1 r1 x) (vl T2 p2 r2 x)) → T.length ≤ 5000) ∧
  ∀ H' d T p r, Same H H' → RuleAt H' d T p r → Short T p r → (∀ x, vl T p r x = max (vl T1 p1 r1 x) (vl T2 p2 r2 x)) → Q (.ref d) H'
theorem ok_best0 {P : Program} {w : World} {K : PySem.W.Frag} {mg : Str → Option Value} {base : Heap} {cTooLong : Addr} {k : Nat} (C : CalX P w K mg base "best_rule" ["one", "other"] k (sp_best cTooLong)) : Cal P w K mg base "best_rule" ["one", "other"] k (sp_best0 K) := by
  obtain ⟨f, fd, F, m, kp, b⟩ := C
  refine ⟨f, fd, ⟨fun vs H Q E h => ?_, fun A outer s H args us vs Q E hr e0 hb hv h => ?_⟩, m, kp, b⟩
  · obtain ⟨a, c, _, _, _, _, _, _, rfl, _⟩ := h
    rfl
  obtain ⟨d1, d2, T1, T2, p1, p2, r1, r2, rfl, R1, R2, s1, s2, b1, b2, lim, k⟩ := h
  refine codeAny_mono (F.run A outer s H args us _ Q E0 hr e0 hb hv ⟨d1, d2, T1, T2, p1, p2, r1, r2, rfl, R1, R2, s1, s2, b1, b2, fun H' d' T' p' r' s _ _ sh hv l => ?_, fun n hn h H' s => ?_⟩) ?_
  · exact k H' d' T' p' r' s ‹_› sh hv
  · obtain ⟨T, p, r, sh, e⟩ := max_rule s1.ok s2.ok b1 b2
    have h1 := h T p r sh e
    have h2 := lim T p r sh e
    omega
  rintro (e | fl) s' got
  · obtain ⟨_, _, _, _, _, _, _, _, _, _, _, _, hE⟩ := got
    exact hE.elim
  · match fl, got with
    | .next, got => exact got.elim
    | .brk, got => exact got.elim
    | .cont, got => exact got.elim
    | .ret u, got => exact got
theorem flat_rs {c : Int} (c0 : 0 ≤ c) (c1 : c ≤ 10000000000000) : RS 10000000000000 [c] 1 0 := by
  refine ⟨by simp, by decide, by decide, fun i hi => ?_⟩
  have : i = 0 := by
    simp at hi
    omega
  subst this
  exact c1
theorem stairs_rs {r : Int} (r1 : r ≤ 10000000000000) : RS 10000000000000 (List.replicate 40 0) 40 r := by
  refine ⟨by simp, by decide, r1, fun i hi => ?_⟩
  rw [zeros_at]
  decide
theorem far_due {d : PyData} (h : DueD d (List.replicate 40 0) 40 1 [999999999999] 1 0) : d = longD 40000000000000 := by
  rcases h with ⟨T, p, r, s, hv, b, l, rfl⟩ | ⟨n, l, u, hn, rfl⟩
  · have := far_len s hv
    omega
  · obtain ⟨T, p, r, s, hv⟩ := max_rule (stairs_short (r := 1) (by decide)).ok (flat_short (c := 999999999999) (by decide)).ok (stairs_rs (by decide)) (flat_rs (by decide) (by decide))
    rw [← hn T p r s hv, far_len s hv]
theorem near_len {T : List Int} {p : Nat} {r : Int} (s : Short T p r) (hv : ∀ x, vl T p r x = max (vl [4960] 1 0 x) (vl (List.replicate 40 0) 40 40 x)) : T.length ≤ 5000 := by
  rw [(near_tab s hv).1, List.length_map, List.length_range]
  exact Nat.le_refl _
/-- best_rule's two ends in one: what it gives or what the law writes for its TooLong is what is due -/
theorem bestOf_due {c : Addr} {T1 T2 : List Int} {p1 p2 : Nat} {r1 r2 : Int} {H : Hp} {Q : VK} {E : XK}
    (give : ∀ H' q, Same H H' → DueAt H' q T1 p1 r1 T2 p2 r2 → Q (.ref q) H')
    (late : ∀ (n : Nat) H' d, Same H H' → H' d = some (.xd [(("number" : Str), .int (n : Int))]) → (∀ H'' q, Same H' H'' → H'' q = some (.lst [.str "long", .int (n : Int)]) → DueAt H'' q T1 p1 r1 T2 p2 r2) → E (.ref c) (some d) H') : BestOf c T1 p1 r1 T2 p2 r2 H Q E :=
  ⟨fun H' d' T' p' r' s R b sh hv l => give H' d' s (.inl ⟨T', p', r', sh, hv, b, l, R⟩),
   fun n hn h H' s H'' d s2 hd => late n H'' d (s.trans s2) hd fun H3 q _ hq => .inr ⟨n, hn, h, hq⟩⟩
theorem DueD.swap {d : PyData} {T1 T2 : List Int} {p1 p2 : Nat} {r1 r2 : Int} (h : DueD d T1 p1 r1 T2 p2 r2) : DueD d T2 p2 r2 T1 p1 r1 := by
  rcases h with ⟨T, p, r, s, hv, b, l, e⟩ | ⟨n, l, u, hn, e⟩
  · exact .inl ⟨T, p, r, s, fun x => (hv x).trans (Int.max_comm _ _), b, l, e⟩
  · exact .inr ⟨n, l, u, fun T p r s hv => hn T p r s fun x => (hv x).trans (Int.max_comm _ _), e⟩
end Sm

set_option Elab.async false
set_option linter.all false
set_option maxRecDepth 100000
set_option maxHeartbeats 16000000
namespace Sm
open PySem PySem.Spec PyProof.Rows L2
open C8 (pss_cut tCut)
/-- a list made of a list of ints -/
theorem lc_ints {K : PySem.W.Frag} {i j : Nat} {a : Addr} {te : TE} {vs : List Nat} {σ : L2.St} {H : Hp} {Q : VK} {ns : List Int} (g : Int → Int) (hi : σ[i]? = some (some (.ref a))) (hS : H a = some (.lst (ns.map V.int))) (ln : ns.length ≤ 20000) (hw : ∀ x : V, wipe ((wipe σ vs).set j (some x)) vs = wipe σ vs)
    (he : ∀ n ∈ ns, ∀ (H' : Hp) (Q' : VK), Same H H' → Q' (.int (g n)) H' → te ((wipe σ vs).set j (some (.int n))) H' Q') (hd : ∀ H' D, Same H H' → H D = none → H' D = some (.lst ((ns.map g).map V.int)) → Q (.ref D) H') : tLc (iList K (tVar i)) (gName j) tYes te vs σ H Q := by
  refine ⟨_, hi, a, rfl, ⟨_, SqL.of hS⟩, fun D nD => ?_⟩
  refine lc_list (K := K) (a := a) (xs := ns.map V.int) (fun k H' => Same H H' ∧ H' D = some (.lst (((ns.take k).map g).map V.int))) ⟨same_upd nD, upd_same⟩ (fun _ H' _ h => SqL.of (h.1 _ _ hS)) ?_ ?_
  · rintro k x H' hx ⟨s', hD⟩
    rw [List.getElem?_map] at hx
    cases e : ns[k]? with
    | none => rw [e] at hx; cases hx
    | some n =>
      rw [e] at hx
      have ex := (Option.some.inj hx).symm
      subst ex
      refine ⟨hw _, ?_⟩
      unfold tYes
      refine iteT ?_
      refine he n (List.mem_of_getElem? e) H' _ s' ⟨_, hD, ?_, fun b o e' => ?_, ?_⟩
      · rw [List.length_map, List.length_map, List.length_take]
        exact Nat.lt_of_le_of_lt (show min k ns.length ≤ 20000 by omega) (by decide)
      · rw [upd_ne (ne_of_none e' nD)]
        exact s' _ _ e'
      · rw [upd_same, List.take_add_one, e, List.map_append, List.map_append]
        rfl
  rintro H1 ⟨s1, hD⟩
  rw [List.length_map, List.take_length] at hD
  exact hd H1 D s1 nD hD
theorem same_v {A B : Prop} {u v : V} (h : u = v) (b : B) : (if (!decide (u = v)) = true then A else B) := by
  rw [decide_eq_true h]
  exact b
theorem ite3' {c : Prop} [Decidable c] {A B : Prop} (h : c) (a : A) : (if decide c = true then A else B) := by rw [decide_eq_true h]; exact a
theorem iten' {c : Prop} [Decidable c] {A B : Prop} (h : ¬ c) (b : B) : (if decide c = true then A else B) := by rw [decide_eq_false h]; exact b
/-- a jump that lies at an address -/
def JumpAt (T : List Int) (p : Nat) (r : Int) (H : Hp) (j : Addr × Nat) : Prop := H j.1 = some (.tup [.int (j.2 : Int), .int (vl T p r j.2)])
def Jumps (T : List Int) (p : Nat) (r : Int) (H : Hp) (J : Addr) (n : Nat) (js : List (Addr × Nat)) : Prop :=
  H J = some (.lst (js.map fun j => V.ref j.1)) ∧ js.length ≤ n ∧ (∀ j ∈ js, JumpAt T p r H j ∧ j.2 < n) ∧ ∀ a, a < n → ∃ j ∈ js, j.2 ≤ a ∧ vl T p r j.2 = vl T p r a
def sp_split_with (_ : PySem.W.Frag) : Sp := fun vs H Q _ => ∃ (d1 d2 : Addr) (T1 T2 : List Int) (p1 p2 n : Nat) (r1 r2 : Int), vs = [.ref d1, .int (n : Int), .ref d2] ∧ RuleAt H d1 T1 p1 r1 ∧ RuleAt H d2 T2 p2 r2 ∧ RuleOk T1 p1 r1 ∧ RuleOk T2 p2 r2 ∧ RS 10000000000000 T1 p1 r1 ∧ RS 10000000000000 T2 p2 r2 ∧ 1 ≤ n ∧ n ≤ 2000 ∧
  ∀ H' d T p r, Same H H' → RuleAt H' d T p r → Short T p r → (∀ x, vl T p r x = cm (vl T1 p1 r1) (vl T2 p2 r2) x (n - 1)) → T.length ≤ n - 1 + T2.length → p ≤ p2 → Q (.ref d) H'
section
variable {P : Program} {w : World} {K : PySem.W.Frag} {mg : Str → Option Value} {base : Heap}
abbrev s_split_with : Stmt := topS 24
abbrev N_split_with : List Str := ["near", "bound", "far", "count", "short", "jumps", "values", "sums", "x", "size", "worth"]
theorem sc_split_with : FnScope N_split_with ["near", "bound", "far"] (defScope s_split_with) := ⟨rfl, rfl, rfl, by decide +kernel, rfl, by decide +kernel, by decide +kernel⟩
theorem ok_split_with (T : Txt mg) (D : Df K mg "split_with" s_split_with ["near", "bound", "far"]) (C_shortest : Cal P w K mg base "shortest" ["table", "period", "rise"] 2 (sp_shortest K)) (C_values_to : Cal P w K mg base "values_to" ["rule", "count"] 1 (sp_values_to K)) : Cal P w K mg base "split_with" ["near", "bound", "far"] 3 (sp_split_with K) := by
  obtain ⟨f_shortest, fd_shortest, G_shortest, m_shortest, k_shortest, b_shortest⟩ := C_shortest
  obtain ⟨f_values_to, fd_values_to, G_values_to, m_values_to, k_values_to, b_values_to⟩ := C_values_to
  refine D.cal sc_split_with (fun vs H Q E h => ?_) (fun f cdv A outer s H vs Q E hr h => ?_)
  · obtain ⟨d1, d2, T1, T2, p1, p2, n, r1, r2, rfl, _⟩ := h
    rfl
  obtain ⟨d1, d2, T1, T2, p1, p2, n, r1, r2, rfl, R1, R2, o1, o2, s1, s2, n0, n1, k⟩ := h
  refine ⟨_, (pss_cons (ps_set (i := 3) sc_split_with.nd rfl (Or.inl rfl) (pe_op op_add (pe_op op_sub (pv 1) pe_int) (pe_callB call_len_seq (by rfl) T.n_len (by decide +kernel) (pa_cons (pe_ix ix_tup (pv 2) pe_int (fun _ _ => rfl)) pa_nil))))
    (pss_cons (ps_set (i := 4) sc_split_with.nd rfl (Or.inr rfl) (pe_call G_values_to (hr.mono (by decide)) (by rfl) m_values_to k_values_to b_values_to .nil pass0 (pa_cons (pv 0) (pa_cons (pv 1) pa_nil))))
    (pss_cut (ps_set (i := 5) sc_split_with.nd rfl (Or.inr rfl) (pe_lc (own := [("x", 8)]) (g := gName 8) (tt := _) rfl sc_split_with.nd (pi_range1 (by rfl) T.n_range (pa_cons (pv 1) pa_nil)) (blkOk_by (own := [("x", 8)]) (N := N_split_with) (sc := defScope s_split_with) (by decide +kernel)) (fun _ _ _ _ _ => pg_name (i := 8) sc_split_with.nd rfl (Or.inl rfl)) (fun _ _ _ _ _ => pts_one (PW.pt (pw_or (pt_cmpR op_eq (pv 8) pe_int (nomark _)) (pw_or1 (pt_cmpR op_gt (pe_ix (show IxR _ (rIxL K) from ix_list) (pv 4) (pv 8) (fun _ _ => rfl)) (pe_ix (show IxR _ (rIxL K) from ix_list) (pv 4) (pe_op op_sub (pv 8) pe_int) (fun _ _ => rfl)) (nomark _)))))) (fun _ _ _ _ _ => (pe_tup (pa_cons (pv 8) (pa_cons (pe_ix (show IxR _ (rIxL K) from ix_list) (pv 4) (pv 8) (fun _ _ => rfl)) pa_nil))))))
    (pss_cons (ps_set (i := 6) sc_split_with.nd rfl (Or.inr rfl) (pe_call G_values_to (hr.mono (by decide)) (by rfl) m_values_to k_values_to b_values_to .nil pass0 (pa_cons (pv 2) (pa_cons (pv 3) pa_nil))))
    (pss_cut (ps_setLc (i := 7) (own := [("x", 8)]) (g := gName 8) (tt := tYes) rfl sc_split_with.nd rfl rfl (sw_true rfl rfl rfl (by decide +kernel)) (pi_range1 (by rfl) T.n_range (pa_cons (pv 3) pa_nil)) (blkOk_by (own := [("x", 8)]) (N := N_split_with) (sc := defScope s_split_with) (by decide +kernel)) (fun _ _ _ _ _ => pg_name (i := 8) sc_split_with.nd rfl (by first | exact Or.inl rfl | exact Or.inr rfl)) (fun _ _ _ _ _ => pts_nil) (fun _ _ _ _ _ => (pe_callB (show CallR _ _ (rMax K) from (cr_max rfl)) (by rfl) T.n_max (by decide +kernel) (pa_cons (pe_lc (own := [("size", 9), ("worth", 10)]) (g := gTup K 2 (gCons (gName 9) (gCons (gName 10) gNil))) (tt := _) rfl sc_split_with.nd (show PI _ _ _ (iList K _) from pi_list (pv 5)) (blkOk_by (own := [("size", 9), ("worth", 10)]) (N := N_split_with) (sc := (Scope.mk .function [(".0", .local), ("x", .cell), ("max", .globalImplicit), ("jumps", .cell), ("values", .cell)] false false [])) (by decide +kernel)) (fun _ _ _ _ _ => pg_tup (by rfl) (pgs_cons (pg_name (i := 9) sc_split_with.nd rfl (Or.inl rfl)) (pgs_cons (pg_name (i := 10) sc_split_with.nd rfl (Or.inl rfl)) pgs_nil))) (fun _ _ _ _ _ => pts_one (pt_cmpR op_le (pv 9) (pv 8) (nomark _))) (fun _ _ _ _ _ => (pe_op op_add (pe_ix (show IxR _ (rIxL K) from ix_list) (pv 6) (pe_op op_sub (pv 8) (pv 9)) (fun _ _ => rfl)) (pv 10)))) pa_nil))))
    (pss_one (ps_ret (pe_call G_shortest (hr.mono (by decide)) (by rfl) m_shortest k_shortest b_shortest .nil pass0 (pa_cons (pv 7) (pa_cons (pe_ix ix_tup (pv 2) pe_int (fun _ _ => rfl)) (pa_cons (pe_ix ix_tup (pv 2) pe_int (fun _ _ => rfl)) pa_nil))))))))))), ?_⟩
  obtain ⟨t2, hd2, ht2⟩ := id R2
  have l2 := s2.len
  have ll2 := len_int T2
  refine ⟨_, rfl, _, _, rfl, rfl, _, rfl, _, _, _, _, rfl, rfl, SqT.of hd2, atI_nat (j := 0) rfl, _, _, rfl, .inr (SqT.of ht2), _, _, rfl, rfl, ?_⟩
  have ec : (n : Int) - 1 + ((T2.map V.int).length : Int) = ((n - 1 + T2.length : Nat) : Int) := by omega
  have rb1 := s1.rb (by decide)
  have rb2 := s2.rb (by decide)
  refine ⟨_, rfl, _, rfl, d1, T1, p1, r1, n, rfl, R1, o1, rb1, by omega, fun H1 U s1' nU' hU => ?_⟩
  -- the jumps
  refine ⟨fun σ H' => ∃ J js, σ = [some (.ref d1), some (.int (n : Int)), some (.ref d2), some (.int ((n - 1 + T2.length : Nat) : Int)), some (.ref U), some (.ref J), none, none, none, none, none] ∧ Same H H' ∧ Jumps T1 p1 r1 H' J n js, ?_, ?_⟩
  · refine ⟨_, rfl, _, rfl, by omega, by omega, fun D nD => ?_⟩
    rw [Int.toNat_natCast]
    refine lc_range (lo := 0) (n := n) (fun j H' => Same H1 H' ∧ ∃ js : List (Addr × Nat), H' D = some (.lst (js.map fun a => V.ref a.1)) ∧ js.length ≤ j ∧ (∀ a ∈ js, JumpAt T1 p1 r1 H' a ∧ a.2 < j) ∧ ∀ a, a < j → ∃ b ∈ js, b.2 ≤ a ∧ vl T1 p1 r1 b.2 = vl T1 p1 r1 a)
      ⟨same_upd nD, [], upd_same, by simp, (fun a h => nomatch h), fun a h => by omega⟩ ?_ ?_
    · rintro j H' hj ⟨s', js, hD, lj, hjs, cov⟩
      rw [Int.zero_add]
      have hU' := s' _ _ hU
      have fin : ∀ q, H' q = none → ∃ acc, upd H' q (.tup [.int (j : Int), .int (vl T1 p1 r1 j)]) D = some (.lst acc) ∧ acc.length < sizeLine ∧ (Same H1 (upd (upd H' q (.tup [.int (j : Int), .int (vl T1 p1 r1 j)])) D (.lst (acc ++ [.ref q]))) ∧ ∃ js : List (Addr × Nat), upd (upd H' q (.tup [.int (j : Int), .int (vl T1 p1 r1 j)])) D (.lst (acc ++ [.ref q])) D = some (.lst (js.map fun a => V.ref a.1)) ∧ js.length ≤ j + 1 ∧ (∀ a ∈ js, JumpAt T1 p1 r1 (upd (upd H' q (.tup [.int (j : Int), .int (vl T1 p1 r1 j)])) D (.lst (acc ++ [.ref q]))) a ∧ a.2 < j + 1) ∧ ∀ a, a < j + 1 → ∃ b ∈ js, b.2 ≤ a ∧ vl T1 p1 r1 b.2 = vl T1 p1 r1 a) := fun q nq => by
        have sq := same_upd (o := .tup [.int (j : Int), .int (vl T1 p1 r1 j)]) nq
        have qD : q ≠ D := fun e => by
          rw [e, hD] at nq
          cases nq
        refine ⟨_, sq _ _ hD, ?_, fun b o e' => ?_, js ++ [(q, j)], ?_, ?_, fun a ha => ?_, fun a ha => ?_⟩
        · rw [List.length_map]
          exact Nat.lt_of_le_of_lt (show js.length ≤ 20000 by omega) (by decide)
        · rw [upd_ne (ne_of_none e' nD)]
          exact sq _ _ (s' _ _ e')
        · rw [upd_same, List.map_append]
          rfl
        · rw [List.length_append]
          show js.length + 1 ≤ j + 1
          omega
        · rcases List.mem_append.mp ha with h | h
          · obtain ⟨z1, z2⟩ := hjs a h
            refine ⟨?_, by omega⟩
            unfold JumpAt at z1 ⊢
            rw [upd_ne (fun e => by rw [e, hD] at z1; cases z1)]
            exact sq _ _ z1
          · rw [List.mem_singleton.mp h]
            refine ⟨?_, by show j < j + 1; omega⟩
            unfold JumpAt
            rw [upd_ne qD]
            exact upd_same
        · by_cases e : a = j
          · exact ⟨(q, j), List.mem_append_right _ (List.mem_singleton.mpr rfl), by show j ≤ a; omega, by rw [e]⟩
          · obtain ⟨b, b1, b2, b3⟩ := cov a (by omega)
            exact ⟨b, List.mem_append_left _ b1, b2, b3⟩
      have e0 : (j : Int) = ((j : Nat) : Int) := rfl
      refine ⟨rfl, ?_⟩
      refine ⟨_, rfl, rfl, _, rfl, ite3 (fun e => ?_) (fun e => ?_)⟩
      · exact iteT ⟨_, rfl, _, rfl, _, rfl, _, _, _, _, rfl, rfl, SqL.of hU', atI_nat (vals_get hj), (by show 2 ≤ sizeLine; decide), fin⟩
      · have j0 : 0 < j := by
          rcases Nat.eq_zero_or_pos j with q | q
          · exact absurd (by rw [q]; rfl) e
          · exact q
        have e1 : (j : Int) - 1 = ((j - 1 : Nat) : Int) := by omega
        refine ⟨_, rfl, _, rfl, _, _, _, _, rfl, rfl, SqL.of hU', atI_nat (vals_get hj), _, rfl, _, rfl, _, _, rfl, rfl, _, _, _, _, rfl, rfl, SqL.of hU', at_of e1 (vals_get (by omega)), _, _, rfl, rfl, _, rfl, ite3 (fun g => ?_) (fun g => ?_)⟩
        · exact ⟨_, rfl, _, rfl, _, rfl, _, _, _, _, rfl, rfl, SqL.of hU', atI_nat (vals_get hj), (by show 2 ≤ sizeLine; decide), fin⟩
        · refine ⟨s', js, hD, by omega, fun a ha => ⟨(hjs a ha).1, by have := (hjs a ha).2; omega⟩, fun a ha => ?_⟩
          by_cases q : a = j
          · obtain ⟨b, b1, b2, b3⟩ := cov (j - 1) (by omega)
            have u := o1.up (j - 1)
            rw [show j - 1 + 1 = j by omega] at u
            exact ⟨b, b1, by omega, by rw [b3, q]; omega⟩
          · exact cov a (by omega)
    rintro H2 ⟨s2', js, hD, lj, hjs, cov⟩
    exact ⟨D, js, by rw [← ec]; rfl, s1'.trans s2', hD, lj, hjs, cov⟩
  rintro σ H2 ⟨J, js, rfl, sH2, hJ, lj, hjs, cov⟩
  refine ⟨_, rfl, _, rfl, d2, T2, p2, r2, n - 1 + T2.length, rfl, R2.same sH2, o2, rb2, by omega, fun H3 W s3 nW hW => ?_⟩
  have hJ := s3 _ _ hJ
  have sH3 := sH2.trans s3
  have hjs : ∀ a ∈ js, JumpAt T1 p1 r1 H3 a ∧ a.2 < n := fun a ha => ⟨s3 _ _ (hjs a ha).1, (hjs a ha).2⟩
  clear s3 sH2 nW
  -- the sums
  refine ⟨fun σ H' => ∃ S, σ = [some (.ref d1), some (.int (n : Int)), some (.ref d2), some (.int ((n - 1 + T2.length : Nat) : Int)), some (.ref U), some (.ref J), some (.ref W), some (.ref S), none, none, none] ∧ Same H H' ∧ H' S = some (.lst (((List.range (n - 1 + T2.length)).map fun x => cm (vl T1 p1 r1) (vl T2 p2 r2) x (n - 1)).map V.int)), ?_, ?_⟩
  · refine ⟨_, rfl, _, rfl, by omega, by omega, fun S nS => ?_⟩
    rw [Int.toNat_natCast]
    refine lc_range (lo := 0) (n := n - 1 + T2.length) (fun j H' => Same H3 H' ∧ H' S = some (.lst (((List.range j).map fun x => cm (vl T1 p1 r1) (vl T2 p2 r2) x (n - 1)).map V.int))) ⟨same_upd nS, upd_same⟩ ?_ ?_
    · rintro j H' hj ⟨s', hS⟩
      rw [Int.zero_add]
      refine ⟨rfl, ?_⟩
      unfold tYes
      refine iteT ?_
      refine ⟨_, rfl, J, rfl, ⟨_, SqL.of (s' _ _ hJ)⟩, fun E nE => ?_⟩
      refine lc_list (K := K) (a := J) (xs := js.map fun a => V.ref a.1) (fun k H'' => Same H' H'' ∧ H'' E = some (.lst ((((js.take k).filter fun a => decide (a.2 ≤ j)).map fun a => vl T2 p2 r2 (j - a.2) + vl T1 p1 r1 a.2).map V.int))) ⟨same_upd nE, upd_same⟩ (fun k H'' _ h => SqL.of (h.1 _ _ (s' _ _ hJ))) ?_ ?_
      · rintro k x H'' hx ⟨s'', hE⟩
        rw [List.getElem?_map] at hx
        cases e : js[k]? with
        | none => rw [e] at hx; cases hx
        | some a =>
          rw [e] at hx
          have ex := (Option.some.inj hx).symm
          subst ex
          have ja : JumpAt T1 p1 r1 H'' a := s'' _ _ (s' _ _ (hjs a (List.mem_of_getElem? e)).1)
          have tk : js.take (k + 1) = js.take k ++ [a] := by rw [List.take_add_one, e]; rfl
          refine ⟨_, _, rfl, SqT.of ja, rfl, _, _, rfl, _, _, rfl, rfl, rfl, ?_⟩
          refine ⟨_, rfl, _, rfl, _, _, rfl, rfl, _, rfl, ite3 (fun le => ?_) (fun gt => ?_)⟩
          · have ee : (j : Int) - (a.2 : Int) = ((j - a.2 : Nat) : Int) := by omega
            refine ⟨_, rfl, _, rfl, _, rfl, _, _, rfl, rfl, _, _, _, _, rfl, rfl, SqL.of (s'' _ _ (s' _ _ hW)), at_of ee (vals_get (by omega)), _, rfl, _, _, rfl, rfl, _, hE, ?_, fun b o e' => ?_, ?_⟩
            · rw [List.length_map, List.length_map]
              refine Nat.lt_of_le_of_lt (Nat.le_trans (List.length_filter_le ..) ?_) (show 20000 < sizeLine by decide)
              rw [List.length_take]
              omega
            · rw [upd_ne (ne_of_none e' nE)]
              exact s'' _ _ e'
            · rw [upd_same, tk, List.filter_append, List.filter_cons_of_pos (by rw [decide_eq_true (show a.2 ≤ j by omega)]), List.map_append, List.map_append]
              rfl
          · refine ⟨s'', ?_⟩
            rw [hE, tk, List.filter_append, List.filter_cons_of_neg (by rw [decide_eq_false (show ¬ a.2 ≤ j by omega)]; exact Bool.false_ne_true), List.filter_nil, List.append_nil]
      rintro H'' ⟨s'', hE⟩
      rw [List.length_map, List.take_length] at hE
      have hit : ∀ a, a < n → a ≤ j → ∃ y ∈ ((js.filter fun a => decide (a.2 ≤ j)).map fun a => vl T2 p2 r2 (j - a.2) + vl T1 p1 r1 a.2), vl T1 p1 r1 a + vl T2 p2 r2 (j - a) ≤ y := fun a a1 a2 => by
        obtain ⟨b, b1, b2, b3⟩ := cov a a1
        refine ⟨_, List.mem_map.mpr ⟨b, List.mem_filter.mpr ⟨b1, decide_eq_true (by omega)⟩, rfl⟩, ?_⟩
        have := o2.le (show j - a ≤ j - b.2 by omega)
        omega
      refine ⟨E, _, rfl, SqL.of hE, ?_, fun m mem top => ?_⟩
      · obtain ⟨y, hy, _⟩ := hit 0 (by omega) (by omega)
        exact List.length_pos_of_mem hy
      have em : m = cm (vl T1 p1 r1) (vl T2 p2 r2) j (n - 1) := by
        refine IsC.one (f := vl T1 p1 r1) (g := vl T2 p2 r2) (n := n - 1 + 1) (x := j) ⟨?_, fun a a1 a2 => ?_⟩ (cm_is _ _ _ _)
        · obtain ⟨a, ha, rfl⟩ := List.mem_map.mp mem
          obtain ⟨h1, h2⟩ := List.mem_filter.mp ha
          exact ⟨a.2, by have := (hjs a h1).2; omega, of_decide_eq_true h2, Int.add_comm _ _⟩
        · obtain ⟨y, hy, hle⟩ := hit a (by omega) a2
          have := top y hy
          omega
      refine ⟨_, s'' _ _ hS, ?_, fun b o e' => ?_, ?_⟩
      · rw [List.length_map, List.length_map, List.length_range]
        exact Nat.lt_of_le_of_lt (show j ≤ 20000 by omega) (by decide)
      · rw [upd_ne (ne_of_none e' nS)]
        exact s'' _ _ (s' _ _ e')
      · rw [upd_same, List.range_succ, List.map_append, List.map_append, em]
        rfl
    rintro H4 ⟨s4, hS⟩
    exact ⟨S, rfl, sH3.trans s4, hS⟩
  rintro σ H4 ⟨S, rfl, sH4, hS⟩
  have h4 := sH4 _ _ hd2
  have pd := cm_pd o1.pd o2.pd (n - 1)
  have l21 := o2.p1
  have eB : n - 1 + T2.length = n - 1 + (T2.length - p2) + p2 := by omega
  rw [eB] at hS
  refine ⟨_, rfl, _, rfl, _, _, _, _, rfl, rfl, SqT.of h4, atI_nat (j := 1) rfl, _, rfl, _, _, _, _, rfl, rfl, SqT.of h4, atI_nat (j := 2) rfl, S, _, p2, r2, rfl, .inl hS, tab_ok (f := fun x => cm (vl T1 p1 r1) (vl T2 p2 r2) x (n - 1)) pd.p0 pd.r0 pd.turn pd.nn pd.up, ⟨by rw [tab_len]; omega, rb2.r1, fun i hi => ?_⟩, fun H' d T p r s' R cut sh hv => ?_⟩
  · rw [tab_len] at hi
    rw [tab_getD (f := fun x => cm (vl T1 p1 r1) (vl T2 p2 r2) x (n - 1)) hi]
    obtain ⟨⟨a, a1, a2, a3⟩, _⟩ := cm_is (vl T1 p1 r1) (vl T2 p2 r2) i (n - 1)
    have v1 := RS.vl o1 s1 (by decide) a
    have v2 := RS.vl o2 s2 (by decide) (i - a)
    omega
  · have cl := cut.len
    rw [tab_len] at cl
    exact k H' d T p r (sH4.trans s') R sh (fun x => by rw [hv, tab_vl (f := fun x => cm (vl T1 p1 r1) (vl T2 p2 r2) x (n - 1)) pd.p0 pd.turn]) (by omega) cut.turn
end
end Sm

set_option Elab.async false
set_option linter.all false
set_option maxRecDepth 100000
set_option maxHeartbeats 16000000
namespace Sm
open PySem PySem.Spec PyProof.Rows L2
open C8 (pss_cut tCut)
/-- a pair of rules that are parted: both turn from the start on, or both are little -/
structure FitX (T1 : List Int) (p1 : Nat) (r1 : Int) (T2 : List Int) (p2 : Nat) (r2 : Int) : Prop where
  o1 : RuleOk T1 p1 r1
  o2 : RuleOk T2 p2 r2
  s1 : RS 10000000000000 T1 p1 r1
  s2 : RS 10000000000000 T2 p2 r2
  few : Nat.lcm p1 p2 + T1.length + T2.length ≤ 2000
  way : (T1.length - p1 = 0 ∧ T2.length - p2 = 0) ∨ (Nat.lcm p1 p2 + T1.length + T2.length ≤ 300 ∧ ∀ x, x ≤ 300 → vl T1 p1 r1 x ≤ 4000000000000 ∧ vl T2 p2 r2 x ≤ 4000000000000)
theorem FitX.swap {T1 : List Int} {p1 : Nat} {r1 : Int} {T2 : List Int} {p2 : Nat} {r2 : Int} (f : FitX T1 p1 r1 T2 p2 r2) : FitX T2 p2 r2 T1 p1 r1 :=
  ⟨f.o2, f.o1, f.s2, f.s1, by have := f.few; rw [Nat.lcm_comm]; omega, by
    rcases f.way with ⟨a, b⟩ | ⟨a, b⟩
    · exact .inl ⟨b, a⟩
    · exact .inr ⟨by rw [Nat.lcm_comm]; omega, fun x hx => ⟨(b x hx).2, (b x hx).1⟩⟩⟩
/-- how great a rule is whose values are told -/
theorem rs_of {T : List Int} {p : Nat} {r B : Int} (o : RuleOk T p r) (l : T.length ≤ 300) (hp : p ≤ 40) (h : ∀ x, x ≤ 300 → vl T p r x ≤ B) : RS B T p r := by
  refine ⟨l, hp, ?_, fun i hi => ?_⟩
  · have a := vl_add o.p0 o.p1 (r := r) (x := T.length - p) (Nat.le_refl _)
    have c := o.p1
    rw [show T.length - p + p = T.length by omega] at a
    have b := o.pos (T.length - p)
    have d := h T.length l
    omega
  · have := h i (by omega)
    rwa [vl_lt hi] at this
theorem cm_topX {f g : Nat → Int} (h : ∀ x, x ≤ 300 → f x ≤ 4000000000000 ∧ g x ≤ 4000000000000) (k x : Nat) (hx : x ≤ 300) : cm f g x k ≤ 10000000000000 := by
  obtain ⟨⟨a, a1, a2, a3⟩, _⟩ := cm_is f g x k
  have v1 := (h a (by omega)).1
  have v2 := (h (x - a) (by omega)).2
  omega
def SplitOf (c : Addr) (f g : Nat → Int) (H : Hp) (Q : VK) (E : XK) : Prop :=
  (∀ H' d T p r, Same H H' → RuleAt H' d T p r → RB T p r → Short T p r → (∀ x, IsC f g (x + 1) x (vl T p r x)) → T.length ≤ 5000 → Q (.ref d) H') ∧
  ∀ n : Nat, 5000 < n → (∀ T p r, Short T p r → (∀ x, IsC f g (x + 1) x (vl T p r x)) → T.length = n) → Lng c (n : Int) H E
def sp_split (c : Addr) : Sp := fun vs H Q E => ∃ (d1 d2 : Addr) (T1 T2 : List Int) (p1 p2 : Nat) (r1 r2 : Int), vs = [.ref d1, .ref d2] ∧ RuleAt H d1 T1 p1 r1 ∧ RuleAt H d2 T2 p2 r2 ∧ FitX T1 p1 r1 T2 p2 r2 ∧ SplitOf c (vl T1 p1 r1) (vl T2 p2 r2) H Q E
section
variable {P : Program} {w : World} {K : PySem.W.Frag} {mg : Str → Option Value} {base : Heap} {cTooLong : Addr}
abbrev s_split_rule : Stmt := topS 23
abbrev N_split_rule : List Str := ["one", "other", "steep", "flat", "bound", "most"]
theorem sc_split_rule : FnScope N_split_rule ["one", "other"] (defScope s_split_rule) := ⟨rfl, rfl, rfl, by decide +kernel, rfl, by decide +kernel, by decide +kernel⟩
theorem ok_split_rule (T : Txt mg) (D : Df K mg "split_rule" s_split_rule ["one", "other"]) (C_best_rule : CalX P w K mg base "best_rule" ["one", "other"] 7 (sp_best cTooLong)) (C_split_with : Cal P w K mg base "split_with" ["near", "bound", "far"] 3 (sp_split_with K)) (C_begin_of : Cal P w K mg base "begin_of" ["rule"] 1 (sp_begin_of K)) (C_told : CalX P w K mg base "told" ["table", "period", "rise"] 4 (sp_toldX cTooLong)) (C_common_turn : Cal P w K mg base "common_turn" ["one", "other"] 2 (sp_common_turn K)) : CalX P w K mg base "split_rule" ["one", "other"] 8 (sp_split cTooLong) := by
  obtain ⟨f_best_rule, fd_best_rule, G_best_rule, m_best_rule, k_best_rule, b_best_rule⟩ := C_best_rule
  obtain ⟨f_split_with, fd_split_with, G_split_with, m_split_with, k_split_with, b_split_with⟩ := C_split_with
  obtain ⟨f_begin_of, fd_begin_of, G_begin_of, m_begin_of, k_begin_of, b_begin_of⟩ := C_begin_of
  obtain ⟨f_told, fd_told, G_told, m_told, k_told, b_told⟩ := C_told
  obtain ⟨f_common_turn, fd_common_turn, G_common_turn, m_common_turn, k_common_turn, b_common_turn⟩ := C_common_turn
  obtain ⟨f, fd, F, m, b⟩ := D
  refine ⟨f, fd, F.okX sc_split_rule (fun vs H Q E h => ?_) (fun cdv A outer s H vs Q E hr h => ?_), m, F.kp, b⟩
  · obtain ⟨d1, d2, _, _, _, _, _, _, rfl, _⟩ := h
    rfl
  obtain ⟨d1, d2, T1, T2, p1, p2, r1, r2, rfl, R1, R2, ft, kq, ke⟩ := h
  refine ⟨_, (pss_cons (ps_par (i := 2) (j := 3) (by rfl) sc_split_rule.nd rfl rfl (by decide) rfl rfl (pa_cons (pv 0) (pa_cons (pv 1) pa_nil)) (by rfl))
    (pss_cut (ps_if (pt_cmpR op_lt (pe_op op_mul (pe_ix ix_tup (pv 0) pe_int (fun _ _ => rfl)) (pe_ix ix_tup (pv 1) pe_int (fun _ _ => rfl))) (pe_op op_mul (pe_ix ix_tup (pv 1) pe_int (fun _ _ => rfl)) (pe_ix ix_tup (pv 0) pe_int (fun _ _ => rfl))) (nomark _)) (pss_one (ps_par (i := 2) (j := 3) (by rfl) sc_split_rule.nd rfl rfl (by decide) rfl rfl (pa_cons (pv 1) (pa_cons (pv 0) pa_nil)) (by rfl))) pss_nil)
    (pss_cons (ps_set (i := 4) sc_split_rule.nd rfl (Or.inl rfl) (pe_op op_add (pe_call G_begin_of (hr.mono (by decide)) (by rfl) m_begin_of k_begin_of b_begin_of .nil pass0 (pa_cons (pv 3) pa_nil)) (pe_ix ix_tup (pe_call G_common_turn (hr.mono (by decide)) (by rfl) m_common_turn k_common_turn b_common_turn .nil pass0 (pa_cons (pv 0) (pa_cons (pv 1) pa_nil))) pe_int (fun _ _ => rfl))))
    (pss_cons (ps_set (i := 5) sc_split_rule.nd rfl (Or.inl rfl) (pe_call G_split_with (hr.mono (by decide)) (by rfl) m_split_with k_split_with b_split_with .nil pass0 (pa_cons (pv 3) (pa_cons (pv 4) (pa_cons (pv 2) pa_nil)))))
    (pss_cons (ps_if (pt_cmpR op_eq (pe_call G_begin_of (hr.mono (by decide)) (by rfl) m_begin_of k_begin_of b_begin_of .nil pass0 (pa_cons (pv 2) pa_nil)) pe_int (nomark _)) (pss_one (ps_ret (pe_callS G_told (hr.mono (by decide)) rfl m_told k_told b_told (fun σ => passAt (takes_of rfl rfl rfl rfl) σ) (pa_cons (pe_ix ix_tup (pv 5) pe_int (fun _ _ => rfl)) (pa_cons (pe_ix ix_tup (pv 5) pe_int (fun _ _ => rfl)) (pa_cons (pe_ix ix_tup (pv 5) pe_int (fun _ _ => rfl)) pa_nil)))))) pss_nil)
    (pss_one (ps_ret (pe_callS G_best_rule (hr.mono (by decide)) rfl m_best_rule k_best_rule b_best_rule (fun σ => passAt (takes_of rfl rfl rfl rfl) σ) (pa_cons (pe_call G_split_with (hr.mono (by decide)) (by rfl) m_split_with k_split_with b_split_with .nil pass0 (pa_cons (pv 2) (pa_cons (pe_call G_begin_of (hr.mono (by decide)) (by rfl) m_begin_of k_begin_of b_begin_of .nil pass0 (pa_cons (pv 2) pa_nil)) (pa_cons (pv 3) pa_nil)))) (pa_cons (pv 5) pa_nil)))))))))), ?_⟩
  obtain ⟨t1, hd1, ht1⟩ := id R1
  obtain ⟨t2, hd2, ht2⟩ := id R2
  refine ⟨_, rfl, _, rfl, _, _, rfl, ?_⟩
  refine ⟨fun σ H' => ∃ (ds df : Addr) (Ts Tf : List Int) (ps pf : Nat) (rs rf : Int), σ = [some (.ref d1), some (.ref d2), some (.ref ds), some (.ref df), none, none] ∧ H' = H ∧ RuleAt H ds Ts ps rs ∧ RuleAt H df Tf pf rf ∧ rf * (ps : Int) ≤ rs * (pf : Int) ∧ FitX Tf pf rf Ts ps rs ∧ Nat.lcm p1 p2 = Nat.lcm pf ps ∧ ∀ x v, IsC (vl Tf pf rf) (vl Ts ps rs) (x + 1) x v → IsC (vl T1 p1 r1) (vl T2 p2 r2) (x + 1) x v, ?_, ?_⟩
  · refine ⟨_, rfl, _, _, _, _, rfl, rfl, SqT.of hd1, atI_nat (j := 2) rfl, _, rfl, _, _, _, _, rfl, rfl, SqT.of hd2, atI_nat (j := 1) rfl, _, _, rfl, rfl, ?_⟩
    have a0 := ft.o1.r0
    have a1 := ft.s1.r1
    have b0 := ft.o2.r0
    have b1 := ft.s2.r1
    have q1 := ft.s1.turn
    have q2 := ft.s2.turn
    refine ⟨.inl ⟨by omega, by omega⟩, _, rfl, _, _, _, _, rfl, rfl, SqT.of hd2, atI_nat (j := 2) rfl, _, rfl, _, _, _, _, rfl, rfl, SqT.of hd1, atI_nat (j := 1) rfl, _, _, rfl, rfl, .inl ⟨by omega, by omega⟩, _, _, rfl, rfl, _, rfl, ite3 (fun e => ?_) (fun e => ?_)⟩
    · exact ⟨_, rfl, _, rfl, _, _, rfl, d2, d1, T2, T1, p2, p1, r2, r1, rfl, rfl, R2, R1, by omega, ft, rfl, fun x v h => h⟩
    · exact ⟨d1, d2, T1, T2, p1, p2, r1, r2, rfl, rfl, R1, R2, by omega, ft.swap, Nat.lcm_comm _ _, fun x v h => h.swap⟩
  rintro σ H' ⟨ds, df, Ts, Tf, ps, pf, rs, rf, rfl, rfl, Rs, Rf, sl, ft', lc, conv⟩
  have of := ft'.o1
  have os := ft'.o2
  have sf := ft'.s1
  have ss := ft'.s2
  have f0 := of.p0
  have f1 := of.p1
  have z0 := os.p0
  have z1 := os.p1
  have qf := sf.turn
  have qs := ss.turn
  have L0 : 0 < Nat.lcm pf ps := Nat.lcm_pos f0 z0
  have df1 : pf ∣ Nat.lcm pf ps := Nat.dvd_lcm_left _ _
  have ds1 : ps ∣ Nat.lcm pf ps := Nat.dvd_lcm_right _ _
  have few := ft'.few
  have way := ft'.way
  obtain ⟨F, S, FS, tf, ts⟩ := turns of.pd os.pd df1 ds1 sl
  have ia := split_all L0 FS tf ts
  have ib := split_both L0 FS tf ts
  refine ⟨_, rfl, df, Tf, pf, rf, rfl, Rf, f1, _, rfl, _, rfl, d1, d2, T1, T2, p1, p2, r1, r2, rfl, R1, R2, ft.o1.p1, ft.o2.p1, ft.s1.turn, ft.s2.turn, fun H1 q s1 hq => ?_⟩
  rw [lc] at hq
  refine ⟨_, _, _, _, rfl, rfl, SqT.of hq, atI_nat (j := 1) rfl, _, _, rfl, rfl, ?_⟩
  generalize Nat.lcm pf ps = L at L0 df1 ds1 few way tf ts ia ib hq ⊢
  have eL : ((Tf.length - pf : Nat) : Int) + (L : Int) = ((Tf.length - pf + L : Nat) : Int) := by omega
  refine ⟨_, rfl, _, rfl, _, rfl, df, ds, Tf, Ts, pf, ps, Tf.length - pf + L, rf, rs, by rw [← eL]; rfl, Rf.same s1, Rs.same s1, of, os, sf, ss, by omega, by omega, fun H2 dm Tm pm rm s2 Rm sm hm lm qm => ?_⟩
  have Rs2 := (Rs.same s1).same s2
  have Rf2 := (Rf.same s1).same s2
  have rbm : RB Tm pm rm := by
    have o := sm.ok
    have top : ∀ x, x ≤ 3000 → vl Tm pm rm x ≤ 100000000000000000 := fun x hx => by
      rw [hm]
      obtain ⟨⟨a, a1, a2, a3⟩, _⟩ := cm_is (vl Tf pf rf) (vl Ts ps rs) x (Tf.length - pf + L - 1)
      have v1 := RS.vl of sf (by decide) a
      have v2 := RS.vl os ss (by decide) (x - a)
      omega
    refine ⟨by omega, ?_, fun i hi => ?_⟩
    · have a := vl_add o.p0 o.p1 (r := rm) (x := Tm.length - pm) (Nat.le_refl _)
      have c := o.p1
      rw [show Tm.length - pm + pm = Tm.length by omega] at a
      have b := o.pos (Tm.length - pm)
      have d := top Tm.length (by omega)
      omega
    · have := top i (by omega)
      rw [vl_lt hi] at this
      omega
  obtain ⟨tm, hdm, htm⟩ := id Rm
  refine ⟨_, rfl, ds, Ts, ps, rs, rfl, Rs2, z1, rfl, _, rfl, ite3 (fun e => ?_) (fun e => ?_)⟩
  · have z : Ts.length - ps = 0 := by have := V.int.inj e; omega
    refine ⟨_, rfl, _, _, _, _, rfl, rfl, SqT.of hdm, atI_nat (j := 0) rfl, _, rfl, _, _, _, _, rfl, rfl, SqT.of hdm, atI_nat (j := 1) rfl, _, rfl, _, _, _, _, rfl, rfl, SqT.of hdm, atI_nat (j := 2) rfl, tm, Tm, pm, rm, rfl, .inr htm, sm.ok, rbm, fun H3 d T p r s3 R c sh hv => ⟨fun _ => ?_, fun l => by have := c.len; omega⟩⟩
    refine kq H3 d T p r (s1.trans (s2.trans s3)) R (c.rb rbm) sh (fun x => conv x _ ?_) (by have := c.len; omega)
    rw [hv, hm]
    exact ia z x
  · have z : 0 < Ts.length - ps := by
      rcases Nat.eq_zero_or_pos (Ts.length - ps) with q | q
      · exact absurd (by rw [q]; rfl) e
      · exact q
    rcases way with ⟨_, z2⟩ | ⟨few2, top2⟩
    · omega
    have top3 : ∀ x, x ≤ 300 → vl Ts ps rs x ≤ 4000000000000 ∧ vl Tf pf rf x ≤ 4000000000000 := fun x hx => ⟨(top2 x hx).2, (top2 x hx).1⟩
    have b1 : RS 10000000000000 Tm pm rm := rs_of sm.ok (by omega) (by omega) (fun x hx => by rw [hm]; exact cm_topX top2 _ x hx)
    refine ⟨_, rfl, _, rfl, ds, Ts, ps, rs, rfl, Rs2, z1, _, rfl, ds, df, Ts, Tf, ps, pf, Ts.length - ps, rs, rf, rfl, Rs2, Rf2, os, of, ss, sf, by omega, by omega, fun H3 dn Tn pn rn s3 Rn sn hn ln qn => ?_⟩
    have b2 : RS 10000000000000 Tn pn rn := rs_of sn.ok (by omega) (by omega) (fun x hx => by rw [hn]; exact cm_topX top3 _ x hx)
    refine ⟨_, rfl, dn, dm, Tn, Tm, pn, pm, rn, rm, rfl, Rn, Rm.same s3, sn, sm, b2, b1, fun H4 d T p r s4 R rb sh hv l5 => ?_, fun n hn5 h H4 s4 H5 d s5 hd => ?_⟩
    · refine kq H4 d T p r (s1.trans (s2.trans (s3.trans s4))) R rb sh (fun x => conv x _ ?_) l5
      rw [hv, hn, hm]
      exact ib z x
    · exact ke n hn5 (fun T p r sh isC => h T p r sh fun x => by
        rw [hn, hm]
        exact (isC x).one (conv x _ (ib z x))) H5 d (s1.trans (s2.trans (s3.trans (s4.trans s5)))) hd
end
end Sm

set_option Elab.async false
set_option linter.all false
set_option maxRecDepth 100000
set_option maxHeartbeats 16000000
namespace Sm
open PySem PySem.Spec PyProof.Rows L2
open C8 (pss_cut tCut)
/-- the law's own word of the best partings -/
def DueC (H : Hp) (q : Addr) (f g : Nat → Int) : Prop :=
  (∃ (T : List Int) (p : Nat) (r : Int), Short T p r ∧ (∀ x, IsC f g (x + 1) x (vl T p r x)) ∧ RB T p r ∧ T.length ≤ 5000 ∧ RuleAt H q T p r) ∨
  ∃ n : Nat, 5000 < n ∧ (∀ T p r, Short T p r → (∀ x, IsC f g (x + 1) x (vl T p r x)) → T.length = n) ∧ H q = some (.lst [.str "long", .int (n : Int)])
theorem DueC.swap {H : Hp} {q : Addr} {f g : Nat → Int} (d : DueC H q f g) : DueC H q g f := by
  rcases d with ⟨T, p, r, a, b, c⟩ | ⟨n, a, b, c⟩
  · exact .inl ⟨T, p, r, a, fun x => (b x).swap, c⟩
  · exact .inr ⟨n, a, fun T p r s h => b T p r s fun x => (h x).swap, c⟩
theorem DueAt.conv {H : Hp} {q : Addr} {T1 T2 : List Int} {p1 p2 : Nat} {r1 r2 : Int} {f g : Nat → Int} (d : DueAt H q T1 p1 r1 T2 p2 r2) (h : ∀ x, IsC f g (x + 1) x (max (vl T1 p1 r1 x) (vl T2 p2 r2 x))) : DueC H q f g := by
  rcases d with ⟨T, p, r, s, hv, rest⟩ | ⟨n, l, hn, e⟩
  · exact .inl ⟨T, p, r, s, fun x => by rw [hv]; exact h x, rest⟩
  · exact .inr ⟨n, l, fun T p r s c => hn T p r s fun x => (c x).one (h x), e⟩
def sp_l_shared (_ : PySem.W.Frag) : Sp := fun vs H Q _ => ∃ (d1 d2 : Addr) (T1 T2 : List Int) (p1 p2 n : Nat) (r1 r2 : Int), vs = [.ref d1, .ref d2, .int (n : Int)] ∧ RuleAt H d1 T1 p1 r1 ∧ RuleAt H d2 T2 p2 r2 ∧ RuleOk T1 p1 r1 ∧ RuleOk T2 p2 r2 ∧ RS 10000000000000 T1 p1 r1 ∧ RS 10000000000000 T2 p2 r2 ∧ 1 ≤ n ∧ n ≤ 600 ∧
  ∀ H' d T p r, Same H H' → RuleAt H' d T p r → Short T p r → (∀ x, vl T p r x = cm (vl T2 p2 r2) (vl T1 p1 r1) x (n - 1)) → T.length ≤ n + T1.length → p ≤ p1 → Q (.ref d) H'
def sp_l_split (_ : PySem.W.Frag) : Sp := fun vs H Q _ => ∃ (d1 d2 : Addr) (T1 T2 : List Int) (p1 p2 : Nat) (r1 r2 : Int), vs = [.ref d1, .ref d2] ∧ RuleAt H d1 T1 p1 r1 ∧ RuleAt H d2 T2 p2 r2 ∧ RuleOk T1 p1 r1 ∧ RuleOk T2 p2 r2 ∧ RS 10000000000000 T1 p1 r1 ∧ RS 10000000000000 T2 p2 r2 ∧ p1 * p2 + T1.length + T2.length ≤ 300 ∧ (∀ x, x ≤ 300 → vl T1 p1 r1 x ≤ 4000000000000 ∧ vl T2 p2 r2 x ≤ 4000000000000) ∧
  ∀ H' q, Same H H' → DueC H' q (vl T1 p1 r1) (vl T2 p2 r2) → Q (.ref q) H'
section
variable {P : Program} {w : World} {K : PySem.W.Frag} {mg : Str → Option Value} {base : Heap}
abbrev s_l_shared : Stmt := topS 36
abbrev N_l_shared : List Str := ["_law_long_one", "_law_other", "_law_below", "_law_table", "_law_x", "_law_size", "_law_sums", "_law_part"]
theorem sc_l_shared : FnScope N_l_shared ["_law_long_one", "_law_other", "_law_below"] (defScope s_l_shared) := ⟨rfl, rfl, rfl, by decide +kernel, rfl, by decide +kernel, by decide +kernel⟩
theorem ok_l_shared (T : Txt mg) (D : Df K mg "_law_shared" s_l_shared ["_law_long_one", "_law_other", "_law_below"]) (C_l_least : Cal P w K mg base "_law_least" ["_law_rule_here"] 3 (sp_l_least K)) (C_l_value : Cal P w K mg base "_law_value" ["_law_rule_here", "_law_x"] 1 (sp_l_value K)) : Cal P w K mg base "_law_shared" ["_law_long_one", "_law_other", "_law_below"] 4 (sp_l_shared K) := by
  obtain ⟨f_l_least, fd_l_least, G_l_least, m_l_least, k_l_least, b_l_least⟩ := C_l_least
  obtain ⟨f_l_value, fd_l_value, G_l_value, m_l_value, k_l_value, b_l_value⟩ := C_l_value
  refine D.cal sc_l_shared (fun vs H Q E h => ?_) (fun f cdv A outer s H vs Q E hr h => ?_)
  · obtain ⟨d1, d2, T1, T2, p1, p2, n, r1, r2, rfl, _⟩ := h
    rfl
  obtain ⟨d1, d2, T1, T2, p1, p2, n, r1, r2, rfl, R1, R2, o1, o2, s1, s2, n0, n1, k⟩ := h
  refine ⟨_, (pss_cons (ps_set (i := 3) sc_l_shared.nd rfl (Or.inl rfl) (pe_lst pa_nil))
    (pss_cons (ps_for PassesOwn.never rfl (pi_range1 (by rfl) T.n_range (pa_cons (pe_op op_add (pe_callB call_len_seq (by rfl) T.n_len (by decide +kernel) (pa_cons (pe_ix ix_tup (pv 0) pe_int (fun _ _ => rfl)) pa_nil)) (pv 2)) pa_nil)) (pg_name (i := 4) sc_l_shared.nd rfl (Or.inr rfl))
      (pss_cut (ps_set (i := 5) sc_l_shared.nd rfl (Or.inl rfl) (pe_callB (call_min2 rfl) (by rfl) T.n_min (by decide +kernel) (pa_cons (pv 2) (pa_cons (pe_op op_add (pv 4) pe_int) pa_nil))))
    (pss_cons (ps_setLc (i := 6) (own := [("_law_part", 7)]) (g := gName 7) (tt := tYes) rfl sc_l_shared.nd rfl rfl (sw_true rfl rfl rfl (by decide +kernel)) (pi_range1 (by rfl) T.n_range (pa_cons (pv 5) pa_nil)) (blkOk_by (own := [("_law_part", 7)]) (N := N_l_shared) (sc := defScope s_l_shared) (by decide +kernel)) (fun _ _ _ _ _ => pg_name (i := 7) sc_l_shared.nd rfl (Or.inl rfl)) (fun _ _ _ _ _ => pts_nil) (fun _ _ _ _ _ => (pe_op op_add (pe_call G_l_value (hr.mono (by decide)) (by rfl) m_l_value k_l_value b_l_value .nil pass0 (pa_cons (pv 0) (pa_cons (pe_op op_sub (pv 4) (pv 7)) pa_nil))) (pe_call G_l_value (hr.mono (by decide)) (by rfl) m_l_value k_l_value b_l_value .nil pass0 (pa_cons (pv 1) (pa_cons (pv 7) pa_nil))))))
    (pss_one (ps_expr (pe_bm PySem.F.plainAttrs_list PySem.F.slot_list_append PySem.F.type_list_append mt_append (pv 3) (pa_cons (pe_callB (cr_max rfl) (by rfl) T.n_max (by decide +kernel) (pa_cons (pv 6) pa_nil)) pa_nil)))))))
    (pss_one (ps_ret (pe_call G_l_least (hr.mono (by decide)) (by rfl) m_l_least k_l_least b_l_least .nil pass0 (pa_cons (pe_tup (pa_cons (pe_callTy call_tuple_of (by rfl) T.n_tuple (by decide +kernel) (pa_cons (pv 3) pa_nil)) (pa_cons (pe_ix ix_tup (pv 0) pe_int (fun _ _ => rfl)) (pa_cons (pe_ix ix_tup (pv 0) pe_int (fun _ _ => rfl)) pa_nil)))) pa_nil)))))), ?_⟩
  obtain ⟨t1, hd1, ht1⟩ := id R1
  have l1 := s1.len
  have ll1 := len_int T1
  have b1 := s1.rb (by decide)
  have b2 := s2.rb (by decide)
  have pp0 := o1.p0
  have pp1 := o1.p1
  refine ⟨(by show 0 ≤ sizeLine; decide), fun L nL => ?_⟩
  have sL := same_upd (o := .lst []) nL
  refine ⟨_, rfl, _, _, _, _, rfl, rfl, SqT.of (sL _ _ hd1), atI_nat (j := 0) rfl, _, _, rfl, .inr (SqT.of (sL _ _ ht1)), _, rfl, _, _, rfl, rfl, _, rfl, by omega, by omega, ?_⟩
  refine for_range (lo := 0) (n := _) (fun j σ H' => ∃ (v4 v5 v6 : Option V), σ = [some (.ref d1), some (.ref d2), some (.int (n : Int)), some (.ref L), v4, v5, v6, none] ∧ Same H H' ∧ H' L = some (.lst (((List.range j).map fun x => cm (vl T2 p2 r2) (vl T1 p1 r1) x (n - 1)).map V.int)))
    ⟨none, none, none, rfl, sL, upd_same⟩ ?_ ?_
  · rintro j σ H' hj ⟨v4, v5, v6, rfl, s', hL⟩
    rw [ll1] at hj
    have hj : j < T1.length + n := by omega
    refine ⟨fun σ H'' => H'' = H' ∧ σ = [some (.ref d1), some (.ref d2), some (.int (n : Int)), some (.ref L), some (.int (0 + (j : Int))), some (.int ((min n (j + 1) : Nat) : Int)), v6, none], ?_, ?_⟩
    · refine ⟨_, rfl, _, rfl, _, _, rfl, rfl, _, _, rfl, rfl, ?_⟩
      have e : (if (0 : Int) + (j : Int) + 1 < (n : Int) then (0 : Int) + (j : Int) + 1 else (n : Int)) = ((min n (j + 1) : Nat) : Int) := by
        split <;> omega
      rw [← e]
      rfl
    rintro σ H'' ⟨rfl, rfl⟩
    refine ⟨_, rfl, _, rfl, by omega, by omega, fun E nE => ?_⟩
    rw [Int.toNat_natCast]
    refine lc_range (lo := 0) (n := min n (j + 1)) (fun i H2 => Same H'' H2 ∧ H2 E = some (.lst (((List.range i).map fun a => vl T1 p1 r1 (j - a) + vl T2 p2 r2 a).map V.int))) ⟨same_upd nE, upd_same⟩ ?_ ?_
    · rintro i H2 hi ⟨s2', hE⟩
      rw [Int.zero_add]
      refine ⟨rfl, ?_⟩
      unfold tYes
      refine iteT ?_
      have ee : (0 : Int) + (j : Int) - (i : Int) = ((j - i : Nat) : Int) := by omega
      refine ⟨_, rfl, _, rfl, _, rfl, _, _, rfl, rfl, d1, T1, p1, r1, j - i, by rw [← ee]; rfl, (R1.same s').same s2', o1, b1, _, rfl, _, rfl, d2, T2, p2, r2, i, rfl, (R2.same s').same s2', o2, b2, _, _, rfl, rfl, _, hE, ?_, fun b o e' => ?_, ?_⟩
      · rw [List.length_map, List.length_map, List.length_range]
        exact Nat.lt_of_le_of_lt (show i ≤ 20000 by omega) (by decide)
      · rw [upd_ne (ne_of_none e' nE)]
        exact s2' _ _ e'
      · rw [upd_same, List.range_succ, List.map_append, List.map_append]
        rfl
    rintro H2 ⟨s2', hE⟩
    have hL2 := s2' _ _ hL
    refine ⟨_, rfl, .inl ⟨rfl, _, SqL.of hL2⟩, ?_⟩
    refine ⟨_, rfl, E, _, rfl, SqL.of hE, by rw [List.length_map, List.length_range]; omega, fun m mem top => ?_⟩
    have em : m = cm (vl T2 p2 r2) (vl T1 p1 r1) j (n - 1) := by
      refine IsC.one (f := vl T2 p2 r2) (g := vl T1 p1 r1) (n := n - 1 + 1) (x := j) ⟨?_, fun a a1 a2 => ?_⟩ (cm_is _ _ _ _)
      · obtain ⟨a, ha, rfl⟩ := List.mem_map.mp mem
        have := List.mem_range.mp ha
        exact ⟨a, by omega, by omega, Int.add_comm _ _⟩
      · have := top _ (List.mem_map.mpr ⟨a, List.mem_range.mpr (by omega), rfl⟩)
        omega
    refine ⟨L, _, _, rfl, rfl, hL2, ?_, _, _, _, rfl, fun b o e' => ?_, ?_⟩
    · rw [List.length_map, List.length_map, List.length_range]
      exact Nat.lt_of_le_of_lt (show j ≤ 20000 by omega) (by decide)
    · rw [upd_ne (ne_of_none e' nL)]
      exact s2' _ _ (s' _ _ e')
    · rw [upd_same, List.range_succ, List.map_append, List.map_append, em]
      rfl
  · rintro σ H' ⟨v4, v5, v6, rfl, s', hL⟩
    have ec : ((((T1.map V.int).length : Nat) : Int) + (n : Int)).toNat = n + (T1.length - p1) + p1 := by omega
    have pd := cm_pd o2.pd o1.pd (n - 1)
    have turn : ∀ x, n + (T1.length - p1) ≤ x → cm (vl T2 p2 r2) (vl T1 p1 r1) (x + p1) (n - 1) = cm (vl T2 p2 r2) (vl T1 p1 r1) x (n - 1) + r1 := fun x hx => pd.turn x (by omega)
    rw [ec] at hL
    refine ⟨_, rfl, L, _, rfl, .inl ⟨SqL.of hL, fun t nt => ?_⟩⟩
    have st := same_upd (o := .tup (((List.range (n + (T1.length - p1) + p1)).map fun x => cm (vl T2 p2 r2) (vl T1 p1 r1) x (n - 1)).map V.int)) nt
    refine ⟨_, rfl, _, _, _, _, rfl, rfl, SqT.of (st _ _ (s' _ _ hd1)), atI_nat (j := 1) rfl, _, rfl, _, _, _, _, rfl, rfl, SqT.of (st _ _ (s' _ _ hd1)), atI_nat (j := 2) rfl, (by show 3 ≤ sizeLine; decide), fun q nq => ?_⟩
    have sq := same_upd (o := .tup [.ref t, .int (p1 : Int), .int r1]) nq
    refine ⟨q, _, p1, r1, rfl, ⟨t, upd_same, sq _ _ upd_same⟩, tab_ok (f := fun x => cm (vl T2 p2 r2) (vl T1 p1 r1) x (n - 1)) pp0 o1.r0 turn pd.nn pd.up, ⟨by rw [tab_len]; omega, b1.r1, fun i hi => ?_⟩, fun H3 d T p r s3 R cut sh hv => ?_⟩
    · rw [tab_len] at hi
      rw [tab_getD (f := fun x => cm (vl T2 p2 r2) (vl T1 p1 r1) x (n - 1)) hi]
      obtain ⟨⟨a, a1, a2, a3⟩, _⟩ := cm_is (vl T2 p2 r2) (vl T1 p1 r1) i (n - 1)
      have v1 := RS.vl o2 s2 (by decide) a
      have v2 := RS.vl o1 s1 (by decide) (i - a)
      omega
    · have cl := cut.len
      rw [tab_len] at cl
      exact k H3 d T p r (s'.trans (st.trans (sq.trans s3))) R sh (fun x => by rw [hv, tab_vl (f := fun x => cm (vl T2 p2 r2) (vl T1 p1 r1) x (n - 1)) pp0 turn]) (by omega) cut.turn
abbrev s_l_split : Stmt := topS 37
abbrev N_l_split : List Str := ["_law_one_here", "_law_other", "_law_more", "_law_less", "_law_first"]
theorem sc_l_split : FnScope N_l_split ["_law_one_here", "_law_other"] (defScope s_l_split) := ⟨rfl, rfl, rfl, by decide +kernel, rfl, by decide +kernel, by decide +kernel⟩
theorem ok_l_split (T : Txt mg) (D : Df K mg "_law_split" s_l_split ["_law_one_here", "_law_other"]) (C_l_best : Cal P w K mg base "_law_best" ["_law_one_here", "_law_other"] 4 (sp_l_best K)) (C_l_shared : Cal P w K mg base "_law_shared" ["_law_long_one", "_law_other", "_law_below"] 4 (sp_l_shared K)) : Cal P w K mg base "_law_split" ["_law_one_here", "_law_other"] 5 (sp_l_split K) := by
  obtain ⟨f_l_best, fd_l_best, G_l_best, m_l_best, k_l_best, b_l_best⟩ := C_l_best
  obtain ⟨f_l_shared, fd_l_shared, G_l_shared, m_l_shared, k_l_shared, b_l_shared⟩ := C_l_shared
  refine D.cal sc_l_split (fun vs H Q E h => ?_) (fun f cdv A outer s H vs Q E hr h => ?_)
  · obtain ⟨d1, d2, T1, T2, p1, p2, r1, r2, rfl, _⟩ := h
    rfl
  obtain ⟨d1, d2, T1, T2, p1, p2, r1, r2, rfl, R1, R2, o1, o2, s1, s2, few, top, k⟩ := h
  refine ⟨_, (pss_cons (ps_par (i := 2) (j := 3) (by rfl) sc_l_split.nd rfl rfl (by decide) rfl rfl (pa_cons (pv 0) (pa_cons (pv 1) pa_nil)) (by rfl))
    (pss_cut (ps_if (pt_cmpR op_lt (pe_op op_mul (pe_ix ix_tup (pv 0) pe_int (fun _ _ => rfl)) (pe_ix ix_tup (pv 1) pe_int (fun _ _ => rfl))) (pe_op op_mul (pe_ix ix_tup (pv 1) pe_int (fun _ _ => rfl)) (pe_ix ix_tup (pv 0) pe_int (fun _ _ => rfl))) (nomark _)) (pss_one (ps_par (i := 2) (j := 3) (by rfl) sc_l_split.nd rfl rfl (by decide) rfl rfl (pa_cons (pv 1) (pa_cons (pv 0) pa_nil)) (by rfl))) pss_nil)
    (pss_cons (ps_set (i := 4) sc_l_split.nd rfl (Or.inl rfl) (pe_call G_l_shared (hr.mono (by decide)) (by rfl) m_l_shared k_l_shared b_l_shared .nil pass0 (pa_cons (pv 2) (pa_cons (pv 3) (pa_cons (pe_op op_add (pe_callB call_len_seq (by rfl) T.n_len (by decide +kernel) (pa_cons (pe_ix ix_tup (pv 3) pe_int (fun _ _ => rfl)) pa_nil)) (pe_op op_mul (pe_ix ix_tup (pv 2) pe_int (fun _ _ => rfl)) (pe_ix ix_tup (pv 3) pe_int (fun _ _ => rfl)))) pa_nil)))))
    (pss_one (ps_ret (pe_call G_l_best (hr.mono (by decide)) (by rfl) m_l_best k_l_best b_l_best .nil pass0 (pa_cons (pv 4) (pa_cons (pe_call G_l_shared (hr.mono (by decide)) (by rfl) m_l_shared k_l_shared b_l_shared .nil pass0 (pa_cons (pv 3) (pa_cons (pv 2) (pa_cons (pe_callB call_len_seq (by rfl) T.n_len (by decide +kernel) (pa_cons (pe_ix ix_tup (pv 2) pe_int (fun _ _ => rfl)) pa_nil)) pa_nil)))) pa_nil)))))))), ?_⟩
  obtain ⟨t1, hd1, ht1⟩ := id R1
  obtain ⟨t2, hd2, ht2⟩ := id R2
  have x1 := s1.turn
  have x2 := s2.turn
  refine ⟨_, rfl, _, rfl, _, _, rfl, ?_⟩
  refine ⟨fun σ H' => ∃ (dm dl : Addr) (Tm Tl : List Int) (pm pl : Nat) (rm rl : Int), σ = [some (.ref d1), some (.ref d2), some (.ref dm), some (.ref dl), none] ∧ H' = H ∧ RuleAt H dm Tm pm rm ∧ RuleAt H dl Tl pl rl ∧ rl * (pm : Int) ≤ rm * (pl : Int) ∧ RuleOk Tm pm rm ∧ RuleOk Tl pl rl ∧ RS 10000000000000 Tm pm rm ∧ RS 10000000000000 Tl pl rl ∧ pm * pl + Tm.length + Tl.length ≤ 300 ∧
      (∀ x, x ≤ 300 → vl Tl pl rl x ≤ 4000000000000 ∧ vl Tm pm rm x ≤ 4000000000000) ∧ ∀ H' q, DueC H' q (vl Tl pl rl) (vl Tm pm rm) → DueC H' q (vl T1 p1 r1) (vl T2 p2 r2), ?_, ?_⟩
  · refine ⟨_, rfl, _, _, _, _, rfl, rfl, SqT.of hd1, atI_nat (j := 2) rfl, _, rfl, _, _, _, _, rfl, rfl, SqT.of hd2, atI_nat (j := 1) rfl, _, _, rfl, rfl, .inr ⟨by omega, by omega⟩, _, rfl, _, _, _, _, rfl, rfl, SqT.of hd2, atI_nat (j := 2) rfl, _, rfl, _, _, _, _, rfl, rfl, SqT.of hd1, atI_nat (j := 1) rfl, _, _, rfl, rfl, .inr ⟨by omega, by omega⟩, _, _, rfl, rfl, _, rfl, ite3 (fun e => ?_) (fun e => ?_)⟩
    · exact ⟨_, rfl, _, rfl, _, _, rfl, d2, d1, T2, T1, p2, p1, r2, r1, rfl, rfl, R2, R1, by omega, o2, o1, s2, s1, by rw [Nat.mul_comm]; omega, top, fun _ _ h => h⟩
    · exact ⟨d1, d2, T1, T2, p1, p2, r1, r2, rfl, rfl, R1, R2, by omega, o1, o2, s1, s2, few, fun x hx => ⟨(top x hx).2, (top x hx).1⟩, fun _ _ h => h.swap⟩
  rintro σ H' ⟨dm, dl, Tm, Tl, pm, pl, rm, rl, rfl, rfl, Rm, Rl, sl, om, ol, sm, sll, few, top, conv⟩
  obtain ⟨tm, hdm, htm⟩ := id Rm
  obtain ⟨tl, hdl, htl⟩ := id Rl
  have xm := sm.turn
  have xl := sll.turn
  have lm := sm.len
  have lL := sll.len
  have m0 := om.p0
  have m1 := om.p1
  have z0 := ol.p0
  have z1 := ol.p1
  have L0 : 0 < pm * pl := Nat.mul_pos m0 z0
  have llm := len_int Tm
  have lll := len_int Tl
  obtain ⟨F, S, FS, tf, ts⟩ := turns ol.pd om.pd (Nat.dvd_mul_left pl pm) (Nat.dvd_mul_right pm pl) sl
  have eN : (((Tl.map V.int).length : Nat) : Int) + (pm : Int) * (pl : Int) = ((Tl.length + pm * pl : Nat) : Int) := by
    rw [lll, Int.natCast_add, Int.natCast_mul]
  refine ⟨_, rfl, _, rfl, _, rfl, _, _, _, _, rfl, rfl, SqT.of hdl, atI_nat (j := 0) rfl, _, _, rfl, .inr (SqT.of htl), _, rfl, _, _, _, _, rfl, rfl, SqT.of hdm, atI_nat (j := 1) rfl, _, rfl, _, _, _, _, rfl, rfl, SqT.of hdl, atI_nat (j := 1) rfl, _, _, rfl, rfl, .inr ⟨by omega, by omega⟩, _, _, rfl, rfl, dm, dl, Tm, Tl, pm, pl, Tl.length + pm * pl, rm, rl, by rw [← eN]; rfl, Rm, Rl, om, ol, sm, sll, by omega, by omega, fun H1 da Ta pa ra s1 Ra sa hva la qa => ?_⟩
  refine ⟨_, rfl, _, rfl, _, rfl, _, rfl, _, _, _, _, rfl, rfl, SqT.of (s1 _ _ hdm), atI_nat (j := 0) rfl, _, _, rfl, .inr (SqT.of (s1 _ _ htm)), dl, dm, Tl, Tm, pl, pm, Tm.length, rl, rm, by rw [llm]; rfl, Rl.same s1, Rm.same s1, ol, om, sll, sm, by omega, by omega, fun H2 db Tb pb rb s2 Rb sb hvb lb qb => ?_⟩
  have ba : RS 10000000000000 Ta pa ra := rs_of sa.ok (by omega) (by omega) (fun x hx => by rw [hva]; exact cm_topX top _ x hx)
  have bb : RS 10000000000000 Tb pb rb := rs_of sb.ok (by omega) (by omega) (fun x hx => by rw [hvb]; exact cm_topX (fun x hx => ⟨(top x hx).2, (top x hx).1⟩) _ x hx)
  refine ⟨da, db, Ta, Tb, pa, pb, ra, rb, rfl, Ra.same s2, Rb, sa, sb, ba, bb, fun H3 q s3 due => k H3 q (s1.trans (s2.trans s3)) (conv H3 q (due.conv fun x => ?_))⟩
  rw [hva, hvb]
  exact split_any L0 FS tf ts (by omega) (by omega) x
end
end Sm

set_option Elab.async false
set_option linter.all false
set_option maxRecDepth 100000
set_option maxHeartbeats 16000000
namespace Sm
open PySem PySem.Spec PyProof.Rows L2 LamX
open C8 (pss_cut tCut)
abbrev lamP : Arguments := { posonlyargs := [], args := [], vararg := none, kwonlyargs := [], kw_defaults := [], kwarg := none, defaults := [] }
/-- _law_tried(lambda: split_rule(..)) -/
def tTr (K : PySem.W.Frag) (TT : List (Addr × Str)) (cC cT : Addr) (ts : Addr → Value → Option Addr → TS) (ta : TA) : TE :=
  tLam TT (TAs K cC N_l_tried 1 ts) (fun E => tCallS (sp_split cT) (fun _ => E) ta)
section
variable {P : Program} {w : World} {K : PySem.W.Frag} {mg : Str → Option Value} {base : Heap}
abbrev s_law : Stmt := topS 42
abbrev N_law : List Str := ["_law_script", "_law_deck_here", "_law_told_here", "_law_turn", "_law_long", "_law_wide", "_law_tall", "_law_one_here", "_law_other", "_law_near", "_law_first", "_law_second", "_law_due", "_law_turned"]
theorem sc_law : FnScope N_law ["_law_script"] (defScope s_law) := ⟨rfl, rfl, rfl, by decide +kernel, rfl, by decide +kernel, by decide +kernel⟩
abbrev X_law (P : Program) (w : World) (K : PySem.W.Frag) (mg : Str → Option Value) (base : Heap) (f c : Addr) (A : Around) (outer : List Env) (s : Shared) (H : Hp) (E : XK) : Cx := (cxOf CX0 P w K mg base N_law "law" (defScope s_law) f (.ref c) A outer s H E).nox
abbrev q_law : Str := ("law" : Str) ++ (".<locals>." : Str) ++ ("<lambda>" : Str)
theorem pe_tr_law {f c Pt : Addr} {A : Around} {outer : List Env} {s : Shared} {H : Hp} {E : XK} {e1 e2 : Expr} {ta : TA} {cC cT : Addr} {ts : Addr → Value → Option Addr → TS} {p1 p2 p5 p6 p7 : Pos} (D : Df K mg "_law_tried" s_l_tried ["_law_call"]) (C : CalX P w K mg base "split_rule" ["one", "other"] 8 (sp_split cT))
    (hG : ∀ (g : Addr) (cdg : Value), GivesTo (X_law P w K mg base f c A outer s H E) N_l_tried "_law_tried" (defScope s_l_tried) g cdg (defBody s_l_tried) "_law_call" q_law (TAs K cC N_l_tried 1 ts))
    (TB : TabB base mg c Pt) {TT : List (Addr × Str)} (hmT : (Pt, q_law) ∈ TT) (hu : ∀ p ∈ TT, p.1 = Pt → p.2 = q_law) (hr : Room 10 (X_law P w K mg base f c A outer s H E).A)
    {sc : Scope} (hL : lamSB (defScope s_law) sc = true) (hgl : sc.names.lookup ("split_rule" : Str) = some NameKind.globalImplicit) (ha : ∀ (A' : Around) (outer' : List Env) (s' : Shared) (H' : Hp) (E' : XK) (f' c' : Addr), Room 8 (A'.deeper (lamEnv (X_law P w K mg base f c A outer s H E) sc s'.heap.objs.size f' c')) → PA (lamCx (X_law P w K mg base f c A outer s H E) A' outer' s' H' E' sc f' c') [e1, e2] ta)
    (he : ∀ env : Env, starEach (e1 :: [e2]) env = (false, eval e1 env) :: starEach [e2] env := by intro _; rfl) (hpl : ∀ (pos : Pos) (env : Env), (backTo pos (starEach [e2] env)).any (·.1) = false := by intro _ _; rfl) :
    PE (X_law P w K mg base f c A outer s H E) (.Call (.Name "_law_tried" p1) [.Lambda lamP (.Call (.Name "split_rule" p2) [e1, e2] [] p5) sc p6] [] p7) (tTr K TT cC cT ts ta) := by
  obtain ⟨g, fd, F, m, bd⟩ := D
  obtain ⟨oc, od, kV, doc, pm, an, cdv, ct, osl, rfl, look, coded⟩ := F.ex
  obtain ⟨fb, fdb, G, mb, kb, bb⟩ := C
  refine pe_lamcall (T := TT) (k := 8) (Ng := N_l_tried) rfl m F.kp look coded bd sc_l_tried rfl (by first | exact Or.inl rfl | exact Or.inr (Or.inl rfl) | exact Or.inr (Or.inr rfl)) (hG g cdv) TB rfl hmT hu hr (lamS_by hL) rfl (fun _ _ _ _ _ => rfl) (fun A' outer' s' H' E' f' c' hr' => ?_)
  exact pe_callS G hr' hgl mb kb bb (fun σ => passAt (takes_of rfl rfl rfl rfl) σ) (ha A' outer' s' H' E' f' c' hr') (he := he _) (hpl := hpl _ _)
abbrev s_l_fee_right : Stmt := topS 39
abbrev N_l_fee_right : List Str := ["_law_deck_here", "_law_size", "_law_much", "_law_less", "_law_last_here", "_law_due", "_law_fee", "_law_other", "_law_told_here", "_law_turned", "_law_x"]
theorem sc_l_fee_right : FnScope N_l_fee_right ["_law_deck_here"] (defScope s_l_fee_right) := ⟨rfl, rfl, rfl, by decide +kernel, rfl, by decide +kernel, by decide +kernel⟩
abbrev X_l_fee_right (P : Program) (w : World) (K : PySem.W.Frag) (mg : Str → Option Value) (base : Heap) (f c : Addr) (A : Around) (outer : List Env) (s : Shared) (H : Hp) (E : XK) : Cx := (cxOf CX0 P w K mg base N_l_fee_right "_law_fee_right" (defScope s_l_fee_right) f (.ref c) A outer s H E).nox
abbrev q_l_fee_right : Str := ("_law_fee_right" : Str) ++ (".<locals>." : Str) ++ ("<lambda>" : Str)
theorem pe_tr_l_fee_right {f c Pt : Addr} {A : Around} {outer : List Env} {s : Shared} {H : Hp} {E : XK} {e1 e2 : Expr} {ta : TA} {cC cT : Addr} {ts : Addr → Value → Option Addr → TS} {p1 p2 p5 p6 p7 : Pos} (D : Df K mg "_law_tried" s_l_tried ["_law_call"]) (C : CalX P w K mg base "split_rule" ["one", "other"] 8 (sp_split cT))
    (hG : ∀ (g : Addr) (cdg : Value), GivesTo (X_l_fee_right P w K mg base f c A outer s H E) N_l_tried "_law_tried" (defScope s_l_tried) g cdg (defBody s_l_tried) "_law_call" q_l_fee_right (TAs K cC N_l_tried 1 ts))
    (TB : TabB base mg c Pt) {TT : List (Addr × Str)} (hmT : (Pt, q_l_fee_right) ∈ TT) (hu : ∀ p ∈ TT, p.1 = Pt → p.2 = q_l_fee_right) (hr : Room 10 (X_l_fee_right P w K mg base f c A outer s H E).A)
    {sc : Scope} (hL : lamSB (defScope s_l_fee_right) sc = true) (hgl : sc.names.lookup ("split_rule" : Str) = some NameKind.globalImplicit) (ha : ∀ (A' : Around) (outer' : List Env) (s' : Shared) (H' : Hp) (E' : XK) (f' c' : Addr), Room 8 (A'.deeper (lamEnv (X_l_fee_right P w K mg base f c A outer s H E) sc s'.heap.objs.size f' c')) → PA (lamCx (X_l_fee_right P w K mg base f c A outer s H E) A' outer' s' H' E' sc f' c') [e1, e2] ta)
    (he : ∀ env : Env, starEach (e1 :: [e2]) env = (false, eval e1 env) :: starEach [e2] env := by intro _; rfl) (hpl : ∀ (pos : Pos) (env : Env), (backTo pos (starEach [e2] env)).any (·.1) = false := by intro _ _; rfl) :
    PE (X_l_fee_right P w K mg base f c A outer s H E) (.Call (.Name "_law_tried" p1) [.Lambda lamP (.Call (.Name "split_rule" p2) [e1, e2] [] p5) sc p6] [] p7) (tTr K TT cC cT ts ta) := by
  obtain ⟨g, fd, F, m, bd⟩ := D
  obtain ⟨oc, od, kV, doc, pm, an, cdv, ct, osl, rfl, look, coded⟩ := F.ex
  obtain ⟨fb, fdb, G, mb, kb, bb⟩ := C
  refine pe_lamcall (T := TT) (k := 8) (Ng := N_l_tried) rfl m F.kp look coded bd sc_l_tried rfl (by first | exact Or.inl rfl | exact Or.inr (Or.inl rfl) | exact Or.inr (Or.inr rfl)) (hG g cdv) TB rfl hmT hu hr (lamS_by hL) rfl (fun _ _ _ _ _ => rfl) (fun A' outer' s' H' E' f' c' hr' => ?_)
  exact pe_callS G hr' hgl mb kb bb (fun σ => passAt (takes_of rfl rfl rfl rfl) σ) (ha A' outer' s' H' E' f' c' hr') (he := he _) (hpl := hpl _ _)
abbrev s_l_steps_right : Stmt := topS 41
abbrev N_l_steps_right : List Str := ["_law_deck_here", "_law_p", "_law_q", "_law_many", "_law_table", "_law_there", "_law_x", "_law_told_here", "_law_number"]
theorem sc_l_steps_right : FnScope N_l_steps_right ["_law_deck_here"] (defScope s_l_steps_right) := ⟨rfl, rfl, rfl, by decide +kernel, rfl, by decide +kernel, by decide +kernel⟩
abbrev X_l_steps_right (P : Program) (w : World) (K : PySem.W.Frag) (mg : Str → Option Value) (base : Heap) (f c : Addr) (A : Around) (outer : List Env) (s : Shared) (H : Hp) (E : XK) : Cx := (cxOf CX0 P w K mg base N_l_steps_right "_law_steps_right" (defScope s_l_steps_right) f (.ref c) A outer s H E).nox
abbrev q_l_steps_right : Str := ("_law_steps_right" : Str) ++ (".<locals>." : Str) ++ ("<lambda>" : Str)
theorem pe_tr_l_steps_right {f c Pt : Addr} {A : Around} {outer : List Env} {s : Shared} {H : Hp} {E : XK} {e1 e2 : Expr} {ta : TA} {cC cT : Addr} {ts : Addr → Value → Option Addr → TS} {p1 p2 p5 p6 p7 : Pos} (D : Df K mg "_law_tried" s_l_tried ["_law_call"]) (C : CalX P w K mg base "split_rule" ["one", "other"] 8 (sp_split cT))
    (hG : ∀ (g : Addr) (cdg : Value), GivesTo (X_l_steps_right P w K mg base f c A outer s H E) N_l_tried "_law_tried" (defScope s_l_tried) g cdg (defBody s_l_tried) "_law_call" q_l_steps_right (TAs K cC N_l_tried 1 ts))
    (TB : TabB base mg c Pt) {TT : List (Addr × Str)} (hmT : (Pt, q_l_steps_right) ∈ TT) (hu : ∀ p ∈ TT, p.1 = Pt → p.2 = q_l_steps_right) (hr : Room 10 (X_l_steps_right P w K mg base f c A outer s H E).A)
    {sc : Scope} (hL : lamSB (defScope s_l_steps_right) sc = true) (hgl : sc.names.lookup ("split_rule" : Str) = some NameKind.globalImplicit) (ha : ∀ (A' : Around) (outer' : List Env) (s' : Shared) (H' : Hp) (E' : XK) (f' c' : Addr), Room 8 (A'.deeper (lamEnv (X_l_steps_right P w K mg base f c A outer s H E) sc s'.heap.objs.size f' c')) → PA (lamCx (X_l_steps_right P w K mg base f c A outer s H E) A' outer' s' H' E' sc f' c') [e1, e2] ta)
    (he : ∀ env : Env, starEach (e1 :: [e2]) env = (false, eval e1 env) :: starEach [e2] env := by intro _; rfl) (hpl : ∀ (pos : Pos) (env : Env), (backTo pos (starEach [e2] env)).any (·.1) = false := by intro _ _; rfl) :
    PE (X_l_steps_right P w K mg base f c A outer s H E) (.Call (.Name "_law_tried" p1) [.Lambda lamP (.Call (.Name "split_rule" p2) [e1, e2] [] p5) sc p6] [] p7) (tTr K TT cC cT ts ta) := by
  obtain ⟨g, fd, F, m, bd⟩ := D
  obtain ⟨oc, od, kV, doc, pm, an, cdv, ct, osl, rfl, look, coded⟩ := F.ex
  obtain ⟨fb, fdb, G, mb, kb, bb⟩ := C
  refine pe_lamcall (T := TT) (k := 8) (Ng := N_l_tried) rfl m F.kp look coded bd sc_l_tried rfl (by first | exact Or.inl rfl | exact Or.inr (Or.inl rfl) | exact Or.inr (Or.inr rfl)) (hG g cdv) TB rfl hmT hu hr (lamS_by hL) rfl (fun _ _ _ _ _ => rfl) (fun A' outer' s' H' E' f' c' hr' => ?_)
  exact pe_callS G hr' hgl mb kb bb (fun σ => passAt (takes_of rfl rfl rfl rfl) σ) (ha A' outer' s' H' E' f' c' hr') (he := he _) (hpl := hpl _ _)
end
theorem split_due {c : Addr} {f g : Nat → Int} {H : Hp} {Q : VK} {E : XK} (k : ∀ H' q, Same H H' → DueC H' q f g → Q (.ref q) H') (ke : ∀ (n : Nat) H' d, Same H H' → H' d = some (.xd [(("number" : Str), .int (n : Int))]) → (∀ H2 q, Same H' H2 → H2 q = some (.lst [.str "long", .int (n : Int)]) → DueC H2 q f g) → E (.ref c) (some d) H') : SplitOf c f g H Q E :=
  ⟨fun H' d T p r s R rb sh isC l => k H' d s (.inl ⟨T, p, r, sh, isC, rb, l, R⟩), fun n hn h H' d s hd => ke n H' d s hd fun H2 q _ hq => .inr ⟨n, hn, h, hq⟩⟩
theorem split_told {K : PySem.W.Frag} {mg : Str → Option Value} {TT : List (Addr × Str)} {cC cT cB cN cS : Addr} {ts : Addr → Value → Option Addr → TS} {ta : TA} {σ : L2.St} {H : Hp} {Q : VK} {T1 T2 : List Int} {p1 p2 : Nat} {r1 r2 : Int} (XC : Txt3 K mg cC cT cB cN cS)
    (hts : ∀ (c d : Addr) (n : Int) (D : Ends) (σ : L2.St) (H : Hp), σ.length = 2 → H d = some (.xd [(("number" : Str), .int n)]) → (∀ H' q, Same H H' → H' q = some (.lst [.str "long", .int n]) → D.rt (.ref q) H') → ts c (.ref cT) (some d) D (σ.set 1 (some (.ref c))) H)
    (tb : Tabs TT H) (hta : ∀ H1, ExtN H H1 → Tabs TT H1 → ∀ Q2 : List V → Hp → Prop, (∀ H2 d1 d2, Same H1 H2 → RuleAt H2 d1 T1 p1 r1 → RuleAt H2 d2 T2 p2 r2 → Q2 [.ref d1, .ref d2] H2) → ta σ H1 Q2) (ft : FitX T1 p1 r1 T2 p2 r2)
    (k : ∀ H' z, ExtN H H' → Tabs TT H' → DueC H' z (vl T1 p1 r1) (vl T2 p2 r2) → Q (.ref z) H') : tTr K TT cC cT ts ta σ H Q := by
  refine ⟨tb, fun H1 e1 t1 => ?_⟩
  refine hta H1 e1 t1 _ fun H2 d1 d2 s2 R1 R2 => ⟨d1, d2, T1, T2, p1, p2, r1, r2, rfl, R1, R2, ft, split_due (fun H' z s due => k H' z (e1.trans (ExtN.of (s2.trans s))) ((t1.ext s2).ext s) due) (fun n H' d s hd mk => ?_)⟩
  exact ⟨true, XC.te, fun _ σ' c len _ => hts c d n _ σ' H' len hd fun H3 z s3 hq => k H3 z (e1.trans (ExtN.of (s2.trans (s.trans s3)))) (((t1.ext s2).ext s).ext s3) (mk H3 z s3 hq), fun q => nomatch q⟩
/-- all but the deck and the tables stay -/
def FrN (p l : Addr) (H H' : Hp) : Prop := ∀ b o, b ≠ p → b ≠ l → H b = some o → (∀ ps, o ≠ .tbl ps) → H' b = some o
theorem FrN.trans {p l : Addr} {H H1 H2 : Hp} (a : FrN p l H H1) (b : FrN p l H1 H2) : FrN p l H H2 := fun c o h1 h2 h n => b c o h1 h2 (a c o h1 h2 h n) n
theorem FrN.ext {p l : Addr} {H H' : Hp} (e : ExtN H H') : FrN p l H H' := fun b o _ _ h n => e b o h n
theorem FrN.of {p l : Addr} {H H' : Hp} (e : Fr p l H H') : FrN p l H H' := fun b o h1 h2 h _ => e b o h1 h2 h
end Sm

set_option Elab.async false
set_option linter.all false
set_option maxRecDepth 100000
set_option maxHeartbeats 16000000
namespace Sm
open PySem PySem.Spec PyProof.Rows L2 LamX
open C8 (pss_cut tCut)
def sp_l_coprime (_ : PySem.W.Frag) : Sp := fun vs H Q _ => ∃ p q : Nat, vs = [.int (p : Int), .int (q : Int)] ∧ ∀ b, (b = true ↔ Nat.gcd p q = 1) → Q (.bl b) H
def sp_l_right (K : PySem.W.Frag) (TT : List (Addr × Str)) : Sp := fun vs H Q _ => ∃ (p l : Addr) (n : Int), vs = [.ref p] ∧ Deck H p l n ∧ 0 ≤ n ∧ n ≤ 800000 ∧ Tabs TT H ∧ ∀ H' n', FrN p l H H' → Deck H' p l n' → n ≤ n' → n' ≤ n + 20 → Tabs TT H' → Q (.bl true) H'
theorem inV_int (a : Int) : ∀ T : List Int, inV (.int a) (T.map V.int) = decide (a ∈ T)
  | [] => rfl
  | b :: T => by
    have ih := inV_int a T
    unfold inV at ih ⊢
    rw [List.map_cons, List.any_cons, ih]
    show (decide (b = a) || decide (a ∈ T)) = _
    by_cases e : b = a
    · subst e
      simp
    · simp [e, Ne.symm e]
theorem no_part {σ : L2.St} {H : Hp} {Q : Option Int → Hp → Prop} (h : Q none H) : tNoPart σ H Q := h
theorem cut_neg90 (xs : List V) : cutV xs (some (-90)) none = xs.drop (xs.length - 90) := by
  have e : HT.sIx xs.length 0 (some (-90)) = xs.length - 90 := by
    show (if (-90 : Int) < 0 then ((-90 : Int) + (xs.length : Int)).toNat else min (-90 : Int).toNat xs.length) = xs.length - 90
    rw [if_pos (by decide)]
    omega
  unfold cutV
  rw [HT.sIx_none, e]
  exact List.take_of_length_le (by rw [List.length_drop]; omega)
theorem stair_ok {p : Nat} (p0 : 0 < p) : RuleOk (List.replicate p 0) p (p : Int) := by
  have ln : (List.replicate p (0 : Int)).length = p := List.length_replicate
  refine ⟨p0, by omega, by omega, fun i hi => ?_, fun i hi => ?_, ?_⟩
  · rw [rep_at (by omega)]
    exact Int.le_refl _
  · rw [rep_at (by omega), rep_at (by omega)]
    exact Int.le_refl _
  · rw [rep_at (by omega), rep_at (by omega)]
    omega
theorem stair_rs {p : Nat} (p1 : p ≤ 40) : RS 10000000000000 (List.replicate p 0) p (p : Int) := by
  refine ⟨by rw [List.length_replicate]; omega, p1, by omega, fun i hi => ?_⟩
  rw [List.length_replicate] at hi
  rw [rep_at hi]
  decide
theorem stair_tup {n : Nat} : (List.replicate n [V.int 0]).flatten = (List.replicate n (0 : Int)).map V.int := by
  rw [List.flatten_replicate_singleton, List.map_replicate]
theorem geT_len (p q : Nat) : (geT p q).length = (p - 1) * (q - 1) + 1 := by
  unfold geT
  rw [List.length_map, List.length_range]
theorem geT_rb {p q : Nat} (h : (p - 1) * (q - 1) ≤ 39 * 39) : RB (geT p q) 1 1 := by
  refine ⟨by rw [geT_len]; omega, by decide, fun i hi => ?_⟩
  rw [geT_len] at hi
  unfold geT
  rw [tab_getD (f := fun x => (ge p q x : Int)) hi]
  have := ge_le p q i
  omega
theorem shw1 {d : PyData} (h : Shw d) : PyData.showable d = true ∧ PyData.hasDict d = false ∧ d.depth ≤ 60 ∧ d.shown.length ≤ sizeLine := by
  have := h.dep
  have := h.len
  refine ⟨h.sh, h.nd, by omega, ?_⟩
  rw [sizeLine_eq]
  omega
theorem sgs_one (p q : Nat) : sgs p q 1 = [0] := by
  have := sgs_succ p q 0
  rw [if_pos ⟨0, 0, by simp⟩] at this
  rw [this]
  unfold sgs
  rfl
section
variable {P : Program} {w : World} {K : PySem.W.Frag} {mg : Str → Option Value} {base : Heap} {cChangeError cTooLong cBadRule cNoRise cNoStart c Pt : Addr} {TT : List (Addr × Str)}
abbrev s_l_coprime : Stmt := topS 40
abbrev N_l_coprime : List Str := ["_law_p", "_law_q"]
theorem sc_l_coprime : FnScope N_l_coprime ["_law_p", "_law_q"] (defScope s_l_coprime) := ⟨rfl, rfl, rfl, by decide +kernel, rfl, by decide +kernel, by decide +kernel⟩
theorem ok_l_coprime (T : Txt mg) (D : Df K mg "_law_coprime" s_l_coprime ["_law_p", "_law_q"]) : Cal P w K mg base "_law_coprime" ["_law_p", "_law_q"] 1 (sp_l_coprime K) := by
  refine D.cal sc_l_coprime (fun vs H Q E h => ?_) (fun f cdv A outer s H vs Q E hr h => ?_)
  · obtain ⟨p, q, rfl, _⟩ := h
    rfl
  obtain ⟨p, q, rfl, k⟩ := h
  refine ⟨_, (pss_cons (ps_while PassesOwn.never (pt_cmpR op_gt (pv 1) pe_int (nomark _))
      (pss_one (ps_par (i := 0) (j := 1) (by rfl) sc_l_coprime.nd rfl rfl (by decide) rfl rfl (pa_cons (pv 1) (pa_cons (pe_op op_modN (pe_callTy call_int1 (by rfl) T.n_int (by decide +kernel) (pa_cons (pv 0) pa_nil)) (pv 1)) pa_nil)) (by rfl))))
    (pss_one (ps_ret (pe_cmpR op_eq (pv 0) pe_int (nomark _))))), ?_⟩
  refine ⟨fun m σ H' => ∃ a b : Nat, σ = [some (.int (a : Int)), some (.int (b : Int))] ∧ H' = H ∧ b = m ∧ Nat.gcd a b = Nat.gcd p q, ⟨q, p, q, rfl, rfl, rfl, rfl⟩, ?_⟩
  rintro m σ H' ⟨a, b, rfl, rfl, rfl, hg⟩
  refine ⟨_, rfl, _, _, rfl, rfl, _, rfl, ?_⟩
  by_cases e : (b : Int) > 0
  · refine iteP e ⟨fun σ H'' => ∃ x y : Nat, σ = [some (.int (x : Int)), some (.int (y : Int))] ∧ H'' = H' ∧ y = a % b ∧ Nat.gcd x y = Nat.gcd p q, fun σ' H3 hw => ⟨a % b, Nat.mod_lt _ (by omega), hw⟩, ?_⟩
    refine ⟨_, rfl, _, rfl, .inl ⟨_, rfl, _, rfl, _, _, rfl, rfl, by omega, _, _, rfl, b, a % b, ?_, rfl, rfl, ?_⟩⟩
    · have fm : (a : Int).fmod (b : Int) = ((a % b : Nat) : Int) := by
        rw [Int.fmod_eq_emod_of_nonneg _ (by omega)]
        rfl
      rw [← fm]
      rfl
    · rw [Nat.gcd_comm, ← Nat.gcd_rec, Nat.gcd_comm, hg]
  · have b0 : b = 0 := by omega
    subst b0
    refine iteN e ⟨_, rfl, rfl, ?_⟩
    rw [Nat.gcd_zero_right] at hg
    refine k _ ⟨fun h => ?_, fun h => decide_eq_true ?_⟩
    · have := V.int.inj (of_decide_eq_true h)
      omega
    · rw [show a = 1 by omega]
      rfl
theorem ok_l_steps_right {f : Addr} {fd : FuncData} (T : Txt mg) (XC : Txt3 K mg cChangeError cTooLong cBadRule cNoRise cNoStart) (F : Fun K "_law_steps_right" "_law_steps_right" s_l_steps_right f fd) (code : fd.code = .ref c) (TB : TabB base mg c Pt) (hmT : (Pt, q_l_steps_right) ∈ TT) (hu : ∀ p ∈ TT, p.1 = Pt → p.2 = q_l_steps_right) (D_l_tried : Df K mg "_law_tried" s_l_tried ["_law_call"]) (X_split_rule : CalX P w K mg base "split_rule" ["one", "other"] 8 (sp_split cTooLong))
  (C_l_draw : Cal P w K mg base "_law_draw" ["_law_deck_here", "_law_many"] 1 (sp_l_draw K)) (C_l_one : Cal P w K mg base "_law_one" ["_law_deck_here", "_law_items"] 2 (sp_l_one K)) (C_l_coprime : Cal P w K mg base "_law_coprime" ["_law_p", "_law_q"] 1 (sp_l_coprime K)) : FnG P w K mg base 12 f fd ["_law_deck_here"] (sp_l_right K TT) := by
  obtain ⟨f_l_draw, fd_l_draw, G_l_draw, m_l_draw, k_l_draw, b_l_draw⟩ := C_l_draw
  obtain ⟨f_l_one, fd_l_one, G_l_one, m_l_one, k_l_one, b_l_one⟩ := C_l_one
  obtain ⟨f_l_coprime, fd_l_coprime, G_l_coprime, m_l_coprime, k_l_coprime, b_l_coprime⟩ := C_l_coprime
  refine FnG.bodyC (k := 11) F code sc_l_steps_right (fun vs H Q E h => ?_) (fun A outer s H vs Q E gu hr h => ?_)
  · obtain ⟨p, l, n, rfl, _⟩ := h
    rfl
  obtain ⟨p, l, n, rfl, D, n0, n1, tb, k⟩ := h
  obtain ⟨ts, hG, hts⟩ := tried_gives (X := X_l_steps_right P w K mg base f c A outer s H E) (q := q_l_steps_right) T XC
  refine ⟨_, (pss_cut (ps_set (i := 1) sc_l_steps_right.nd rfl (Or.inr rfl) (pe_op op_add pe_int (pe_call G_l_draw (hr.mono (by decide)) (by rfl) m_l_draw k_l_draw b_l_draw .nil pass0 (pa_cons (pv 0) (pa_cons pe_int pa_nil)))))
    (pss_cut (ps_set (i := 2) sc_l_steps_right.nd rfl (Or.inr rfl) (pe_call G_l_one (hr.mono (by decide)) (by rfl) m_l_one k_l_one b_l_one .nil pass0 (pa_cons (pv 0) (pa_cons (pe_lc (own := [("_law_number", 8)]) (g := gName 8) (tt := _) rfl sc_l_steps_right.nd (pi_range2 (by rfl) T.n_range (pa_cons pe_int (pa_cons pe_int pa_nil))) (blkOk_by (own := [("_law_number", 8)]) (N := N_l_steps_right) (sc := defScope s_l_steps_right) (by decide +kernel)) (fun _ _ _ _ _ => pg_name (i := 8) sc_l_steps_right.nd rfl (Or.inl rfl)) (fun _ _ _ _ _ => pts_one (pt_val (pe_call G_l_coprime (hr.mono (by decide)) (by rfl) m_l_coprime k_l_coprime b_l_coprime .nil pass0 (pa_cons (pv 1) (pa_cons (pv 8) pa_nil))))) (fun _ _ _ _ _ => (pv 8))) pa_nil))))
    (pss_cut (ps_set (i := 3) sc_l_steps_right.nd rfl (Or.inl rfl) (pe_op op_add (pe_op op_mul (pe_op op_sub (pv 1) pe_int) (pe_op op_sub (pv 2) pe_int)) pe_int))
    (pss_cut (ps_par (i := 4) (j := 5) (by rfl) sc_l_steps_right.nd rfl rfl (by decide) rfl rfl (pa_cons (pe_lst pa_nil) (pa_cons (pe_lst (pa_cons pe_int pa_nil)) pa_nil)) (by rfl))
    (pss_cut (ps_for PassesOwn.never rfl (pi_range1 (by rfl) T.n_range (pa_cons (pv 3) pa_nil)) (pg_name (i := 6) sc_l_steps_right.nd rfl (Or.inl rfl))
      (pss_cut (ps_if (PW.pt (pw_and (pt_cmpR op_gt (pv 6) pe_int (nomark _)) (pw_and1 (PW.pt (pw_or (pt_cmpR op_in_seq (pe_op op_sub (pv 6) (pv 1)) (pv 5) (by rfl)) (pw_or1 (pt_cmpR op_in_seq (pe_op op_sub (pv 6) (pv 2)) (pv 5) (by rfl)))))))) (pss_one (ps_expr (pe_bm PySem.F.plainAttrs_list PySem.F.slot_list_append PySem.F.type_list_append mt_append (pv 5) (pa_cons (pv 6) pa_nil)))) pss_nil)
    (pss_cut (ps_set (i := 5) sc_l_steps_right.nd rfl (Or.inl rfl) (pe_slice sl_list (pv 5) (po_some (pe_un un_neg pe_int)) po_none))
    (pss_one (ps_expr (pe_bm PySem.F.plainAttrs_list PySem.F.slot_list_append PySem.F.type_list_append mt_append (pv 4) (pa_cons (pe_ix ix_list (pv 5) (pe_un un_neg pe_int) (fun _ _ => rfl)) pa_nil)))))))
    (pss_cut (ps_set (i := 7) sc_l_steps_right.nd rfl (Or.inl rfl) (pe_tr_l_steps_right D_l_tried X_split_rule hG TB hmT hu (hr.mono (by decide)) (by decide +kernel) rfl (fun _ _ _ _ _ _ _ hr => (pa_cons (pe_tup (pa_cons (pe_op op_rep0 (pe_tup (pa_cons pe_int pa_nil)) (pv 1)) (pa_cons (pv 1) (pa_cons (pv 1) pa_nil)))) (pa_cons (pe_tup (pa_cons (pe_op op_rep0 (pe_tup (pa_cons pe_int pa_nil)) (pv 2)) (pa_cons (pv 2) (pa_cons (pv 2) pa_nil)))) pa_nil)))))
    (pss_one (ps_ret (pe_cmpR op_eq (pe_callB (call_repr_data gu ⟨_, hr⟩) (by rfl) T.n_repr (by decide +kernel) (pa_cons (pv 7) pa_nil)) (pe_callB (call_repr_data gu ⟨_, hr⟩) (by rfl) T.n_repr (by decide +kernel) (pa_cons (pe_tup (pa_cons (pe_callTy call_tuple_of (by rfl) T.n_tuple (by decide +kernel) (pa_cons (pv 4) pa_nil)) (pa_cons pe_int (pa_cons pe_int pa_nil)))) pa_nil)) (nomark _)))))))))), ?_⟩
  -- p
  refine ⟨fun σ H' => ∃ P : Nat, σ = [some (.ref p), some (.int (P : Int)), none, none, none, none, none, none, none] ∧ 1 ≤ P ∧ P ≤ 40 ∧ Fr p l H H' ∧ Deck H' p l (n + 1), ?_, ?_⟩
  · refine ⟨_, rfl, p, l, n, 40, rfl, D, n0, by omega, by decide, by decide, fun z H1 z0 z1 f1 D1 => ⟨_, _, rfl, rfl, (1 + z).toNat, ?_, by omega, by omega, f1, D1⟩⟩
    rw [Int.toNat_of_nonneg (by omega)]
    rfl
  rintro σ H1 ⟨pp, rfl, p0, p1, f1, D1⟩
  -- q
  refine ⟨fun σ H' => ∃ Q : Nat, σ = [some (.ref p), some (.int (pp : Int)), some (.int (Q : Int)), none, none, none, none, none, none] ∧ 1 ≤ Q ∧ Q ≤ 40 ∧ Nat.gcd pp Q = 1 ∧ Fr p l H H' ∧ Deck H' p l (n + 1 + 1), ?_, ?_⟩
  · refine ⟨_, rfl, _, _, rfl, ⟨by decide, by decide, by decide, by decide⟩, fun B nB => ?_⟩
    have sB := same_upd (o := .lst []) nB
    have lB := D1.lne nB
    refine lc_range (lo := 1) (n := 40) (fun j H' => Same H1 H' ∧ ∃ ns : List Nat, H' B = some (.lst (ns.map fun m : Nat => V.int (m : Int))) ∧ ns.length ≤ j ∧ (0 < j → 0 < ns.length) ∧ ∀ m ∈ ns, 1 ≤ m ∧ m ≤ j ∧ Nat.gcd pp m = 1) ⟨sB, [], upd_same, by simp, fun h => absurd h (Nat.lt_irrefl 0), fun m hm => nomatch hm⟩ ?_ ?_
    · rintro j H' hj ⟨s', ns, hB, ln, pos, all⟩
      have e1 : (1 : Int) + (j : Int) = ((1 + j : Nat) : Int) := by omega
      rw [e1]
      refine ⟨rfl, ?_⟩
      refine ⟨_, rfl, _, rfl, pp, 1 + j, rfl, fun b hb => ⟨_, rfl, ?_⟩⟩
      cases b with
      | false =>
        refine iteF ⟨s', ns, hB, by omega, fun _ => ?_, fun m hm => ?_⟩
        · rcases Nat.eq_zero_or_pos j with z | z
          · subst z
            have : Nat.gcd pp (1 + 0) = 1 := Nat.gcd_one_right pp
            exact absurd (hb.mpr this) Bool.false_ne_true
          · exact pos z
        · obtain ⟨a1, a2, a3⟩ := all m hm
          exact ⟨a1, by omega, a3⟩
      | true =>
        refine iteT ⟨_, rfl, _, hB, ?_, fun b o e' => ?_, ns ++ [1 + j], ?_, ?_, fun _ => ?_, fun m hm => ?_⟩
        · rw [List.length_map]
          exact Nat.lt_of_le_of_lt (show ns.length ≤ 20000 by omega) (by decide)
        · rw [upd_ne (ne_of_none e' nB)]
          exact s' _ _ e'
        · rw [upd_same, List.map_append]
          rfl
        · rw [List.length_append]
          show ns.length + 1 ≤ j + 1
          omega
        · rw [List.length_append]
          show 0 < ns.length + 1
          omega
        · rcases List.mem_append.mp hm with q | q
          · obtain ⟨a1, a2, a3⟩ := all m q
            exact ⟨a1, by omega, a3⟩
          · rw [List.mem_singleton.mp q]
            exact ⟨by omega, by omega, hb.mp rfl⟩
    rintro H' ⟨s', ns, hB, ln, pos, all⟩
    refine ⟨p, l, B, n + 1, _, rfl, D1.same s', by omega, by omega, hB, lB.1, lB.2, by rw [List.length_map]; exact pos (by decide), by rw [List.length_map]; omega, fun x H5 hx f5 D5 => ?_⟩
    obtain ⟨m, hm, rfl⟩ := List.mem_map.mp hx
    obtain ⟨a1, a2, a3⟩ := all m hm
    exact ⟨m, rfl, a1, a2, a3, f1.trans ((Same.fr s').trans f5), D5⟩
  rintro σ H2 ⟨qq, rfl, q0, q1, hg, f2, D2⟩
  -- how many
  have eM : ((pp : Int) - 1) * ((qq : Int) - 1) + 1 = (((pp - 1) * (qq - 1) + 1 : Nat) : Int) := by
    rw [show (pp : Int) - 1 = ((pp - 1 : Nat) : Int) by omega, show (qq : Int) - 1 = ((qq - 1 : Nat) : Int) by omega, Int.natCast_add, Int.natCast_mul]
    rfl
  have few : (pp - 1) * (qq - 1) ≤ 39 * 39 := Nat.mul_le_mul (by omega) (by omega)
  refine ⟨fun σ H' => σ = [some (.ref p), some (.int (pp : Int)), some (.int (qq : Int)), some (.int (((pp - 1) * (qq - 1) + 1 : Nat) : Int)), none, none, none, none, none] ∧ H' = H2, ?_, ?_⟩
  · refine ⟨_, rfl, _, _, rfl, rfl, _, rfl, _, _, rfl, rfl, _, _, rfl, rfl, .inl ⟨by omega, by omega⟩, _, _, rfl, rfl, ?_, rfl⟩
    rw [← eM]
    rfl
  rintro σ H2' ⟨rfl, rfl⟩
  -- table, there
  refine ⟨fun σ H' => ∃ A B, σ = [some (.ref p), some (.int (pp : Int)), some (.int (qq : Int)), some (.int (((pp - 1) * (qq - 1) + 1 : Nat) : Int)), some (.ref A), some (.ref B), none, none, none] ∧ Same H2' H' ∧ H2' A = none ∧ H2' B = none ∧ H' A = some (.lst []) ∧ H' B = some (.lst [.int 0]), ?_, ?_⟩
  · refine ⟨(by show 0 ≤ sizeLine; decide), fun A nA => ⟨(by show 1 ≤ sizeLine; decide), fun B nB => ?_⟩⟩
    have sA := same_upd (o := .lst []) nA
    have sB := same_upd (o := .lst [.int 0]) nB
    have nB2 : H2' B = none := by
      cases z : H2' B with
      | none => rfl
      | some o =>
        have := sA _ _ z
        rw [nB] at this
        cases this
    exact ⟨_, _, rfl, A, B, rfl, sA.trans sB, nA, nB2, sB _ _ upd_same, upd_same⟩
  rintro σ H3 ⟨A, B, rfl, s3, nA, nB, hA, hB⟩
  have AB : A ≠ B := fun e => by
    rw [e, hB] at hA
    cases hA
  have big : ∀ x : Nat, x ≤ 2000 → x < sizeLine := fun x hx => Nat.lt_of_le_of_lt hx (by decide)
  refine ⟨fun σ H' => ∃ B v6, σ = [some (.ref p), some (.int (pp : Int)), some (.int (qq : Int)), some (.int (((pp - 1) * (qq - 1) + 1 : Nat) : Int)), some (.ref A), some (.ref B), v6, none, none] ∧ Same H2' H' ∧ H' A = some (.lst ((geT pp qq).map V.int)), ?_, ?_⟩
  · refine ⟨_, rfl, _, rfl, by omega, by omega, ?_⟩
    rw [Int.toNat_natCast]
    refine for_range (lo := 0) (n := (pp - 1) * (qq - 1) + 1) (fun j σ H' => ∃ B v6, σ = [some (.ref p), some (.int (pp : Int)), some (.int (qq : Int)), some (.int (((pp - 1) * (qq - 1) + 1 : Nat) : Int)), some (.ref A), some (.ref B), v6, none, none] ∧ Same H2' H' ∧ A ≠ B ∧ H2' B = none ∧ H' A = some (.lst (((List.range j).map fun x => (ge pp qq x : Int)).map V.int)) ∧ H' B = some (.lst (((last90 (sgs pp qq (max j 1))).map fun n : Nat => (n : Int)).map V.int)))
      ⟨B, none, rfl, s3, AB, nB, hA, by rw [hB, show max 0 1 = 1 from rfl, sgs_one]; rfl⟩ ?_ ?_
    · rintro j σ H' hj ⟨B, v6, rfl, s', AB, nB, hA, hB⟩
      rw [Int.zero_add]
      -- x among the sums?
      refine ⟨fun σ H'' => σ = [some (.ref p), some (.int (pp : Int)), some (.int (qq : Int)), some (.int (((pp - 1) * (qq - 1) + 1 : Nat) : Int)), some (.ref A), some (.ref B), some (.int (j : Int)), none, none] ∧ Same H2' H'' ∧ H'' A = H' A ∧ ∃ L, H'' B = some (.lst ((L.map fun n : Nat => (n : Int)).map V.int)) ∧ last90 L = last90 (sgs pp qq (j + 1)), ?_, ?_⟩
      · have lenB : (((last90 (sgs pp qq (max j 1))).map fun n : Nat => (n : Int)).map V.int).length < sizeLine := by
          rw [List.length_map, List.length_map]
          have := last90_len (sgs pp qq (max j 1))
          exact big _ (by omega)
        have flats : (((last90 (sgs pp qq (max j 1))).map fun n : Nat => (n : Int)).map V.int).all flatV = true := List.all_eq_true.mpr fun v hv => by
          obtain ⟨i, _, rfl⟩ := List.mem_map.mp hv
          rfl
        have next := @there_next pp qq j
        have no : ¬ (0 < j ∧ Sg pp qq j) → Same H2' H' ∧ H' A = H' A ∧ ∃ L, H' B = some (.lst ((L.map fun n : Nat => (n : Int)).map V.int)) ∧ last90 L = last90 (sgs pp qq (j + 1)) := fun h => by
          rw [if_neg h] at next
          exact ⟨s', rfl, _, hB, next⟩
        have yes : 0 < j ∧ Sg pp qq j → Same H2' (upd H' B (.lst (((last90 (sgs pp qq (max j 1))).map fun n : Nat => (n : Int)).map V.int ++ [.int (j : Int)]))) ∧ upd H' B (.lst (((last90 (sgs pp qq (max j 1))).map fun n : Nat => (n : Int)).map V.int ++ [.int (j : Int)])) A = H' A ∧ ∃ L, upd H' B (.lst (((last90 (sgs pp qq (max j 1))).map fun n : Nat => (n : Int)).map V.int ++ [.int (j : Int)])) B = some (.lst ((L.map fun n : Nat => (n : Int)).map V.int)) ∧ last90 L = last90 (sgs pp qq (j + 1)) := fun h => by
          rw [if_pos h] at next
          refine ⟨fun b o e' => ?_, upd_ne AB, last90 (sgs pp qq (max j 1)) ++ [j], ?_, next⟩
          · rw [upd_ne (ne_of_none e' nB)]
            exact s' _ _ e'
          · rw [upd_same, List.map_append, List.map_append]
            rfl
        refine ⟨_, rfl, _, _, rfl, rfl, _, rfl, ite3 (fun e => ?_) (fun e => ?_)⟩
        · have j0 : 0 < j := by omega
          have jm : max j 1 = j := by omega
          have key := sg_by (p := pp) (q := qq) (x := j) p1 q1 (by omega) (by omega) j0
          refine ⟨_, rfl, _, rfl, _, _, rfl, rfl, _, rfl, B, _, rfl, .inl (SqL.of hB), rfl, flats, _, rfl, ?_⟩
          show if inV (.int ((j : Int) - (pp : Int))) _ = true then _ else _
          rw [inV_int, jm]
          by_cases m1 : (j : Int) - (pp : Int) ∈ (last90 (sgs pp qq j)).map (fun n : Nat => (n : Int))
          · rw [decide_eq_true m1]
            refine iteT (iteT ?_)
            exact ⟨_, rfl, .inl ⟨rfl, _, SqL.of hB⟩, _, rfl, B, _, _, rfl, rfl, hB, lenB, rfl, yes ⟨j0, key.mpr (.inl m1)⟩⟩
          · rw [decide_eq_false m1]
            refine iteF ?_
            refine ⟨_, rfl, _, rfl, _, _, rfl, rfl, _, rfl, B, _, rfl, .inl (SqL.of hB), rfl, flats, _, rfl, ?_⟩
            show if inV (.int ((j : Int) - (qq : Int))) _ = true then _ else _
            rw [inV_int, jm]
            by_cases m2 : (j : Int) - (qq : Int) ∈ (last90 (sgs pp qq j)).map (fun n : Nat => (n : Int))
            · rw [decide_eq_true m2]
              refine iteT ?_
              exact ⟨_, rfl, .inl ⟨rfl, _, SqL.of hB⟩, _, rfl, B, _, _, rfl, rfl, hB, lenB, rfl, yes ⟨j0, key.mpr (.inr m2)⟩⟩
            · rw [decide_eq_false m2]
              refine iteF ?_
              exact ⟨rfl, no fun h => (key.mp h.2).elim m1 m2⟩
        · exact iteF ⟨rfl, no fun h => by omega⟩
      rintro σ H'' ⟨rfl, s'', eA, L, hB, eL⟩
      rw [hA] at eA
      have nB'' := hB
      refine ⟨fun σ H5 => ∃ C, σ = [some (.ref p), some (.int (pp : Int)), some (.int (qq : Int)), some (.int (((pp - 1) * (qq - 1) + 1 : Nat) : Int)), some (.ref A), some (.ref C), some (.int (j : Int)), none, none] ∧ Same H2' H5 ∧ A ≠ C ∧ H2' C = none ∧ H5 A = some (.lst (((List.range j).map fun x => (ge pp qq x : Int)).map V.int)) ∧ H5 C = some (.lst (((last90 (sgs pp qq (j + 1))).map fun n : Nat => (n : Int)).map V.int)), ?_, ?_⟩
      · refine ⟨_, rfl, _, rfl, _, rfl, no_part ⟨B, _, rfl, SqL.of hB, fun C nC => ?_⟩⟩
        have sC := same_upd (o := .lst (cutV ((L.map fun n : Nat => (n : Int)).map V.int) (some (-90)) none)) nC
        refine ⟨C, rfl, s''.trans sC, fun e => ?_, ?_, sC _ _ eA, ?_⟩
        · rw [← e, eA] at nC
          cases nC
        · cases z : H2' C with
          | none => rfl
          | some o =>
            have := s'' _ _ z
            rw [nC] at this
            cases this
        · rw [← eL]
          show upd H'' C (.lst (cutV ((L.map fun n : Nat => (n : Int)).map V.int) (some (-90)) none)) C = _
          rw [upd_same, cut_neg90]
          unfold last90
          rw [List.length_map, List.length_map, ← List.map_drop, ← List.map_drop]
      rintro σ H5 ⟨C, rfl, s5, AC, nC, hA, hC⟩
      obtain ⟨ne, gl⟩ := ge_last pp qq j
      obtain ⟨g1, g2⟩ := last90_last ne
      have gC : (((last90 (sgs pp qq (j + 1))).map fun n : Nat => (n : Int)).map V.int)[(((last90 (sgs pp qq (j + 1))).map fun n : Nat => (n : Int)).map V.int).length - 1]? = some (.int (ge pp qq j : Int)) := by
        rw [List.length_map, List.length_map, List.getElem?_map, List.getElem?_map, g1, gl]
        rfl
      refine ⟨_, rfl, .inl ⟨rfl, _, SqL.of hA⟩, _, rfl, _, rfl, _, _, _, _, rfl, rfl, SqL.of hC, atI_neg1 (by rw [List.length_map, List.length_map]; exact g2) gC, A, _, _, rfl, rfl, hA, ?_, C, _, rfl, fun b o e' => ?_, AC, nC, ?_, ?_⟩
      · rw [List.length_map, List.length_map, List.length_range]
        exact big _ (by omega)
      · rw [upd_ne (ne_of_none e' nA)]
        exact s5 _ _ e'
      · rw [upd_same, List.range_succ, List.map_append, List.map_append]
        rfl
      · rw [upd_ne AC.symm, show max (j + 1) 1 = j + 1 by omega]
        exact hC
    · rintro σ H' ⟨B, v6, rfl, s', AB, nB, hA, hB⟩
      exact ⟨B, v6, rfl, s', hA⟩
  rintro σ H4 ⟨B, v6, rfl, s4, hA⟩
  have fN : FrN p l H H4 := (FrN.of f2).trans (FrN.of (Same.fr s4))
  have D4 := D2.same s4
  have tb4 : Tabs TT H4 := (Sm.Tabs.fr tb f2 D).ext s4
  obtain ⟨gsh, ghv⟩ := ge_rule (p := pp) (q := qq) (by omega) (by omega) (by omega) (by omega) hg
  have grb : RB (geT pp qq) 1 1 := geT_rb few
  have gl5 : (geT pp qq).length ≤ 5000 := by rw [geT_len]; omega
  obtain ⟨c1, c2, c3, c4⟩ := shw1 (rD_shw gsh.ok grb gl5)
  have lc : Nat.lcm pp qq ≤ 40 * 40 := Nat.le_trans (PySem.W.mc_lcm_le pp qq) (Nat.mul_le_mul p1 q1)
  have ft : FitX (List.replicate pp 0) pp (pp : Int) (List.replicate qq 0) qq (qq : Int) :=
    ⟨stair_ok (by omega), stair_ok (by omega), stair_rs p1, stair_rs q1, by rw [List.length_replicate, List.length_replicate]; omega, .inl ⟨by rw [List.length_replicate]; omega, by rw [List.length_replicate]; omega⟩⟩
  refine ⟨fun σ H' => ∃ z v6, σ = [some (.ref p), some (.int (pp : Int)), some (.int (qq : Int)), some (.int (((pp - 1) * (qq - 1) + 1 : Nat) : Int)), some (.ref A), some (.ref B), v6, some (.ref z), none] ∧ ExtN H4 H' ∧ Tabs TT H' ∧ RuleAt H' z (geT pp qq) 1 1, ?_, ?_⟩
  · refine split_told XC hts tb4 (fun H5 e5 t5 Q2 hq2 => ?_) ft fun H5 z e5 t5 due => ?_
    · refine ⟨(by show 1 ≤ sizeLine; decide), fun a1 na1 => ?_⟩
      have w1 := same_upd (o := .tup [.int 0]) na1
      refine ⟨_, rfl, a1, (pp : Int), _, rfl, rfl, upd_same, (fun z => nomatch z), by omega, by omega, (by show 1 ≤ 1000; decide), fun H6 a2 s6 ha2 => ⟨_, rfl, _, rfl, (by show 3 ≤ sizeLine; decide), fun x1 nx1 => ⟨(by show 1 ≤ sizeLine; decide), fun a3 na3 => ?_⟩⟩⟩
      rw [stair_tup, Int.toNat_natCast] at ha2
      have w2 := same_upd (o := .tup [.ref a2, .int (pp : Int), .int (pp : Int)]) nx1
      have w3 := same_upd (o := .tup [.int 0]) na3
      refine ⟨_, rfl, a3, (qq : Int), _, rfl, rfl, upd_same, (fun z => nomatch z), by omega, by omega, (by show 1 ≤ 1000; decide), fun H7 a4 s7 ha4 => ⟨_, rfl, _, rfl, (by show 3 ≤ sizeLine; decide), fun x2 nx2 => ?_⟩⟩
      rw [stair_tup, Int.toNat_natCast] at ha4
      have w4 := same_upd (o := .tup [.ref a4, .int (qq : Int), .int (qq : Int)]) nx2
      exact hq2 _ x1 x2 (w1.trans (s6.trans (w2.trans (w3.trans (s7.trans w4))))) ⟨a2, (w3.trans (s7.trans w4)) _ _ upd_same, (w2.trans (w3.trans (s7.trans w4))) _ _ ha2⟩ ⟨a4, upd_same, w4 _ _ ha4⟩
    · refine ⟨z, v6, rfl, e5, t5, ?_⟩
      have isG : ∀ x, IsC (vl (List.replicate pp 0) pp (pp : Int)) (vl (List.replicate qq 0) qq (qq : Int)) (x + 1) x (vl (geT pp qq) 1 1 x) := fun x => by
        rw [ghv]
        exact ge_is (by omega) (by omega) x
      rcases due with ⟨T, p', r', sh, isC, _, _, R⟩ | ⟨n', n5, hn, _⟩
      · obtain ⟨rfl, rfl, rfl⟩ := short_one gsh sh fun x => (isG x).one (isC x)
        exact R
      · have := hn _ _ _ gsh isG
        omega
  rintro σ H5 ⟨z, v6', rfl, e5, t5, R⟩
  have hA5 := extLst e5 hA
  refine ⟨_, rfl, z, rD (geT pp qq) 1 1, rfl, R.dp, c1, c2, c3, c4, _, rfl, A, _, rfl, .inl ⟨SqL.of hA5, fun t nt => ⟨(by show 3 ≤ sizeLine; decide), fun x3 nx3 => ?_⟩⟩⟩
  have y1 := same_upd (o := .tup ((geT pp qq).map V.int)) nt
  have y2 := same_upd (o := .tup [.ref t, .int 1, .int 1]) nx3
  have Rt : RuleAt (upd (upd H5 t (.tup ((geT pp qq).map V.int))) x3 (.tup [.ref t, .int 1, .int 1])) x3 (geT pp qq) 1 1 := ⟨t, upd_same, y2 _ _ upd_same⟩
  refine ⟨x3, rD (geT pp qq) 1 1, rfl, Rt.dp, c1, c2, c3, c4, rfl, ?_⟩
  rw [decide_eq_true rfl]
  exact k _ (n + 1 + 1) (fN.trans ((FrN.ext e5).trans (FrN.of (Same.fr (y1.trans y2))))) ((Sm.Deck.ext D4 e5).same (y1.trans y2)) (by omega) (by omega) (t5.ext (y1.trans y2))
end
end Sm

set_option Elab.async false
set_option linter.all false
set_option maxRecDepth 100000
set_option maxHeartbeats 16000000
namespace Sm
open PySem PySem.Spec PyProof.Rows L2 LamX
open C8 (pss_cut tCut)
theorem lev_ok {n p : Nat} {r : Int} (p0 : 0 < p) (hp : p ≤ n) (r0 : 0 ≤ r) : RuleOk (List.replicate n 0) p r := by
  have ln : (List.replicate n (0 : Int)).length = n := List.length_replicate
  refine ⟨p0, by omega, r0, fun i hi => ?_, fun i hi => ?_, ?_⟩
  · rw [rep_at (by omega)]
    exact Int.le_refl _
  · rw [rep_at (by omega), rep_at (by omega)]
    exact Int.le_refl _
  · rw [rep_at (by omega), rep_at (by omega)]
    omega
theorem lev_rs {n p : Nat} {r : Int} (hn : n ≤ 300) (hp : p ≤ 40) (r1 : r ≤ 10000000000000) : RS 10000000000000 (List.replicate n 0) p r := by
  refine ⟨by rw [List.length_replicate]; omega, hp, r1, fun i hi => ?_⟩
  rw [List.length_replicate] at hi
  rw [rep_at hi]
  decide
/-- a fee and a plain rule, fit to be parted -/
theorem fee_fit {S : Nat} {M m : Int} (s0 : 0 < S) (s1 : S ≤ 200) (M0 : 0 ≤ M) (M1 : M ≤ 10000000000) (m0 : 0 ≤ m) (m1 : m ≤ 10000000000) : FitX (List.replicate S 0) 1 M (List.replicate 1 0) 1 m := by
  refine ⟨lev_ok (by decide) (by omega) M0, lev_ok (by decide) (by decide) m0, lev_rs (by omega) (by decide) (by omega), lev_rs (by decide) (by decide) (by omega), ?_, .inr ⟨?_, fun x hx => ⟨?_, ?_⟩⟩⟩
  · rw [List.length_replicate, List.length_replicate]
    show 1 + S + 1 ≤ 2000
    omega
  · rw [List.length_replicate, List.length_replicate]
    show 1 + S + 1 ≤ 300
    omega
  · rw [fee_vl s0]
    split
    · decide
    · have : ((x - S + 1 : Nat) : Int) * M ≤ 300 * 10000000000 := Int.mul_le_mul (by omega) M1 M0 (by decide)
      omega
  · rw [show List.replicate 1 (0 : Int) = [0] from rfl, line_vl]
    have : (x : Int) * m ≤ 300 * 10000000000 := Int.mul_le_mul (by omega) m1 m0 (by decide)
    omega
/-- the word that is due, in the heap -/
def FeeAt (H : Hp) (z : Addr) (S La : Nat) (m M : Int) : Prop := (La + 2 ≤ 5000 ∧ RuleAt H z (feeT S La m M) 1 M) ∨ (5000 < La + 2 ∧ H z = some (.lst [.str "long", .int ((La + 2 : Nat) : Int)]))
theorem FeeAt.same {H H' : Hp} {z : Addr} {S La : Nat} {m M : Int} (h : FeeAt H z S La m M) (s : Same H H') : FeeAt H' z S La m M := by
  rcases h with ⟨a, b⟩ | ⟨a, b⟩
  · exact .inl ⟨a, b.same s⟩
  · exact .inr ⟨a, s _ _ b⟩
theorem FeeAt.ext {H H' : Hp} {z : Addr} {S La : Nat} {m M : Int} (h : FeeAt H z S La m M) (s : ExtN H H') : FeeAt H' z S La m M := by
  rcases h with ⟨a, b⟩ | ⟨a, b⟩
  · exact .inl ⟨a, Sm.RuleAt.ext b s⟩
  · exact .inr ⟨a, extLst s b⟩
noncomputable def feeD (S La : Nat) (m M : Int) : PyData := if La + 2 ≤ 5000 then rD (feeT S La m M) 1 M else longD (La + 2)
theorem FeeAt.dp {K : PySem.W.Frag} {H : Hp} {z : Addr} {S La : Nat} {m M : Int} (h : FeeAt H z S La m M) : Dp K H (.ref z) (feeD S La m M) := by
  unfold feeD
  rcases h with ⟨a, b⟩ | ⟨a, b⟩
  · rw [if_pos a]
    exact b.dp
  · rw [if_neg (by omega)]
    exact .lst (SqL.of b) (.cons (.str _) (.cons (.int _) .nil))
/-- numbers of one fee -/
structure FeeOk (S La Ls : Nat) (m M : Int) : Prop where
  s2 : 2 ≤ S
  s1 : S ≤ 200
  l0 : 0 < Ls
  m0 : 0 ≤ m
  e : M = m + (Ls : Int)
  M1 : M ≤ 10000000000
  h1 : (Ls : Int) * (La : Int) < M * ((S : Int) - 1)
  h2 : M * ((S : Int) - 1) ≤ (Ls : Int) * ((La : Int) + 1)
  a1 : 1 ≤ La
theorem FeeOk.tab {S La Ls : Nat} {m M : Int} (o : FeeOk S La Ls m M) : Short (feeT S La m M) 1 M ∧ ∀ x, IsC (vl (List.replicate S 0) 1 M) (vl [0] 1 m) (x + 1) x (vl (feeT S La m M) 1 M x) := by
  obtain ⟨sh, hv⟩ := fee_tab (size := S) (last := La) (less := (Ls : Int)) o.s2 (by have := o.l0; omega) o.m0 o.e o.h1 o.h2 o.a1
  exact ⟨sh, fun x => by rw [hv]; exact fee_is (by have := o.s2; omega) o.m0 (by have := o.e; omega) x⟩
theorem FeeOk.told {S La Ls : Nat} {m M : Int} (o : FeeOk S La Ls m M) {H : Hp} {z : Addr} (d : DueC H z (vl (List.replicate S 0) 1 M) (vl [0] 1 m)) : FeeAt H z S La m M := by
  obtain ⟨sh, isC⟩ := o.tab
  rcases d with ⟨T, p, r, s, c, _, l5, R⟩ | ⟨n, l, hn, e⟩
  · obtain ⟨rfl, rfl, rfl⟩ := short_one sh s fun x => (isC x).one (c x)
    rw [feeT_len] at l5
    exact .inl ⟨l5, R⟩
  · have := hn _ _ _ sh isC
    rw [feeT_len] at this
    exact .inr ⟨by omega, by rw [this]; exact e⟩
theorem FeeOk.shw {S La Ls : Nat} {m M : Int} (o : FeeOk S La Ls m M) (hl : La ≤ 100000000000000) : Shw (feeD S La m M) := by
  obtain ⟨sh, isC⟩ := o.tab
  have e := o.e
  have m0 := o.m0
  have M1 := o.M1
  unfold feeD
  split
  · rename_i h
    have ok := sh.ok
    refine rD_shw ok ⟨by rw [feeT_len]; omega, by omega, fun i hi => ?_⟩ (by rw [feeT_len]; exact h)
    rw [feeT_len] at hi
    rw [feeT_at hi]
    split
    · have : m * (i : Int) ≤ 10000000000 * 5000 := Int.mul_le_mul (by omega) (by omega) (by omega) (by decide)
      omega
    · have a : M * ((La : Int) + 2 - (S : Int)) ≤ M * ((La : Int) + 2) := Int.mul_le_mul_of_nonneg_left (by omega) (by omega)
      have : M * ((La : Int) + 2) ≤ 10000000000 * 5000 := Int.mul_le_mul (by omega) (by omega) (by omega) (by decide)
      omega
  · exact longD_shw (by omega)
theorem shwL {a b : PyData} (ha : Shw a) (hb : Shw b) : PyData.showable (.list [a, b]) = true ∧ PyData.hasDict (.list [a, b]) = false ∧ PyData.depth (.list [a, b]) ≤ 60 ∧ (PyData.shown (.list [a, b])).length ≤ sizeLine := by
  have d1 := ha.dep
  have d2 := hb.dep
  have l1 := ha.len
  have l2 := hb.len
  refine ⟨?_, ?_, ?_, ?_⟩
  · simp only [PyData.showable, PyData.showableAll, ha.sh, hb.sh, Bool.and_self]
  · simp only [PyData.hasDict, PyData.hasDictAll, ha.nd, hb.nd, Bool.or_self]
  · simp only [PyData.depth, PyData.depthAll]
    omega
  · simp only [PyData.shown, PyData.shownAll]
    have t := listText_len_le [a.shown, b.shown]
    simp only [List.map_cons, List.map_nil, List.sum_cons, List.sum_nil, List.length_cons, List.length_nil] at t
    rw [sizeLine_eq]
    omega
section
variable {P : Program} {w : World} {K : PySem.W.Frag} {mg : Str → Option Value} {base : Heap} {cChangeError cTooLong cBadRule cNoRise cNoStart c Pt : Addr} {TT : List (Addr × Str)}
theorem ok_l_fee_right {f : Addr} {fd : FuncData} (T : Txt mg) (XC : Txt3 K mg cChangeError cTooLong cBadRule cNoRise cNoStart) (F : Fun K "_law_fee_right" "_law_fee_right" s_l_fee_right f fd) (code : fd.code = .ref c) (TB : TabB base mg c Pt) (hmT : (Pt, q_l_fee_right) ∈ TT) (hu : ∀ p ∈ TT, p.1 = Pt → p.2 = q_l_fee_right) (D_l_tried : Df K mg "_law_tried" s_l_tried ["_law_call"]) (X_split_rule : CalX P w K mg base "split_rule" ["one", "other"] 8 (sp_split cTooLong))
  (C_l_draw : Cal P w K mg base "_law_draw" ["_law_deck_here", "_law_many"] 1 (sp_l_draw K)) (C_l_one : Cal P w K mg base "_law_one" ["_law_deck_here", "_law_items"] 2 (sp_l_one K)) : FnG P w K mg base 12 f fd ["_law_deck_here"] (sp_l_right K TT) := by
  obtain ⟨f_l_draw, fd_l_draw, G_l_draw, m_l_draw, k_l_draw, b_l_draw⟩ := C_l_draw
  obtain ⟨f_l_one, fd_l_one, G_l_one, m_l_one, k_l_one, b_l_one⟩ := C_l_one
  refine FnG.bodyC (k := 11) F code sc_l_fee_right (fun vs H Q E h => ?_) (fun A outer s H vs Q E gu hr h => ?_)
  · obtain ⟨p, l, n, rfl, _⟩ := h
    rfl
  obtain ⟨p, l, n, rfl, D, n0, n1, tb, k⟩ := h
  obtain ⟨ts, hG, hts⟩ := tried_gives (X := X_l_fee_right P w K mg base f c A outer s H E) (q := q_l_fee_right) T XC
  refine ⟨_, (pss_cut (ps_asg (pe_tup (pa_cons (pe_op op_add pe_int (pe_call G_l_draw (hr.mono (by decide)) (by rfl) m_l_draw k_l_draw b_l_draw .nil pass0 (pa_cons (pv 0) (pa_cons pe_int pa_nil)))) (pa_cons (pe_call G_l_one (hr.mono (by decide)) (by rfl) m_l_one k_l_one b_l_one .nil pass0 (pa_cons (pv 0) (pa_cons (pe_lst (pa_cons pe_int (pa_cons pe_int (pa_cons (pe_op op_pow pe_int pe_int) pa_nil)))) pa_nil))) pa_nil))) (pg_tup (by rfl) (pgs_cons (pg_name (i := 1) sc_l_fee_right.nd rfl (Or.inl rfl)) (pgs_cons (pg_name (i := 2) sc_l_fee_right.nd rfl (Or.inr rfl)) pgs_nil))))
    (pss_cut (ps_set (i := 3) sc_l_fee_right.nd rfl (Or.inr rfl) (pe_op op_add pe_int (pe_call G_l_draw (hr.mono (by decide)) (by rfl) m_l_draw k_l_draw b_l_draw .nil pass0 (pa_cons (pv 0) (pa_cons (pe_call G_l_one (hr.mono (by decide)) (by rfl) m_l_one k_l_one b_l_one .nil pass0 (pa_cons (pv 0) (pa_cons (pe_lst (pa_cons pe_int (pa_cons pe_int pa_nil))) pa_nil))) pa_nil)))))
    (pss_cut (ps_set (i := 4) sc_l_fee_right.nd rfl (Or.inl rfl) (pe_op op_sub (pe_op op_fdivW (pe_op op_sub (pe_op op_add (pe_op op_mul (pv 2) (pe_op op_sub (pv 1) pe_int)) (pv 3)) pe_int) (pv 3)) pe_int))
    (pss_cut (ps_set (i := 5) sc_l_fee_right.nd rfl (Or.inl rfl) (pe_lst (pa_cons pe_str (pa_cons (pe_op op_add (pv 4) pe_int) pa_nil))))
    (pss_cut (ps_if (pt_cmpR op_le (pe_op op_add (pv 4) pe_int) pe_int (nomark _)) (pss_one (ps_set (i := 5) sc_l_fee_right.nd rfl (Or.inl rfl) (pe_tup (pa_cons (pe_op op_catA (pe_callTy call_tuple_of (by rfl) T.n_tuple (by decide +kernel) (pa_cons (pe_lc (own := [("_law_x", 10)]) (g := gName 10) (tt := tYes) rfl sc_l_fee_right.nd (pi_range1 (by rfl) T.n_range (pa_cons (pe_op op_add (pv 4) pe_int) pa_nil)) (blkOk_by (own := [("_law_x", 10)]) (N := N_l_fee_right) (sc := defScope s_l_fee_right) (by decide +kernel)) (fun _ _ _ _ _ => pg_name (i := 10) sc_l_fee_right.nd rfl (Or.inl rfl)) (fun _ _ _ _ _ => pts_nil) (fun _ _ _ _ _ => (pe_op op_mul (pe_op op_sub (pv 2) (pv 3)) (pv 10)))) pa_nil)) (pe_tup (pa_cons (pe_op op_mul (pv 2) (pe_op op_sub (pe_op op_add (pv 4) pe_int) (pv 1))) pa_nil))) (pa_cons pe_int (pa_cons (pv 2) pa_nil)))))) pss_nil)
    (pss_cut (ps_asg (pe_tup (pa_cons (pe_tup (pa_cons (pe_op op_rep0 (pe_tup (pa_cons pe_int pa_nil)) (pv 1)) (pa_cons pe_int (pa_cons (pv 2) pa_nil)))) (pa_cons (pe_tup (pa_cons (pe_tup (pa_cons pe_int pa_nil)) (pa_cons pe_int (pa_cons (pe_op op_sub (pv 2) (pv 3)) pa_nil)))) pa_nil))) (pg_tup (by rfl) (pgs_cons (pg_name (i := 6) sc_l_fee_right.nd rfl (Or.inr rfl)) (pgs_cons (pg_name (i := 7) sc_l_fee_right.nd rfl (Or.inr rfl)) pgs_nil))))
    (pss_cut (ps_set (i := 8) sc_l_fee_right.nd rfl (Or.inl rfl) (pe_tr_l_fee_right D_l_tried X_split_rule hG TB hmT hu (hr.mono (by decide)) (by decide +kernel) rfl (fun _ _ _ _ _ _ _ hr => (pa_cons (pv 6) (pa_cons (pv 7) pa_nil)))))
    (pss_cut (ps_if (PW.pt (pw_and (pt_cmpR op_gt (pe_op op_add (pv 4) pe_int) pe_int (nomark _)) (pw_and1 (pt_cmpR op_ne (pe_callB (call_repr_data gu ⟨_, hr⟩) (by rfl) T.n_repr (by decide +kernel) (pa_cons (pe_tr_l_fee_right D_l_tried X_split_rule hG TB hmT hu (hr.mono (by decide)) (by decide +kernel) rfl (fun _ _ _ _ _ _ _ hr => (pa_cons (pv 6) (pa_cons (pv 7) pa_nil)))) pa_nil)) (pe_callB (call_repr_data gu ⟨_, hr⟩) (by rfl) T.n_repr (by decide +kernel) (pa_cons (pv 8) pa_nil)) (nomark _))))) (pss_one (ps_ret pe_bl)) pss_nil)
    (pss_cut (ps_set (i := 9) sc_l_fee_right.nd rfl (Or.inl rfl) (pe_tr_l_fee_right D_l_tried X_split_rule hG TB hmT hu (hr.mono (by decide)) (by decide +kernel) rfl (fun _ _ _ _ _ _ _ hr => (pa_cons (pv 7) (pa_cons (pv 6) pa_nil)))))
    (pss_one (ps_ret (pe_cmpR op_eq (pe_callB (call_repr_data gu ⟨_, hr⟩) (by rfl) T.n_repr (by decide +kernel) (pa_cons (pe_lst (pa_cons (pv 8) (pa_cons (pv 9) pa_nil))) pa_nil)) (pe_callB (call_repr_data gu ⟨_, hr⟩) (by rfl) T.n_repr (by decide +kernel) (pa_cons (pe_lst (pa_cons (pv 5) (pa_cons (pv 5) pa_nil))) pa_nil)) (nomark _))))))))))))), ?_⟩
  refine ⟨fun σ H' => ∃ S M : Nat, σ = [some (.ref p), some (.int (S : Int)), some (.int (M : Int)), none, none, none, none, none, none, none, none] ∧ 2 ≤ S ∧ S ≤ 200 ∧ 10 ≤ M ∧ M ≤ 10000000000 ∧ Fr p l H H' ∧ Deck H' p l (n + 1 + 1), ?_, ?_⟩
  · refine ⟨_, rfl, p, l, n, 198, rfl, D, n0, by omega, by decide, by decide, fun z H1 z0 z1 f1 D1 => ⟨_, _, rfl, rfl, ?_⟩⟩
    refine ⟨_, rfl, _, _, rfl, rfl, ⟨by decide, by decide, by decide⟩, (by show 3 ≤ sizeLine; decide), fun L nL => ?_⟩
    have sL := same_upd (o := .lst [.int 10, .int 1000, .int (10 ^ Int.toNat 10)]) nL
    have lne := D1.lne nL
    refine ⟨p, l, L, n + 1, _, rfl, D1.same sL, by omega, by omega, upd_same, lne.1, lne.2, (by show 0 < 3; decide), (by show 3 ≤ 1000; decide), fun x H2 hx f2 D2 => ⟨(by show 2 ≤ sizeLine; decide), fun tq ntq => ?_⟩⟩
    obtain ⟨M, rfl, M0, M1⟩ : ∃ M : Nat, x = .int (M : Int) ∧ 10 ≤ M ∧ M ≤ 10000000000 := by
      simp only [List.mem_cons, List.not_mem_nil, or_false] at hx
      rcases hx with rfl | rfl | rfl
      · exact ⟨10, rfl, by decide, by decide⟩
      · exact ⟨1000, rfl, by decide, by decide⟩
      · exact ⟨10000000000, rfl, by decide, by decide⟩
    have st := same_upd (o := .tup [.int (2 + z), .int (M : Int)]) ntq
    refine ⟨tq, _, rfl, SqT.of upd_same, rfl, _, _, rfl, _, _, rfl, rfl, (2 + z).toNat, M, ?_, by omega, by omega, M0, M1, f1.trans ((Same.fr sL).trans (f2.trans (Same.fr st))), D2.same st⟩
    rw [Int.toNat_of_nonneg (by omega)]
    rfl
  rintro σ H1 ⟨S, M, rfl, S0, S1, M0, M1, f1, D1⟩
  refine ⟨fun σ H' => ∃ Ls : Nat, σ = [some (.ref p), some (.int (S : Int)), some (.int (M : Int)), some (.int (Ls : Int)), none, none, none, none, none, none, none] ∧ 1 ≤ Ls ∧ Ls ≤ 9 ∧ Fr p l H H' ∧ Deck H' p l (n + 1 + 1 + 1 + 1), ?_, ?_⟩
  · refine ⟨_, rfl, _, rfl, (by show 2 ≤ sizeLine; decide), fun L nL => ?_⟩
    have sL := same_upd (o := .lst [.int 1, .int 9]) nL
    have lne := D1.lne nL
    refine ⟨p, l, L, n + 1 + 1, _, rfl, D1.same sL, by omega, by omega, upd_same, lne.1, lne.2, (by show 0 < 2; decide), (by show 2 ≤ 1000; decide), fun x H2 hx f2 D2 => ?_⟩
    obtain ⟨i, rfl, i0, i1⟩ : ∃ i : Int, x = .int i ∧ 1 ≤ i ∧ i ≤ 9 := by
      simp only [List.mem_cons, List.not_mem_nil, or_false] at hx
      rcases hx with rfl | rfl
      · exact ⟨1, rfl, by decide, by decide⟩
      · exact ⟨9, rfl, by decide, by decide⟩
    refine ⟨p, l, n + 1 + 1 + 1, i, rfl, D2, by omega, by omega, by omega, by omega, fun z H3 z0 z1 f3 D3 => ⟨_, _, rfl, rfl, (1 + z).toNat, ?_, by omega, by omega, f1.trans ((Same.fr sL).trans (f2.trans f3)), D3⟩⟩
    rw [Int.toNat_of_nonneg (by omega)]
    rfl
  rintro σ H2 ⟨Ls, rfl, L0, L1, f2, D2⟩
  refine ⟨fun σ H' => ∃ La : Nat, σ = [some (.ref p), some (.int (S : Int)), some (.int (M : Int)), some (.int (Ls : Int)), some (.int (La : Int)), none, none, none, none, none, none] ∧ H' = H2 ∧ FeeOk S La Ls ((M : Int) - (Ls : Int)) (M : Int) ∧ La ≤ 100000000000000, ?_, ?_⟩
  · have mulS : M * (S - 1) ≤ 10000000000 * 200 := Nat.mul_le_mul M1 (by omega)
    have mulS2 : 10 * 1 ≤ M * (S - 1) := Nat.mul_le_mul M0 (by omega)
    have eM : (M : Int) * ((S : Int) - 1) = ((M * (S - 1) : Nat) : Int) := by
      rw [show (S : Int) - 1 = ((S - 1 : Nat) : Int) by omega, Int.natCast_mul]
    obtain ⟨X, hX⟩ : ∃ X, X = M * (S - 1) := ⟨_, rfl⟩
    rw [← hX] at mulS mulS2 eM
    have dm := Nat.div_add_mod (X + Ls - 1) Ls
    have dl := Nat.mod_lt (X + Ls - 1) (show 0 < Ls by omega)
    obtain ⟨C, hC⟩ : ∃ C, C = (X + Ls - 1) / Ls := ⟨_, rfl⟩
    rw [← hC] at dm
    have C2 : 2 ≤ C := by
      rcases Nat.lt_or_ge C 2 with w | w
      · exfalso
        have : Ls * C ≤ Ls * 1 := Nat.mul_le_mul_left Ls (by omega)
        omega
      · exact w
    have eD : ((M : Int) * ((S : Int) - 1) + (Ls : Int) - 1) / (Ls : Int) = (C : Int) := by
      rw [eM, show (X : Int) + (Ls : Int) - 1 = ((X + Ls - 1 : Nat) : Int) by omega, hC]
      rfl
    have cl : Ls * C = Ls * (C - 1) + Ls := by
      rw [← Nat.mul_succ]
      congr 1
      omega
    have C3 : C ≤ X + Ls := by
      have := Nat.div_le_self (X + Ls - 1) Ls
      omega
    refine ⟨_, rfl, _, rfl, _, _, rfl, rfl, _, _, rfl, rfl, .inl ⟨by omega, by omega⟩, _, rfl, _, _, rfl, rfl, _, _, rfl, rfl, _, rfl, _, _, rfl, rfl, ?_, _, _, rfl, rfl, C - 1, ?_, rfl, ⟨S0, S1, by omega, by omega, by omega, by omega, ?_, ?_, by omega⟩, by omega⟩
    · exact ⟨by omega, Nat.lt_of_lt_of_le (PySem.Flt.log2_lt_of (k := 310) (by decide) (by omega)) (by decide)⟩
    · have e : ((M : Int) * ((S : Int) - 1) + (Ls : Int) - 1) / (Ls : Int) - 1 = ((C - 1 : Nat) : Int) := by
        rw [eD]
        omega
      rw [← e]
      rfl
    · rw [eM]
      have : (Ls : Int) * ((C - 1 : Nat) : Int) = ((Ls * (C - 1) : Nat) : Int) := (Int.natCast_mul ..).symm
      omega
    · rw [eM, show ((C - 1 : Nat) : Int) + 1 = (C : Int) by omega]
      have : (Ls : Int) * (C : Int) = ((Ls * C : Nat) : Int) := (Int.natCast_mul ..).symm
      omega
  rintro σ H2' ⟨La, rfl, rfl, ok, La1⟩
  have e2 : (La : Int) + 2 = ((La + 2 : Nat) : Int) := by omega
  refine ⟨fun σ H' => ∃ z5, σ = [some (.ref p), some (.int (S : Int)), some (.int (M : Int)), some (.int (Ls : Int)), some (.int (La : Int)), some (.ref z5), none, none, none, none, none] ∧ Same H2' H' ∧ H' z5 = some (.lst [.str "long", .int ((La + 2 : Nat) : Int)]), ?_, ?_⟩
  · refine ⟨_, rfl, _, _, rfl, rfl, (by show 2 ≤ sizeLine; decide), fun z nz => ⟨z, rfl, same_upd nz, ?_⟩⟩
    rw [← e2]
    exact upd_same
  rintro σ H3 ⟨z5, rfl, s3, h5⟩
  refine ⟨fun σ H' => ∃ z5, σ = [some (.ref p), some (.int (S : Int)), some (.int (M : Int)), some (.int (Ls : Int)), some (.int (La : Int)), some (.ref z5), none, none, none, none, none] ∧ Same H2' H' ∧ FeeAt H' z5 S La ((M : Int) - (Ls : Int)) (M : Int), ?_, ?_⟩
  · refine ⟨_, rfl, _, _, rfl, rfl, _, _, rfl, rfl, _, rfl, ite3 (fun e => ?_) (fun e => ?_)⟩
    · refine ⟨_, rfl, _, _, rfl, rfl, _, rfl, by omega, by omega, fun E nE => ?_⟩
      rw [show ((La : Int) + 1).toNat = La + 1 by omega]
      refine lc_range (lo := 0) (n := La + 1) (fun j H' => Same H3 H' ∧ H' E = some (.lst (((List.range j).map fun x : Nat => ((M : Int) - (Ls : Int)) * (x : Int)).map V.int))) ⟨same_upd nE, upd_same⟩ ?_ ?_
      · rintro j H' hj ⟨s', hE⟩
        rw [Int.zero_add]
        refine ⟨rfl, ?_⟩
        unfold tYes
        refine iteT ?_
        refine ⟨_, rfl, _, rfl, _, _, rfl, rfl, _, rfl, _, _, rfl, rfl, .inl ⟨by omega, by omega⟩, _, hE, ?_, fun b o e' => ?_, ?_⟩
        · rw [List.length_map, List.length_map, List.length_range]
          exact Nat.lt_of_le_of_lt (show j ≤ 20000 by omega) (by decide)
        · rw [upd_ne (ne_of_none e' nE)]
          exact s' _ _ e'
        · rw [upd_same, List.range_succ, List.map_append, List.map_append]
          rfl
      rintro H' ⟨s', hE⟩
      refine ⟨E, _, rfl, .inl ⟨SqL.of hE, fun t nt => ?_⟩⟩
      have st := same_upd (o := .tup (((List.range (La + 1)).map fun x : Nat => ((M : Int) - (Ls : Int)) * (x : Int)).map V.int)) nt
      refine ⟨_, rfl, _, rfl, _, _, rfl, rfl, _, rfl, _, _, rfl, rfl, _, _, rfl, rfl, .inl ⟨by omega, by omega⟩, (by show 1 ≤ sizeLine; decide), fun b nb => ?_⟩
      have sb := same_upd (o := .tup [.int ((M : Int) * ((La : Int) + 2 - (S : Int)))]) nb
      refine cat_uni (sb _ _ upd_same) upd_same (by rw [List.length_map, List.length_map, List.length_range]; exact Nat.le_trans (show La + 1 + 1 ≤ 6000 by omega) (by decide)) fun u H6 s6 hu => ⟨_, rfl, (by show 3 ≤ sizeLine; decide), fun q nq => ?_⟩
      have sq := same_upd (o := .tup [.ref u, .int 1, .int (M : Int)]) nq
      refine ⟨q, rfl, s3.trans (s'.trans (st.trans (sb.trans (s6.trans sq)))), .inl ⟨by omega, u, upd_same, sq _ _ ?_⟩⟩
      rw [hu]
      unfold feeT
      rw [List.map_append]
      rfl
    · exact ⟨z5, rfl, s3, .inr ⟨by omega, h5⟩⟩
  rintro σ H4 ⟨z5, rfl, s4, due⟩
  refine ⟨fun σ H' => ∃ z5 d6 d7, σ = [some (.ref p), some (.int (S : Int)), some (.int (M : Int)), some (.int (Ls : Int)), some (.int (La : Int)), some (.ref z5), some (.ref d6), some (.ref d7), none, none, none] ∧ Same H2' H' ∧ FeeAt H' z5 S La ((M : Int) - (Ls : Int)) (M : Int) ∧ RuleAt H' d6 (List.replicate S 0) 1 (M : Int) ∧ RuleAt H' d7 (List.replicate 1 0) 1 ((M : Int) - (Ls : Int)), ?_, ?_⟩
  · refine ⟨(by show 1 ≤ sizeLine; decide), fun a1 na1 => ?_⟩
    have w1 := same_upd (o := .tup [.int 0]) na1
    refine ⟨_, rfl, a1, (S : Int), _, rfl, rfl, upd_same, (fun z => nomatch z), by omega, by omega, (by show 1 ≤ 1000; decide), fun H6 a2 s6 ha2 => ⟨_, rfl, (by show 3 ≤ sizeLine; decide), fun d6 nd6 => ⟨(by show 1 ≤ sizeLine; decide), fun b1 nb1 => ⟨_, rfl, _, rfl, _, _, rfl, rfl, (by show 3 ≤ sizeLine; decide), fun d7 nd7 => ⟨(by show 2 ≤ sizeLine; decide), fun tq ntq => ?_⟩⟩⟩⟩⟩
    rw [stair_tup, Int.toNat_natCast] at ha2
    have w2 := same_upd (o := .tup [.ref a2, .int 1, .int (M : Int)]) nd6
    have w3 := same_upd (o := .tup [.int 0]) nb1
    have w4 := same_upd (o := .tup [.ref b1, .int 1, .int ((M : Int) - (Ls : Int))]) nd7
    have w5 := same_upd (o := .tup [.ref d6, .ref d7]) ntq
    refine ⟨tq, _, rfl, SqT.of upd_same, rfl, _, _, rfl, _, _, rfl, rfl, z5, d6, d7, rfl, s4.trans (w1.trans (s6.trans (w2.trans (w3.trans (w4.trans w5))))), due.same (w1.trans (s6.trans (w2.trans (w3.trans (w4.trans w5))))), ⟨a2, (w3.trans (w4.trans w5)) _ _ upd_same, (w2.trans (w3.trans (w4.trans w5))) _ _ ha2⟩, ⟨b1, w5 _ _ upd_same, (w4.trans w5) _ _ upd_same⟩⟩
  rintro σ H5 ⟨z5, d6, d7, rfl, s5, due, R6, R7⟩
  have ft : FitX (List.replicate S 0) 1 (M : Int) (List.replicate 1 0) 1 ((M : Int) - (Ls : Int)) := fee_fit (by omega) (by omega) (by omega) (by omega) (by omega) (by omega)
  have tb5 : Tabs TT H5 := (Sm.Tabs.fr tb f2 D).ext s5
  have D5 := D2.same s5
  have f5 : FrN p l H H5 := (FrN.of f2).trans (FrN.of (Same.fr s5))
  have sw := ok.shw La1
  obtain ⟨c1, c2, c3, c4⟩ := shw1 sw
  obtain ⟨g1, g2, g3, g4⟩ := shwL sw sw
  refine ⟨fun σ H' => ∃ z8, σ = [some (.ref p), some (.int (S : Int)), some (.int (M : Int)), some (.int (Ls : Int)), some (.int (La : Int)), some (.ref z5), some (.ref d6), some (.ref d7), some (.ref z8), none, none] ∧ ExtN H5 H' ∧ Tabs TT H' ∧ FeeAt H' z8 S La ((M : Int) - (Ls : Int)) (M : Int), ?_, ?_⟩
  · exact split_told XC hts tb5 (fun H6 e6 t6 Q2 hq2 => ⟨_, rfl, _, rfl, hq2 H6 d6 d7 (Same.refl _) (Sm.RuleAt.ext R6 e6) (Sm.RuleAt.ext R7 e6)⟩) ft fun H6 z e6 t6 due6 => ⟨z, rfl, e6, t6, ok.told due6⟩
  rintro σ H6 ⟨z8, rfl, e6, t6, told⟩
  refine ⟨fun σ H' => σ = [some (.ref p), some (.int (S : Int)), some (.int (M : Int)), some (.int (Ls : Int)), some (.int (La : Int)), some (.ref z5), some (.ref d6), some (.ref d7), some (.ref z8), none, none] ∧ ExtN H5 H' ∧ Tabs TT H' ∧ FeeAt H' z8 S La ((M : Int) - (Ls : Int)) (M : Int), ?_, ?_⟩
  · refine ⟨_, rfl, _, _, rfl, rfl, _, _, rfl, rfl, _, rfl, ite3 (fun e => ?_) (fun e => ?_)⟩
    · refine split_told XC hts t6 (fun H7 e7 t7 Q2 hq2 => ⟨_, rfl, _, rfl, hq2 H7 d6 d7 (Same.refl _) (Sm.RuleAt.ext (Sm.RuleAt.ext R6 e6) e7) (Sm.RuleAt.ext (Sm.RuleAt.ext R7 e6) e7)⟩) ft fun H7 z e7 t7 due7 => ?_
      exact ⟨z, _, rfl, (ok.told due7).dp, c1, c2, c3, c4, _, rfl, z8, _, rfl, (told.ext e7).dp, c1, c2, c3, c4, rfl, _, rfl, same_v rfl ⟨rfl, e6.trans e7, t7, told.ext e7⟩⟩
    · exact iteF ⟨rfl, e6, t6, told⟩
  rintro σ H7 ⟨rfl, e7, t7, told⟩
  refine ⟨fun σ H' => ∃ z9, σ = [some (.ref p), some (.int (S : Int)), some (.int (M : Int)), some (.int (Ls : Int)), some (.int (La : Int)), some (.ref z5), some (.ref d6), some (.ref d7), some (.ref z8), some (.ref z9), none] ∧ ExtN H5 H' ∧ Tabs TT H' ∧ FeeAt H' z8 S La ((M : Int) - (Ls : Int)) (M : Int) ∧ FeeAt H' z9 S La ((M : Int) - (Ls : Int)) (M : Int), ?_, ?_⟩
  · exact split_told XC hts t7 (fun H8 e8 t8 Q2 hq2 => ⟨_, rfl, _, rfl, hq2 H8 d7 d6 (Same.refl _) (Sm.RuleAt.ext (Sm.RuleAt.ext R7 e7) e8) (Sm.RuleAt.ext (Sm.RuleAt.ext R6 e7) e8)⟩) ft.swap fun H8 z e8 t8 due8 => ⟨z, rfl, e7.trans e8, t8, told.ext e8, ok.told due8.swap⟩
  rintro σ H8 ⟨z9, rfl, e8, t8, told8, told9⟩
  have due8 := due.ext e8
  refine ⟨_, rfl, _, rfl, (by show 2 ≤ sizeLine; decide), fun x1 nx1 => ?_⟩
  have y1 := same_upd (o := .lst [.ref z8, .ref z9]) nx1
  refine ⟨x1, .list [feeD S La ((M : Int) - (Ls : Int)) (M : Int), feeD S La ((M : Int) - (Ls : Int)) (M : Int)], rfl, .lst (SqL.of upd_same) (.cons (told8.same y1).dp (.cons (told9.same y1).dp .nil)), g1, g2, g3, g4, _, rfl, _, rfl, (by show 2 ≤ sizeLine; decide), fun x2 nx2 => ?_⟩
  have y2 := same_upd (o := .lst [.ref z5, .ref z5]) nx2
  refine ⟨x2, .list [feeD S La ((M : Int) - (Ls : Int)) (M : Int), feeD S La ((M : Int) - (Ls : Int)) (M : Int)], rfl, .lst (SqL.of upd_same) (.cons ((due8.same y1).same y2).dp (.cons ((due8.same y1).same y2).dp .nil)), g1, g2, g3, g4, rfl, ?_⟩
  rw [decide_eq_true rfl]
  exact k _ (n + 1 + 1 + 1 + 1) (f5.trans ((FrN.ext e8).trans (FrN.of (Same.fr (y1.trans y2))))) ((Sm.Deck.ext D5 e8).same (y1.trans y2)) (by omega) (by omega) (t8.ext (y1.trans y2))
end
end Sm

set_option Elab.async false
set_option linter.all false
set_option maxRecDepth 100000
set_option maxHeartbeats 16000000
namespace Sm
open PySem PySem.Spec PyProof.Rows L2 LamX
open C8 (pss_cut tCut)
/-- split_rule where it cannot raise -/
def sp_split_rule (_ : PySem.W.Frag) : Sp := fun vs H Q _ => ∃ (d1 d2 : Addr) (T1 T2 T : List Int) (p1 p2 p : Nat) (r1 r2 r : Int), vs = [.ref d1, .ref d2] ∧ RuleAt H d1 T1 p1 r1 ∧ RuleAt H d2 T2 p2 r2 ∧ FitX T1 p1 r1 T2 p2 r2 ∧ Short T p r ∧ (∀ x, IsC (vl T1 p1 r1) (vl T2 p2 r2) (x + 1) x (vl T p r x)) ∧ T.length ≤ 5000 ∧
  ∀ H' d, Same H H' → RuleAt H' d T p r → Q (.ref d) H'
theorem ok_split0 {P : Program} {w : World} {K : PySem.W.Frag} {mg : Str → Option Value} {base : Heap} {cTooLong : Addr} {k : Nat} (C : CalX P w K mg base "split_rule" ["one", "other"] k (sp_split cTooLong)) : Cal P w K mg base "split_rule" ["one", "other"] k (sp_split_rule K) := by
  obtain ⟨f, fd, F, m, kp, b⟩ := C
  refine ⟨f, fd, ⟨fun vs H Q E h => ?_, fun A outer s H args us vs Q E hr e0 hb hv h => ?_⟩, m, kp, b⟩
  · obtain ⟨a, c, _, _, _, _, _, _, _, _, _, rfl, _⟩ := h
    rfl
  obtain ⟨d1, d2, T1, T2, T0, p1, p2, p0, r1, r2, r0, rfl, R1, R2, ft, s0, c0, lim, k⟩ := h
  refine codeAny_mono (F.run A outer s H args us _ Q E0 hr e0 hb hv ⟨d1, d2, T1, T2, p1, p2, r1, r2, rfl, R1, R2, ft, fun H' d' T' p' r' s R _ sh c l => ?_, fun n hn h => ?_⟩) ?_
  · obtain ⟨rfl, rfl, rfl⟩ := short_one sh s0 fun x => (c x).one (c0 x)
    exact k H' d' s R
  · have h1 := h T0 p0 r0 s0 c0
    omega
  rintro (e | fl) s' got
  · obtain ⟨_, _, _, _, _, _, _, _, _, _, _, _, hE⟩ := got
    exact hE.elim
  · match fl, got with
    | .next, got => exact got.elim
    | .brk, got => exact got.elim
    | .cont, got => exact got.elim
    | .ret u, got => exact got
/-- the best partings have a shortest rule, of a bounded length -/
theorem conv_len {T1 T2 : List Int} {p1 p2 : Nat} {r1 r2 : Int} (o1 : RuleOk T1 p1 r1) (o2 : RuleOk T2 p2 r2) (s1 : RS 100000000000 T1 p1 r1) (s2 : RS 100000000000 T2 p2 r2) : ∃ T p r, Short T p r ∧ (∀ x, IsC (vl T1 p1 r1) (vl T2 p2 r2) (x + 1) x (vl T p r x)) ∧ T.length ≤ 100000000000000000000 := by
  have key : ∀ {Tf Ts : List Int} {pf ps : Nat} {rf rs : Int}, RuleOk Tf pf rf → RuleOk Ts ps rs → RS 100000000000 Tf pf rf → RS 100000000000 Ts ps rs → rf * (ps : Int) ≤ rs * (pf : Int) → ∃ T p r, Short T p r ∧ (∀ x, IsC (vl Tf pf rf) (vl Ts ps rs) (x + 1) x (vl T p r x)) ∧ T.length ≤ 100000000000000000000 := by
    intro Tf Ts pf ps rf rs of os sf ss sl
    have f0 := of.p0
    have z0 := os.p0
    have lf := sf.len
    have ls := ss.len
    have qf := sf.turn
    have qs := ss.turn
    have L0 : 0 < pf * ps := Nat.mul_pos f0 z0
    have L1 : pf * ps ≤ 40 * 40 := Nat.mul_le_mul qf qs
    have df := Nat.dvd_mul_right pf ps
    have ds := Nat.dvd_mul_left ps pf
    obtain ⟨F, S, FS, tf, ts⟩ := turns of.pd os.pd df ds sl
    rcases Nat.eq_zero_or_pos (Ts.length - ps) with z | z
    · have pd := cm_pd of.pd os.pd (Tf.length - pf + pf * ps - 1)
      have ok := tab_ok (f := fun x => cm (vl Tf pf rf) (vl Ts ps rs) x (Tf.length - pf + pf * ps - 1)) pd.p0 pd.r0 pd.turn pd.nn pd.up
      obtain ⟨T, p, r, sh, e⟩ := short_is ok
      have l := short_len sh ok e
      rw [tab_len] at l
      refine ⟨T, p, r, sh, fun x => ?_, by omega⟩
      rw [e, tab_vl (f := fun x => cm (vl Tf pf rf) (vl Ts ps rs) x (Tf.length - pf + pf * ps - 1)) pd.p0 pd.turn]
      exact split_all L0 FS tf ts z x
    · obtain ⟨T, p, r, sh, e, l⟩ := split_is of.pd os.pd L0 df ds sl z
      refine ⟨T, p, r, sh, fun x => by rw [e]; exact split_both L0 FS tf ts z x, ?_⟩
      have g : (rs * (pf : Int)).toNat ≤ 4000000000000 := by
        have a : rs * (pf : Int) ≤ 100000000000 * 40 := Int.mul_le_mul ss.r1 (by omega) (by omega) (by decide)
        omega
      have m : (Ts.length - ps + ps * pf) * (rs * (pf : Int)).toNat ≤ 2000 * 4000000000000 := Nat.mul_le_mul (by rw [Nat.mul_comm ps]; omega) g
      rw [Nat.mul_comm ps pf] at m l
      omega
  rcases Int.le_total (r1 * (p2 : Int)) (r2 * (p1 : Int)) with q | q
  · exact key o1 o2 s1 s2 q
  · obtain ⟨T, p, r, a, b, c⟩ := key o2 o1 s2 s1 q
    exact ⟨T, p, r, a, fun x => (b x).swap, c⟩
/-- what is due, as data -/
def DueCD (d : PyData) (f g : Nat → Int) : Prop :=
  (∃ (T : List Int) (p : Nat) (r : Int), Short T p r ∧ (∀ x, IsC f g (x + 1) x (vl T p r x)) ∧ RB T p r ∧ T.length ≤ 5000 ∧ d = rD T p r) ∨
  ∃ n : Nat, 5000 < n ∧ (∀ T p r, Short T p r → (∀ x, IsC f g (x + 1) x (vl T p r x)) → T.length = n) ∧ d = longD n
theorem DueC.dp {K : PySem.W.Frag} {H : Hp} {q : Addr} {f g : Nat → Int} (h : DueC H q f g) : ∃ d, Dp K H (.ref q) d ∧ DueCD d f g := by
  rcases h with ⟨T, p, r, s, c, b, l, R⟩ | ⟨n, l, hn, e⟩
  · exact ⟨_, R.dp, .inl ⟨T, p, r, s, c, b, l, rfl⟩⟩
  · exact ⟨longD n, .lst (SqL.of e) (.cons (.str _) (.cons (.int _) .nil)), .inr ⟨n, l, hn, rfl⟩⟩
theorem DueCD.shw {d : PyData} {f g : Nat → Int} (h : DueCD d f g) (b : ∃ T p r, Short T p r ∧ (∀ x, IsC f g (x + 1) x (vl T p r x)) ∧ T.length ≤ 100000000000000000000) : Shw d := by
  rcases h with ⟨T, p, r, s, c, rb, l, rfl⟩ | ⟨n, l, hn, rfl⟩
  · exact rD_shw s.ok rb l
  · obtain ⟨T, p, r, s, c, lT⟩ := b
    have := hn T p r s c
    exact longD_shw (by omega)
theorem DueCD.two {d e : PyData} {f g : Nat → Int} (h : DueCD d f g) (k : DueCD e f g) (b : ∃ T p r, Short T p r ∧ (∀ x, IsC f g (x + 1) x (vl T p r x)) ∧ T.length ≤ 100000000000000000000) : d = e := by
  rcases h with ⟨T, p, r, s, c, rb, l, rfl⟩ | ⟨n, l, hn, rfl⟩ <;> rcases k with ⟨T', p', r', s', c', b', l', rfl⟩ | ⟨n', l', hn', rfl⟩
  · obtain ⟨rfl, rfl, rfl⟩ := short_one s s' fun x => (c x).one (c' x)
    rfl
  · have := hn' T p r s c
    omega
  · have := hn T' p' r' s' c'
    omega
  · obtain ⟨T, p, r, s, c, lT⟩ := b
    rw [← hn T p r s c, ← hn' T p r s c]
theorem sizes5 {H : Hp} {t1 t2 t3 t4 t5 : Addr} {i : Nat} (hi : i < 5) (h1 : H t1 = some (.tup [.int 4, .int 4, .int 2])) (h2 : H t2 = some (.tup [.int 0, .int 12, .int 3])) (h3 : H t3 = some (.tup [.int 50, .int 3, .int (10 ^ 9)]))
    (h4 : H t4 = some (.tup [.int 20, .int 8, .int 1])) (h5 : H t5 = some (.tup [.int 30, .int 6, .int 50])) :
    ∃ (tv : Addr) (lo wi ta : Nat), [V.ref t1, V.ref t2, V.ref t3, V.ref t4, V.ref t5][i]? = some (.ref tv) ∧ H tv = some (.tup [.int (lo : Int), .int (wi : Int), .int (ta : Int)]) ∧ 1 ≤ wi ∧ wi ≤ 12 ∧ 1 ≤ ta ∧ ta ≤ 1000000000 ∧ lo ≤ 50 ∧ wi * wi + 2 * (lo + wi) + 3 ≤ 300 ∧ ((ta : Int) + 1) * ((lo : Int) + (wi : Int) + 1) ≤ 60000000000 := by
  obtain rfl | rfl | rfl | rfl | rfl : i = 0 ∨ i = 1 ∨ i = 2 ∨ i = 3 ∨ i = 4 := by omega
  · exact ⟨t1, 4, 4, 2, rfl, h1, by decide, by decide, by decide, by decide, by decide, by decide, by decide⟩
  · exact ⟨t2, 0, 12, 3, rfl, h2, by decide, by decide, by decide, by decide, by decide, by decide, by decide⟩
  · exact ⟨t3, 50, 3, 1000000000, rfl, h3, by decide, by decide, by decide, by decide, by decide, by decide, by decide⟩
  · exact ⟨t4, 20, 8, 1, rfl, h4, by decide, by decide, by decide, by decide, by decide, by decide, by decide⟩
  · exact ⟨t5, 30, 6, 50, rfl, h5, by decide, by decide, by decide, by decide, by decide, by decide, by decide⟩
/-- a rule of the drawn kind -/
structure Nr (T : List Int) (p : Nat) (r : Int) (N w : Nat) : Prop where
  ok : RuleOk T p r
  rs : RS 70000000000 T p r
  len : T.length ≤ N
  turn : p ≤ w
  slope : r ≤ 1000000001 * (p : Int)
theorem vl_slope {T : List Int} {p : Nat} {r B C : Int} (o : RuleOk T p r) (top : ∀ i, i < T.length → T.getD i 0 ≤ B) (C0 : 0 ≤ C) (h : r ≤ C * (p : Int)) (x : Nat) : vl T p r x ≤ B + C * ((x : Int) + (p : Int)) := by
  have p0 := o.p0
  have p1 := o.p1
  unfold vl
  split
  · rename_i q
    have a := top x q
    have b : 0 ≤ C * ((x : Int) + (p : Int)) := Int.mul_nonneg C0 (by omega)
    omega
  · rename_i q
    have hx : T.length ≤ x := by omega
    obtain ⟨z1, z2, z3⟩ := place p0 p1 hx
    have a := top _ z3
    have b : (((x - T.length) / p + 1 : Nat) : Int) * r ≤ (((x - T.length) / p + 1 : Nat) : Int) * (C * (p : Int)) := Int.mul_le_mul_of_nonneg_left h (Int.natCast_nonneg _)
    have c : (((x - T.length) / p + 1 : Nat) : Int) * (C * (p : Int)) = C * ((((x - T.length) / p + 1) * p : Nat) : Int) := by
      rw [Int.natCast_mul, Int.mul_left_comm]
    have d : C * ((((x - T.length) / p + 1) * p : Nat) : Int) ≤ C * ((x : Int) + (p : Int)) := Int.mul_le_mul_of_nonneg_left (Int.le_trans (Int.ofNat_le.mpr z1) (by omega)) C0
    omega
theorem Nr.top {T : List Int} {p : Nat} {r : Int} {N w : Nat} (h : Nr T p r N w) (x : Nat) (hx : x ≤ 300) : vl T p r x ≤ 4000000000000 := by
  have a := vl_slope h.ok h.rs.top (by decide) h.slope x
  have b := h.rs.turn
  omega
/-- two rules in the heap that are parted -/
def PQ (H : Hp) (v : V) : Prop := ∃ (q d e : Addr) (T1 T2 : List Int) (p1 p2 N w : Nat) (r1 r2 : Int), v = .ref q ∧ H q = some (.tup [.ref d, .ref e]) ∧ RuleAt H d T1 p1 r1 ∧ RuleAt H e T2 p2 r2 ∧ Nr T1 p1 r1 N w ∧ Nr T2 p2 r2 (N + 3) w ∧ w * w + 2 * N + 3 ≤ 300
theorem PQ.ext {H H' : Hp} {v : V} (h : PQ H v) (s : ExtN H H') : PQ H' v := by
  obtain ⟨q, d, e, T1, T2, p1, p2, N, w, r1, r2, hv, hq, R1, R2, rest⟩ := h
  exact ⟨q, d, e, T1, T2, p1, p2, N, w, r1, r2, hv, extTup s hq, Sm.RuleAt.ext R1 s, Sm.RuleAt.ext R2 s, rest⟩
theorem nr_few {T1 T2 : List Int} {p1 p2 N w : Nat} {r1 r2 : Int} (a : Nr T1 p1 r1 N w) (b : Nr T2 p2 r2 (N + 3) w) (h : w * w + 2 * N + 3 ≤ 300) : p1 * p2 + T1.length + T2.length ≤ 300 := by
  have := a.len
  have := b.len
  have : p1 * p2 ≤ w * w := Nat.mul_le_mul a.turn b.turn
  omega
theorem nr_fit {T1 T2 : List Int} {p1 p2 N w : Nat} {r1 r2 : Int} (a : Nr T1 p1 r1 N w) (b : Nr T2 p2 r2 (N + 3) w) (h : w * w + 2 * N + 3 ≤ 300) : FitX T1 p1 r1 T2 p2 r2 := by
  have f := nr_few a b h
  have l : Nat.lcm p1 p2 ≤ p1 * p2 := PySem.W.mc_lcm_le p1 p2
  exact ⟨a.ok, b.ok, a.rs.up (by decide), b.rs.up (by decide), by omega, .inr ⟨by omega, fun x hx => ⟨a.top x hx, b.top x hx⟩⟩⟩
theorem zeros_ok {T : List Int} {p k : Nat} {r c : Int} (o : RuleOk T p r) (c0 : 0 ≤ c) : RuleOk (List.replicate k 0 ++ T) p (r + c) := by
  have p0 := o.p0
  have p1 := o.p1
  have ln : (List.replicate k (0 : Int) ++ T).length = k + T.length := by rw [List.length_append, List.length_replicate]
  have g : ∀ i, (List.replicate k (0 : Int) ++ T).getD i 0 = if i < k then 0 else T.getD (i - k) 0 := fun i => by
    rw [List.getD_eq_getElem?_getD, List.getElem?_append, List.length_replicate]
    split
    · rename_i h
      rw [List.getElem?_replicate, if_pos h]
      rfl
    · rw [List.getD_eq_getElem?_getD]
  refine ⟨p0, by omega, by have := o.r0; omega, fun i hi => ?_, fun i hi => ?_, ?_⟩
  · rw [g]
    split
    · exact Int.le_refl _
    · exact o.nn _ (by omega)
  · rw [g, g]
    split
    · split
      · exact Int.le_refl _
      · exact o.nn _ (by omega)
    · rw [if_neg (by omega), show i + 1 - k = i - k + 1 by omega]
      exact o.mono _ (by omega)
  · rw [ln, g, g, if_neg (by omega), if_neg (by omega), show k + T.length - 1 - k = T.length - 1 by omega, show k + T.length - p - k = T.length - p by omega]
    have := o.wrap
    omega
theorem zeros_rs {T : List Int} {p k : Nat} {r c M : Int} (s : RS M T p r) (M0 : 0 ≤ M) (hk : k + T.length ≤ 300) (h : r + c ≤ M) : RS M (List.replicate k 0 ++ T) p (r + c) := by
  have ln : (List.replicate k (0 : Int) ++ T).length = k + T.length := by rw [List.length_append, List.length_replicate]
  refine ⟨by omega, s.turn, h, fun i hi => ?_⟩
  rw [List.getD_eq_getElem?_getD, List.getElem?_append, List.length_replicate]
  split
  · rename_i q
    rw [List.getElem?_replicate, if_pos q]
    exact M0
  · rw [← List.getD_eq_getElem?_getD]
    exact s.top _ (by omega)
theorem Nr.more {T : List Int} {p : Nat} {r : Int} {N M w : Nat} (h : Nr T p r N w) (le : N ≤ M) : Nr T p r M w := ⟨h.ok, h.rs, Nat.le_trans h.len le, h.turn, h.slope⟩
theorem DueC.same {H H' : Hp} {q : Addr} {f g : Nat → Int} (h : DueC H q f g) (s : Same H H') : DueC H' q f g := by
  rcases h with ⟨T, p, r, a, b, c, d, R⟩ | ⟨n, a, b, c⟩
  · exact .inl ⟨T, p, r, a, b, c, d, R.same s⟩
  · exact .inr ⟨n, a, b, s _ _ c⟩
theorem DueC.ext {H H' : Hp} {q : Addr} {f g : Nat → Int} (h : DueC H q f g) (s : ExtN H H') : DueC H' q f g := by
  rcases h with ⟨T, p, r, a, b, c, d, R⟩ | ⟨n, a, b, c⟩
  · exact .inl ⟨T, p, r, a, b, c, d, Sm.RuleAt.ext R s⟩
  · exact .inr ⟨n, a, b, extLst s c⟩
def sp_law (K : PySem.W.Frag) (TT : List (Addr × Str)) : Sp := fun vs H Q _ => ∃ (a : Addr) (ns : List Int), vs = [.ref a] ∧ SqL K H a (ns.map V.int) ∧ ns.length ≤ 63 ∧ Tabs TT H ∧ ∀ H', Q (.bl true) H'
section
variable {P : Program} {w : World} {K : PySem.W.Frag} {mg : Str → Option Value} {base : Heap} {cChangeError cTooLong cBadRule cNoRise cNoStart c Pt : Addr} {TT : List (Addr × Str)}
theorem ok_lawC {f : Addr} {fd : FuncData} (T : Txt mg) (XC : Txt3 K mg cChangeError cTooLong cBadRule cNoRise cNoStart) (F : Fun K "law" "law" s_law f fd) (code : fd.code = .ref c) (TB : TabB base mg c Pt) (hmT : (Pt, q_law) ∈ TT) (hu : ∀ p ∈ TT, p.1 = Pt → p.2 = q_law) (D_l_tried : Df K mg "_law_tried" s_l_tried ["_law_call"]) (X_split_rule : CalX P w K mg base "split_rule" ["one", "other"] 8 (sp_split cTooLong))
  (C_l_deck : Cal P w K mg base "_law_deck" ["_law_script"] 1 (sp_l_deck K)) (C_l_draw : Cal P w K mg base "_law_draw" ["_law_deck_here", "_law_many"] 1 (sp_l_draw K)) (C_l_rule : Cal P w K mg base "_law_rule" ["_law_deck_here", "_law_long", "_law_wide", "_law_tall"] 4 (sp_l_rule K)) (C_l_least : Cal P w K mg base "_law_least" ["_law_rule_here"] 3 (sp_l_least K)) (C_l_split : Cal P w K mg base "_law_split" ["_law_one_here", "_law_other"] 5 (sp_l_split K))
  {f_l_steps_right f_l_fee_right : Addr} {fd_l_steps_right fd_l_fee_right : FuncData} (G_l_steps_right : FnG P w K mg base 12 f_l_steps_right fd_l_steps_right ["_law_deck_here"] (sp_l_right K TT)) (m_l_steps_right : mg "_law_steps_right" = some (.ref f_l_steps_right)) (k_l_steps_right : PySem.W.keepIn K (.ref f_l_steps_right) = true) (b_l_steps_right : L2.Binds K fd_l_steps_right ["_law_deck_here"] [])
  (G_l_fee_right : FnG P w K mg base 12 f_l_fee_right fd_l_fee_right ["_law_deck_here"] (sp_l_right K TT)) (m_l_fee_right : mg "_law_fee_right" = some (.ref f_l_fee_right)) (k_l_fee_right : PySem.W.keepIn K (.ref f_l_fee_right) = true) (b_l_fee_right : L2.Binds K fd_l_fee_right ["_law_deck_here"] []) : FnG P w K mg base 13 f fd ["_law_script"] (sp_law K TT) := by
  obtain ⟨f_l_deck, fd_l_deck, G_l_deck, m_l_deck, k_l_deck, b_l_deck⟩ := C_l_deck
  obtain ⟨f_l_draw, fd_l_draw, G_l_draw, m_l_draw, k_l_draw, b_l_draw⟩ := C_l_draw
  obtain ⟨f_l_rule, fd_l_rule, G_l_rule, m_l_rule, k_l_rule, b_l_rule⟩ := C_l_rule
  obtain ⟨f_l_least, fd_l_least, G_l_least, m_l_least, k_l_least, b_l_least⟩ := C_l_least
  obtain ⟨f_l_split, fd_l_split, G_l_split, m_l_split, k_l_split, b_l_split⟩ := C_l_split
  obtain ⟨f_split_rule, fd_split_rule, G_split_rule, m_split_rule, k_split_rule, b_split_rule⟩ := ok_split0 X_split_rule
  refine FnG.bodyC (k := 12) F code sc_law (fun vs H Q E h => ?_) (fun A outer s H vs Q E gu hr h => ?_)
  · obtain ⟨a, ns, rfl, _⟩ := h
    rfl
  obtain ⟨a, ns, rfl, hS, hlen, tb0, kk⟩ := h
  obtain ⟨ts, hG, hts⟩ := tried_gives (X := X_law P w K mg base f c A outer s H E) (q := q_law) T XC
  refine ⟨_, (pss_cons (ps_set (i := 1) sc_law.nd rfl (Or.inl rfl) (pe_call G_l_deck (hr.mono (by decide)) (by rfl) m_l_deck k_l_deck b_l_deck .nil pass0 (pa_cons (pv 0) pa_nil)))
    (pss_cut (ps_if (pt_not (pt_val (pe_callG G_l_steps_right gu (hr.mono (by decide)) (by rfl) m_l_steps_right k_l_steps_right b_l_steps_right (pa_cons (pv 1) pa_nil)))) (pss_one (ps_ret pe_bl)) pss_nil)
    (pss_cut (ps_set (i := 2) sc_law.nd rfl (Or.inl rfl) (pe_lst (pa_cons (pe_tr_law D_l_tried X_split_rule hG TB hmT hu (hr.mono (by decide)) (by decide +kernel) rfl (fun _ _ _ _ _ _ _ hr => (pa_cons (pe_tup (pa_cons (pe_tup (pa_cons pe_int (pa_cons pe_int pa_nil))) (pa_cons pe_int (pa_cons pe_int pa_nil)))) (pa_cons (pe_tup (pa_cons (pe_tup (pa_cons pe_int pa_nil)) (pa_cons pe_int (pa_cons pe_int pa_nil)))) pa_nil)))) pa_nil)))
    (pss_cut (ps_if (PW.pt (pw_or (pt_cmpR (op_neD hr.units) (pv 2) (pe_lst (pa_cons (pe_lst (pa_cons pe_str (pa_cons pe_int pa_nil))) pa_nil)) (nomark _)) (pw_or1 (pt_cmpR op_ne (pe_callB call_len_seq (by rfl) T.n_len (by decide +kernel) (pa_cons (pe_ix ix_tup (pe_call G_split_rule (hr.mono (by decide)) (by rfl) m_split_rule k_split_rule b_split_rule .nil pass0 (pa_cons (pe_tup (pa_cons (pe_tup (pa_cons pe_int (pa_cons pe_int pa_nil))) (pa_cons pe_int (pa_cons pe_int pa_nil)))) (pa_cons (pe_tup (pa_cons (pe_tup (pa_cons pe_int pa_nil)) (pa_cons pe_int (pa_cons pe_int pa_nil)))) pa_nil))) pe_int (fun _ _ => rfl)) pa_nil)) pe_int (nomark _))))) (pss_one (ps_ret pe_bl)) pss_nil)
    (pss_cut (ps_for PassesOwn.never rfl (pi_range1 (by rfl) T.n_range (pa_cons pe_int pa_nil)) (pg_name (i := 3) sc_law.nd rfl (Or.inl rfl))
      (pss_cons (ps_asg (pe_ix ix_list (pe_lst (pa_cons (pe_tup (pa_cons pe_int (pa_cons pe_int (pa_cons pe_int pa_nil)))) (pa_cons (pe_tup (pa_cons pe_int (pa_cons pe_int (pa_cons pe_int pa_nil)))) (pa_cons (pe_tup (pa_cons pe_int (pa_cons pe_int (pa_cons (pe_op op_pow pe_int pe_int) pa_nil)))) (pa_cons (pe_tup (pa_cons pe_int (pa_cons pe_int (pa_cons pe_int pa_nil)))) (pa_cons (pe_tup (pa_cons pe_int (pa_cons pe_int (pa_cons pe_int pa_nil)))) pa_nil)))))) (pv 3) (fun _ _ => rfl)) (pg_tup (by rfl) (pgs_cons (pg_name (i := 4) sc_law.nd rfl (Or.inl rfl)) (pgs_cons (pg_name (i := 5) sc_law.nd rfl (Or.inl rfl)) (pgs_cons (pg_name (i := 6) sc_law.nd rfl (Or.inl rfl)) pgs_nil)))))
    (pss_cons (ps_par (i := 7) (j := 8) (by rfl) sc_law.nd rfl rfl (by decide) rfl rfl (pa_cons (pe_call G_l_rule (hr.mono (by decide)) (by rfl) m_l_rule k_l_rule b_l_rule .nil pass0 (pa_cons (pv 1) (pa_cons (pv 4) (pa_cons (pv 5) (pa_cons (pv 6) pa_nil))))) (pa_cons (pe_call G_l_rule (hr.mono (by decide)) (by rfl) m_l_rule k_l_rule b_l_rule .nil pass0 (pa_cons (pv 1) (pa_cons (pv 4) (pa_cons (pv 5) (pa_cons (pv 6) pa_nil))))) pa_nil)) (by rfl))
    (pss_cut (ps_set (i := 9) sc_law.nd rfl (Or.inl rfl) (pe_call G_l_least (hr.mono (by decide)) (by rfl) m_l_least k_l_least b_l_least .nil pass0 (pa_cons (pe_tup (pa_cons (pe_op op_catA (pe_op op_rep0 (pe_tup (pa_cons pe_int pa_nil)) (pe_call G_l_draw (hr.mono (by decide)) (by rfl) m_l_draw k_l_draw b_l_draw .nil pass0 (pa_cons (pv 1) (pa_cons pe_int pa_nil)))) (pe_ix ix_tup (pv 7) pe_int (fun _ _ => rfl))) (pa_cons (pe_ix ix_tup (pv 7) pe_int (fun _ _ => rfl)) (pa_cons (pe_op op_add (pe_ix ix_tup (pv 7) pe_int (fun _ _ => rfl)) (pe_call G_l_draw (hr.mono (by decide)) (by rfl) m_l_draw k_l_draw b_l_draw .nil pass0 (pa_cons (pv 1) (pa_cons pe_int pa_nil)))) pa_nil)))) pa_nil)))
    (pss_one (ps_for PassesOwn.never rfl (pi_list (pe_lst (pa_cons (pe_tup (pa_cons (pv 7) (pa_cons (pv 8) pa_nil))) (pa_cons (pe_tup (pa_cons (pv 7) (pa_cons (pv 9) pa_nil))) pa_nil)))) (pg_tup (by rfl) (pgs_cons (pg_name (i := 10) sc_law.nd rfl (Or.inr rfl)) (pgs_cons (pg_name (i := 11) sc_law.nd rfl (Or.inr rfl)) pgs_nil)))
      (pss_cut (ps_set (i := 12) sc_law.nd rfl (Or.inl rfl) (pe_call G_l_split (hr.mono (by decide)) (by rfl) m_l_split k_l_split b_l_split .nil pass0 (pa_cons (pv 10) (pa_cons (pv 11) pa_nil))))
    (pss_cut (ps_set (i := 2) sc_law.nd rfl (Or.inl rfl) (pe_tr_law D_l_tried X_split_rule hG TB hmT hu (hr.mono (by decide)) (by decide +kernel) rfl (fun _ _ _ _ _ _ _ hr => (pa_cons (pv 10) (pa_cons (pv 11) pa_nil)))))
    (pss_cut (ps_set (i := 13) sc_law.nd rfl (Or.inl rfl) (pe_tr_law D_l_tried X_split_rule hG TB hmT hu (hr.mono (by decide)) (by decide +kernel) rfl (fun _ _ _ _ _ _ _ hr => (pa_cons (pv 11) (pa_cons (pv 10) pa_nil)))))
    (pss_one (ps_if (pt_cmpR op_ne (pe_callB (call_repr_data gu ⟨_, hr⟩) (by rfl) T.n_repr (by decide +kernel) (pa_cons (pe_lst (pa_cons (pv 2) (pa_cons (pv 13) pa_nil))) pa_nil)) (pe_callB (call_repr_data gu ⟨_, hr⟩) (by rfl) T.n_repr (by decide +kernel) (pa_cons (pe_lst (pa_cons (pv 12) (pa_cons (pv 12) pa_nil))) pa_nil)) (nomark _)) (pss_one (ps_ret pe_bl)) pss_nil)))))))))))
    (pss_cut (ps_for PassesOwn.never rfl (pi_range1 (by rfl) T.n_range (pa_cons pe_int pa_nil)) (pg_name (i := 3) sc_law.nd rfl (Or.inl rfl))
      (pss_one (ps_if (pt_not (pt_val (pe_callG G_l_fee_right gu (hr.mono (by decide)) (by rfl) m_l_fee_right k_l_fee_right b_l_fee_right (pa_cons (pv 1) pa_nil)))) (pss_one (ps_ret pe_bl)) pss_nil)))
    (pss_cut (ps_set (i := 2) sc_law.nd rfl (Or.inl rfl) (pe_tr_law D_l_tried X_split_rule hG TB hmT hu (hr.mono (by decide)) (by decide +kernel) rfl (fun _ _ _ _ _ _ _ hr => (pa_cons (pe_tup (pa_cons (pe_op op_rep0 (pe_tup (pa_cons pe_int pa_nil)) pe_int) (pa_cons pe_int (pa_cons (pe_op op_pow pe_int pe_int) pa_nil)))) (pa_cons (pe_tup (pa_cons (pe_tup (pa_cons pe_int pa_nil)) (pa_cons pe_int (pa_cons (pe_op op_sub (pe_op op_pow pe_int pe_int) pe_int) pa_nil)))) pa_nil)))))
    (pss_one (ps_ret (pe_cmpR (op_eqD hr.units) (pv 2) (pe_lst (pa_cons pe_str (pa_cons (pe_op op_add (pe_op op_mul pe_int (pe_op op_pow pe_int pe_int)) pe_int) pa_nil))) (nomark _))))))))))), ?_⟩
  refine ⟨_, rfl, a, ns, rfl, hS, hlen, fun H1 p l s1 D1 => ?_⟩
  have tb1 : Tabs TT H1 := tb0.ext s1
  -- the stairs
  refine ⟨fun σ H' => ∃ n, σ = [some (.ref a), some (.ref p), none, none, none, none, none, none, none, none, none, none, none, none] ∧ Deck H' p l n ∧ 0 ≤ n ∧ n ≤ 20 ∧ Tabs TT H', ?_, ?_⟩
  · exact ⟨_, rfl, p, l, 0, rfl, D1, by omega, by omega, tb1, fun H2 n2 f2 D2 a1 a2 t2 => ⟨_, rfl, iteF ⟨n2, rfl, D2, by omega, by omega, t2⟩⟩⟩
  rintro σ H2 ⟨n, rfl, D2, n0, n1, tb2⟩
  -- the first written pair
  have okA : FeeOk 2 4999 1 4999 5000 := ⟨by decide, by decide, by decide, by decide, by decide, by decide, by decide, by decide, by decide⟩
  have okB : FeeOk 2 4998 1 4998 4999 := ⟨by decide, by decide, by decide, by decide, by decide, by decide, by decide, by decide, by decide⟩
  have okC : FeeOk 200 1989999999999 1 9999999999 10000000000 := ⟨by decide, by decide, by decide, by decide, by decide, by decide, by decide, by decide, by decide⟩
  refine ⟨fun σ H' => ∃ L z, σ = [some (.ref a), some (.ref p), some (.ref L), none, none, none, none, none, none, none, none, none, none, none] ∧ ExtN H2 H' ∧ Tabs TT H' ∧ H' L = some (.lst [.ref z]) ∧ FeeAt H' z 2 4999 4999 5000, ?_, ?_⟩
  · refine split_told XC hts tb2 (fun H3 e3 t3 Q2 hq2 => ?_) (fee_fit (S := 2) (M := 5000) (m := 4999) (by decide) (by decide) (by decide) (by decide) (by decide) (by decide)) fun H3 z e3 t3 due => ⟨(by show 1 ≤ sizeLine; decide), fun L nL => ⟨L, z, rfl, e3.trans (ExtN.of (same_upd nL)), t3.ext (same_upd nL), upd_same, (okA.told due).same (same_upd nL)⟩⟩
    refine ⟨(by show 2 ≤ sizeLine; decide), fun x1 nx1 => ⟨(by show 3 ≤ sizeLine; decide), fun x2 nx2 => ⟨(by show 1 ≤ sizeLine; decide), fun x3 nx3 => ⟨(by show 3 ≤ sizeLine; decide), fun x4 nx4 => ?_⟩⟩⟩⟩
    have w1 := same_upd (o := .tup [.int 0, .int 0]) nx1
    have w2 := same_upd (o := .tup [.ref x1, .int 1, .int 5000]) nx2
    have w3 := same_upd (o := .tup [.int 0]) nx3
    have w4 := same_upd (o := .tup [.ref x3, .int 1, .int 4999]) nx4
    exact hq2 _ x2 x4 (w1.trans (w2.trans (w3.trans w4))) ⟨x1, (w3.trans w4) _ _ upd_same, (w2.trans (w3.trans w4)) _ _ upd_same⟩ ⟨x3, upd_same, w4 _ _ upd_same⟩
  rintro σ H3 ⟨L, z, rfl, e3, tb3, hL, told⟩
  have hz : H3 z = some (.lst [.str "long", .int 5001]) := by
    rcases told with ⟨q, _⟩ | ⟨_, q⟩
    · omega
    · exact q
  have D3 : Deck H3 p l n := Sm.Deck.ext D2 e3
  refine ⟨fun σ H' => σ = [some (.ref a), some (.ref p), some (.ref L), none, none, none, none, none, none, none, none, none, none, none] ∧ Same H3 H', ?_, ?_⟩
  · refine ⟨_, rfl, (by show 2 ≤ sizeLine; decide), fun y1 ny1 => ⟨(by show 1 ≤ sizeLine; decide), fun y2 ny2 => ?_⟩⟩
    have w1 := same_upd (o := .lst [.str "long", .int 5001]) ny1
    have w2 := same_upd (o := .lst [.ref y1]) ny2
    refine ⟨.list [longD 5001], .list [longD 5001], .lst (SqL.of ((w1.trans w2) _ _ hL)) (.cons (.lst (SqL.of ((w1.trans w2) _ _ hz)) (.cons (.str _) (.cons (.int _) .nil))) .nil), .lst (SqL.of upd_same) (.cons (.lst (SqL.of (w2 _ _ upd_same)) (.cons (.str _) (.cons (.int _) .nil))) .nil), by decide +kernel, by decide +kernel, ?_⟩
    rw [show PyData.eqv (.list [longD 5001]) (.list [longD 5001]) = true by decide +kernel]
    refine ⟨_, rfl, iteF ?_⟩
    refine ⟨(by show 2 ≤ sizeLine; decide), fun x1 nx1 => ⟨(by show 3 ≤ sizeLine; decide), fun x2 nx2 => ⟨(by show 1 ≤ sizeLine; decide), fun x3 nx3 => ⟨(by show 3 ≤ sizeLine; decide), fun x4 nx4 => ?_⟩⟩⟩⟩
    have w3 := same_upd (o := .tup [.int 0, .int 0]) nx1
    have w4 := same_upd (o := .tup [.ref x1, .int 1, .int 4999]) nx2
    have w5 := same_upd (o := .tup [.int 0]) nx3
    have w6 := same_upd (o := .tup [.ref x3, .int 1, .int 4998]) nx4
    refine ⟨x2, x4, List.replicate 2 0, List.replicate 1 0, feeT 2 4998 4998 4999, 1, 1, 1, 4999, 4998, 4999, rfl, ⟨x1, (w5.trans w6) _ _ upd_same, (w4.trans (w5.trans w6)) _ _ upd_same⟩, ⟨x3, upd_same, w6 _ _ upd_same⟩, fee_fit (by decide) (by decide) (by decide) (by decide) (by decide) (by decide), okB.tab.1, okB.tab.2, by rw [feeT_len]; decide, fun H5 q s5 R => ?_⟩
    obtain ⟨t, hd, ht⟩ := R
    refine ⟨_, _, _, _, rfl, rfl, SqT.of hd, atI_nat (j := 0) rfl, _, _, rfl, .inr (SqT.of ht), rfl, _, rfl, same_v (by rw [List.length_map, feeT_len]; rfl) ⟨rfl, w1.trans (w2.trans (w3.trans (w4.trans (w5.trans (w6.trans s5)))))⟩⟩
  rintro σ H4 ⟨rfl, s4⟩
  have D4 := D3.same s4
  have tb4 := tb3.ext s4
  obtain ⟨v2, hv2⟩ : ∃ v2 : Option V, v2 = some (.ref L) := ⟨_, rfl⟩
  rw [← hv2]
  -- the drawn rules
  refine ⟨fun σ H' => ∃ (n : Int) (v2 v3 v4 v5 v6 v7 v8 v9 v10 v11 v12 v13 : Option V), σ = [some (.ref a), some (.ref p), v2, v3, v4, v5, v6, v7, v8, v9, v10, v11, v12, v13] ∧ Deck H' p l n ∧ 0 ≤ n ∧ n ≤ 20000 ∧ Tabs TT H', ?_, ?_⟩
  · refine ⟨5, rfl, (by decide), (by decide), for_range (lo := 0) (n := 5) (fun i σ H' => ∃ (n : Int) (v2 v3 v4 v5 v6 v7 v8 v9 v10 v11 v12 v13 : Option V), σ = [some (.ref a), some (.ref p), v2, v3, v4, v5, v6, v7, v8, v9, v10, v11, v12, v13] ∧ Deck H' p l n ∧ 0 ≤ n ∧ n ≤ 20 + 3000 * (i : Int) ∧ Tabs TT H')
      ⟨n, v2, none, none, none, none, none, none, none, none, none, none, none, rfl, D4, by omega, by omega, tb4⟩ ?_ ?_⟩
    · clear hv2 D4 tb4 s4 D3 hz told hL tb3 e3 D2 tb2
      rintro i σ H2 hi ⟨n, v2, v3, v4, v5, v6, v7, v8, v9, v10, v11, v12, v13, rfl, D2, n0, n1, tb2⟩
      refine ⟨(by show 3 ≤ sizeLine; decide), fun t1 nt1 => ⟨(by show 3 ≤ sizeLine; decide), fun t2 nt2 => ⟨_, _, rfl, rfl, ⟨by decide, by decide, by decide⟩, (by show 3 ≤ sizeLine; decide), fun t3 nt3 => ⟨(by show 3 ≤ sizeLine; decide), fun t4 nt4 =>
        ⟨(by show 3 ≤ sizeLine; decide), fun t5 nt5 => ⟨(by show 5 ≤ sizeLine; decide), fun tb ntb => ?_⟩⟩⟩⟩⟩⟩
      have u1 := same_upd (o := .tup [.int 4, .int 4, .int 2]) nt1
      have u2 := same_upd (o := .tup [.int 0, .int 12, .int 3]) nt2
      have u3 := same_upd (o := .tup [.int 50, .int 3, .int (10 ^ 9)]) nt3
      have u4 := same_upd (o := .tup [.int 20, .int 8, .int 1]) nt4
      have u5 := same_upd (o := .tup [.int 30, .int 6, .int 50]) nt5
      have ub := same_upd (o := .lst [.ref t1, .ref t2, .ref t3, .ref t4, .ref t5]) ntb
      obtain ⟨tv, lo, wi, ta, hget, htv, wi0, wi1, ta0, ta1, lo1, hN, hM⟩ := sizes5 hi ((u2.trans (u3.trans (u4.trans (u5.trans ub)))) _ _ upd_same) ((u3.trans (u4.trans (u5.trans ub))) _ _ upd_same) ((u4.trans (u5.trans ub)) _ _ upd_same) ((u5.trans ub) _ _ upd_same) (ub _ _ upd_same)
      have sA := u1.trans (u2.trans (u3.trans (u4.trans (u5.trans ub))))
      have DA := D2.same sA
      have tbA := tb2.ext sA
      refine ⟨_, rfl, _, _, _, _, rfl, rfl, SqL.of upd_same, at_of (j := i) (Int.zero_add _) hget, _, _, rfl, SqT.of htv, rfl, _, _, rfl, _, _, rfl, _, _, rfl, rfl, ?_⟩
      generalize upd (upd (upd (upd (upd (upd H2 t1 _) t2 _) t3 _) t4 _) t5 _) tb _ = HA at sA DA tbA htv ⊢
      clear u1 u2 u3 u4 u5 ub nt1 nt2 nt3 nt4 nt5 ntb
      refine ⟨_, rfl, _, rfl, _, rfl, _, rfl, p, l, n, lo, wi, ta, 60000000000, rfl, DA, n0, by omega, by omega, by omega, by omega, by omega, by omega, by omega, hM, by decide, fun HB d1 T1 p1 r1 nB fB DB mB0 mB1 R1 rs1 ln1 sh1 pw1 sl1 => ?_⟩
      refine ⟨_, rfl, _, rfl, _, rfl, _, rfl, p, l, nB, lo, wi, ta, 60000000000, rfl, DB, by omega, by omega, by omega, by omega, by omega, by omega, by omega, by omega, hM, by decide, fun HC d2 T2 p2 r2 nC fC DC mC0 mC1 R2 rs2 ln2 sh2 pw2 sl2 => ⟨_, _, rfl, ?_⟩⟩
      have R1 := R1.fr fC DB
      have tbC : Tabs TT HC := Sm.Tabs.fr (Sm.Tabs.fr tbA fB DA) fC DB
      have sl : ∀ q : Nat, (ta : Int) * (q : Int) ≤ 1000000000 * (q : Int) := fun q => Int.mul_le_mul_of_nonneg_right (by omega) (Int.natCast_nonneg _)
      have nr1 : Nr T1 p1 r1 (lo + wi) wi := ⟨sh1.ok, rs1.up (by decide), by omega, by omega, by have := sl p1; omega⟩
      have nr2 : Nr T2 p2 r2 (lo + wi) wi := ⟨sh2.ok, rs2.up (by decide), by omega, by omega, by have := sl p2; omega⟩
      -- near
      refine ⟨fun σ H' => ∃ d9 n' T9 p9 r9, σ = [some (.ref a), some (.ref p), v2, some (.int (0 + (i : Int))), some (.int (lo : Int)), some (.int (wi : Int)), some (.int (ta : Int)), some (.ref d1), some (.ref d2), some (.ref d9), v10, v11, v12, v13] ∧ Deck H' p l n' ∧ nC ≤ n' ∧ n' ≤ nC + 2 ∧ Tabs TT H' ∧ RuleAt H' d1 T1 p1 r1 ∧ RuleAt H' d2 T2 p2 r2 ∧ RuleAt H' d9 T9 p9 r9 ∧ Nr T9 p9 r9 (lo + wi + 3) wi, ?_, ?_⟩
      · refine ⟨(by show 1 ≤ sizeLine; decide), fun a1 na1 => ?_⟩
        have w1 := same_upd (o := .tup [.int 0]) na1
        refine ⟨_, rfl, p, l, nC, 4, rfl, DC.same w1, by omega, by omega, by decide, by decide, fun k7 HD k70 k71 fD DD => ?_⟩
        refine ⟨a1, k7, _, rfl, rfl, fD.tup (DC.same w1) upd_same, (fun z => nomatch z), by omega, by omega, (by show 1 ≤ 1000; decide), fun HE a2 sE ha2 => ?_⟩
        rw [stair_tup] at ha2
        have R1E := ((R1.same w1).fr fD (DC.same w1)).same sE
        have R2E := ((R2.same w1).fr fD (DC.same w1)).same sE
        have tbE : Tabs TT HE := (Sm.Tabs.fr (tbC.ext w1) fD (DC.same w1)).ext sE
        obtain ⟨tt, hd, ht⟩ := id R1E
        refine ⟨_, rfl, _, _, _, _, rfl, rfl, SqT.of hd, atI_nat (j := 0) rfl, cat_uni ha2 ht (by rw [List.length_map, List.length_map, List.length_replicate]; exact Nat.le_trans (show k7.toNat + T1.length ≤ 1000 by have := rs1.len; omega) (by decide)) fun u HF sF hu => ?_⟩
        rw [← List.map_append] at hu
        refine ⟨_, rfl, _, _, _, _, rfl, rfl, SqT.of (sF _ _ hd), atI_nat (j := 1) rfl, _, rfl, _, _, _, _, rfl, rfl, SqT.of (sF _ _ hd), atI_nat (j := 2) rfl, _, rfl, p, l, nC + 1, 2, rfl, (DD.same sE).same sF, by omega, by omega, by decide, by decide, fun cc HG c0 c1 fG DG => ⟨_, _, rfl, rfl, (by show 3 ≤ sizeLine; decide), fun q nq => ?_⟩⟩
        have hu := fG.tup ((DD.same sE).same sF) hu
        have sq := same_upd (o := .tup [.ref u, .int (p1 : Int), .int (r1 + cc)]) nq
        have okn := zeros_ok (k := k7.toNat) sh1.ok c0
        have rsn : RS 70000000000 (List.replicate k7.toNat 0 ++ T1) p1 (r1 + cc) := zeros_rs (rs1.up (by decide)) (by decide) (by have := rs1.len; omega) (by have := rs1.r1; omega)
        refine ⟨q, _, p1, r1 + cc, rfl, ⟨u, upd_same, sq _ _ hu⟩, okn, rsn.rb (by decide), fun HH d9 T9 p9 r9 sH R9 cut sh9 hv9 => ?_⟩
        have s := sq.trans sH
        have cl := cut.len
        rw [List.length_append, List.length_replicate] at cl
        refine ⟨d9, nC + 1 + 1, T9, p9, r9, rfl, DG.same s, by omega, by omega, (Sm.Tabs.fr (tbE.ext sF) fG ((DD.same sE).same sF)).ext s, ((R1E.same sF).fr fG ((DD.same sE).same sF)).same s, ((R2E.same sF).fr fG ((DD.same sE).same sF)).same s, R9, sh9.ok, cut.rs rsn, by omega, by have := cut.turn; omega, ?_⟩
        have p0 := sh1.ok.p0
        exact slope_le (C := 1000000001) p0 (slope_eq okn sh9.ok hv9) (by have := sl p1; omega)
      rintro σ HD ⟨d9, nD, T9, p9, r9, rfl, DD, mD0, mD1, tbD, R1, R2, R9, nr9⟩
      -- the pairs
      refine ⟨_, rfl, _, rfl, (by show 2 ≤ sizeLine; decide), fun q1 nq1 => ⟨_, rfl, _, rfl, (by show 2 ≤ sizeLine; decide), fun q2 nq2 => ⟨(by show 2 ≤ sizeLine; decide), fun U nU => ?_⟩⟩⟩
      have w1 := same_upd (o := .tup [.ref d1, .ref d2]) nq1
      have w2 := same_upd (o := .tup [.ref d1, .ref d9]) nq2
      have w3 := same_upd (o := .lst [.ref q1, .ref q2]) nU
      have ww := w1.trans (w2.trans w3)
      have h1 := (w2.trans w3) q1 (.tup [.ref d1, .ref d2]) upd_same
      have h2 := w3 q2 (.tup [.ref d1, .ref d9]) upd_same
      have hU : upd (upd (upd HD q1 (.tup [.ref d1, .ref d2])) q2 (.tup [.ref d1, .ref d9])) U (.lst [.ref q1, .ref q2]) U = some (.lst [.ref q1, .ref q2]) := upd_same
      have all : ∀ v ∈ [V.ref q1, V.ref q2], PQ (upd (upd (upd HD q1 (.tup [.ref d1, .ref d2])) q2 (.tup [.ref d1, .ref d9])) U (.lst [.ref q1, .ref q2])) v := fun v hv => by
        simp only [List.mem_cons, List.not_mem_nil, or_false] at hv
        rcases hv with rfl | rfl
        · exact ⟨q1, d1, d2, T1, T2, p1, p2, lo + wi, wi, r1, r2, rfl, h1, R1.same ww, R2.same ww, nr1, nr2.more (by omega), hN⟩
        · exact ⟨q2, d1, d9, T1, T9, p1, p9, lo + wi, wi, r1, r9, rfl, h2, R1.same ww, R9.same ww, nr1, nr9, hN⟩
      have DF := DD.same ww
      have tbF := tbD.ext ww
      generalize upd (upd (upd HD q1 (.tup [.ref d1, .ref d2])) q2 (.tup [.ref d1, .ref d9])) U (.lst [.ref q1, .ref q2]) = HF at all hU DF tbF ⊢
      clear w1 w2 w3 ww h1 h2 nq1 nq2 nU
      refine ⟨U, rfl, ⟨_, SqL.of hU⟩, for_list (K := K) (a := U) (xs := [.ref q1, .ref q2]) (fun j σ H' => ExtN HF H' ∧ Tabs TT H' ∧ ∃ w2 w10 w11 w12 w13, σ = [some (.ref a), some (.ref p), w2, some (.int (0 + (i : Int))), some (.int (lo : Int)), some (.int (wi : Int)), some (.int (ta : Int)), some (.ref d1), some (.ref d2), some (.ref d9), w10, w11, w12, w13]) ⟨ExtN.refl _, tbF, _, _, _, _, _, rfl⟩ (fun j σ H' _ h => SqL.of (extLst h.1 hU)) ?_ ?_⟩
      · rintro j v σ H' hv ⟨e', tb', w2, w10, w11, w12, w13, rfl⟩
        obtain ⟨q, d, e, X1, X2, x1, x2, N, w, y1, y2, rfl, hq, RA, RB, na, nb, hw⟩ := (all v (List.mem_of_getElem? hv)).ext e'
        have ft := nr_fit na nb hw
        have bnd := conv_len na.ok nb.ok (na.rs.up (by decide)) (nb.rs.up (by decide))
        refine ⟨q, _, rfl, SqT.of hq, rfl, _, _, rfl, _, _, rfl, rfl, ?_⟩
        refine ⟨fun σ H'' => ∃ z12, σ = [some (.ref a), some (.ref p), w2, some (.int (0 + (i : Int))), some (.int (lo : Int)), some (.int (wi : Int)), some (.int (ta : Int)), some (.ref d1), some (.ref d2), some (.ref d9), some (.ref d), some (.ref e), some (.ref z12), w13] ∧ Same H' H'' ∧ DueC H'' z12 (vl X1 x1 y1) (vl X2 x2 y2), ?_, ?_⟩
        · exact ⟨_, rfl, _, rfl, d, e, X1, X2, x1, x2, y1, y2, rfl, RA, RB, na.ok, nb.ok, na.rs.up (by decide), nb.rs.up (by decide), nr_few na nb hw, fun x hx => ⟨na.top x hx, nb.top x hx⟩, fun H'' z s'' due => ⟨z, rfl, s'', due⟩⟩
        rintro σ H5 ⟨z12, rfl, s5, due⟩
        have tb5 := tb'.ext s5
        have RA := RA.same s5
        have RB := RB.same s5
        refine ⟨fun σ H'' => ∃ z2, σ = [some (.ref a), some (.ref p), some (.ref z2), some (.int (0 + (i : Int))), some (.int (lo : Int)), some (.int (wi : Int)), some (.int (ta : Int)), some (.ref d1), some (.ref d2), some (.ref d9), some (.ref d), some (.ref e), some (.ref z12), w13] ∧ ExtN H5 H'' ∧ Tabs TT H'' ∧ DueC H'' z2 (vl X1 x1 y1) (vl X2 x2 y2), ?_, ?_⟩
        · exact split_told XC hts tb5 (fun H6 e6 t6 Q2 hq2 => ⟨_, rfl, _, rfl, hq2 H6 d e (Same.refl _) (Sm.RuleAt.ext RA e6) (Sm.RuleAt.ext RB e6)⟩) ft fun H6 z e6 t6 due6 => ⟨z, rfl, e6, t6, due6⟩
        rintro σ H6 ⟨z2, rfl, e6, t6, told⟩
        refine ⟨fun σ H'' => ∃ z13, σ = [some (.ref a), some (.ref p), some (.ref z2), some (.int (0 + (i : Int))), some (.int (lo : Int)), some (.int (wi : Int)), some (.int (ta : Int)), some (.ref d1), some (.ref d2), some (.ref d9), some (.ref d), some (.ref e), some (.ref z12), some (.ref z13)] ∧ ExtN H6 H'' ∧ Tabs TT H'' ∧ DueC H'' z13 (vl X1 x1 y1) (vl X2 x2 y2), ?_, ?_⟩
        · exact split_told XC hts t6 (fun H7 e7 t7 Q2 hq2 => ⟨_, rfl, _, rfl, hq2 H7 e d (Same.refl _) (Sm.RuleAt.ext (Sm.RuleAt.ext RB e6) e7) (Sm.RuleAt.ext (Sm.RuleAt.ext RA e6) e7)⟩) ft.swap fun H7 z e7 t7 due7 => ⟨z, rfl, e7, t7, due7.swap⟩
        rintro σ H7 ⟨z13, rfl, e7, t7, turned⟩
        have told := told.ext e7
        have due := (due.ext e6).ext e7
        refine ⟨_, rfl, _, rfl, (by show 2 ≤ sizeLine; decide), fun g1 ng1 => ?_⟩
        have w1 := same_upd (o := .lst [.ref z2, .ref z13]) ng1
        obtain ⟨A1, dp1, dd1⟩ := (told.same w1).dp (K := K)
        obtain ⟨A2, dp2, dd2⟩ := (turned.same w1).dp (K := K)
        obtain rfl := dd1.two dd2 bnd
        obtain ⟨c1, c2, c3, c4⟩ := shwL (dd1.shw bnd) (dd1.shw bnd)
        refine ⟨g1, .list [A1, A1], rfl, .lst (SqL.of upd_same) (.cons dp1 (.cons dp2 .nil)), c1, c2, c3, c4, _, rfl, _, rfl, (by show 2 ≤ sizeLine; decide), fun g2 ng2 => ?_⟩
        have w2' := same_upd (o := .lst [.ref z12, .ref z12]) ng2
        obtain ⟨A3, dp3, dd3⟩ := ((due.same w1).same w2').dp (K := K)
        obtain rfl := dd1.two dd3 bnd
        exact ⟨g2, .list [A1, A1], rfl, .lst (SqL.of upd_same) (.cons dp3 (.cons dp3 .nil)), c1, c2, c3, c4, rfl, _, rfl, same_v rfl ⟨e'.trans ((ExtN.of s5).trans (e6.trans (e7.trans (ExtN.of (w1.trans w2'))))), t7.ext (w1.trans w2'), _, _, _, _, _, rfl⟩⟩
      · rintro σ H' ⟨e', tb', w2, w10, w11, w12, w13, rfl⟩
        exact ⟨nD, _, _, _, _, _, _, _, _, _, _, _, _, rfl, Sm.Deck.ext DF e', by omega, by omega, tb'⟩
    · rintro σ H' ⟨n, v2, v3, v4, v5, v6, v7, v8, v9, v10, v11, v12, v13, rfl, D2, n0, n1, tb2⟩
      exact ⟨n, v2, v3, v4, v5, v6, v7, v8, v9, v10, v11, v12, v13, rfl, D2, n0, by omega, tb2⟩
  rintro σ H5 ⟨n, v2, v3, v4, v5, v6, v7, v8, v9, v10, v11, v12, v13, rfl, D5, n0, n1, tb5⟩
  -- the fees
  refine ⟨fun σ H' => ∃ (n : Int) (v2 v3 v4 v5 v6 v7 v8 v9 v10 v11 v12 v13 : Option V), σ = [some (.ref a), some (.ref p), v2, v3, v4, v5, v6, v7, v8, v9, v10, v11, v12, v13] ∧ Tabs TT H', ?_, ?_⟩
  · refine ⟨6, rfl, (by decide), (by decide), for_range (lo := 0) (n := 6) (fun i σ H' => ∃ (n : Int) (v2 v3 v4 v5 v6 v7 v8 v9 v10 v11 v12 v13 : Option V), σ = [some (.ref a), some (.ref p), v2, v3, v4, v5, v6, v7, v8, v9, v10, v11, v12, v13] ∧ Deck H' p l n ∧ 0 ≤ n ∧ n ≤ 20000 + 20 * (i : Int) ∧ Tabs TT H')
      ⟨n, v2, v3, v4, v5, v6, v7, v8, v9, v10, v11, v12, v13, rfl, D5, by omega, by omega, tb5⟩ ?_ ?_⟩
    · rintro i σ H' hi ⟨n, v2, v3, v4, v5, v6, v7, v8, v9, v10, v11, v12, v13, rfl, D', n0, n1, tb'⟩
      exact ⟨_, rfl, p, l, n, rfl, D', n0, by omega, tb', fun H'' n' f' D'' a1 a2 t' => ⟨_, rfl, iteF ⟨n', v2, _, v4, v5, v6, v7, v8, v9, v10, v11, v12, v13, rfl, D'', by omega, by omega, t'⟩⟩⟩
    · rintro σ H' ⟨n, v2, v3, v4, v5, v6, v7, v8, v9, v10, v11, v12, v13, rfl, D', n0, n1, tb'⟩
      exact ⟨n, v2, v3, v4, v5, v6, v7, v8, v9, v10, v11, v12, v13, rfl, tb'⟩
  rintro σ H6 ⟨n, v2, v3, v4, v5, v6, v7, v8, v9, v10, v11, v12, v13, rfl, tb6⟩
  -- the last written pair
  refine ⟨fun σ H' => ∃ z, σ = [some (.ref a), some (.ref p), some (.ref z), v3, v4, v5, v6, v7, v8, v9, v10, v11, v12, v13] ∧ FeeAt H' z 200 1989999999999 9999999999 10000000000, ?_, ?_⟩
  · refine split_told XC hts tb6 (fun H3 e3 t3 Q2 hq2 => ?_) (fee_fit (S := 200) (M := 10000000000) (m := 9999999999) (by decide) (by decide) (by decide) (by decide) (by decide) (by decide)) fun H3 z e3 t3 due => ⟨z, rfl, okC.told due⟩
    refine ⟨(by show 1 ≤ sizeLine; decide), fun a1 na1 => ?_⟩
    have w1 := same_upd (o := .tup [.int 0]) na1
    refine ⟨a1, 200, _, rfl, rfl, upd_same, (fun z => nomatch z), by decide, by decide, (by show 1 ≤ 1000; decide), fun H6 a2 s6 ha2 => ?_⟩
    rw [show Int.toNat 200 = 200 from rfl, stair_tup] at ha2
    refine ⟨_, _, rfl, rfl, ⟨by decide, by decide, by decide⟩, (by show 3 ≤ sizeLine; decide), fun x2 nx2 => ⟨(by show 1 ≤ sizeLine; decide), fun b1 nb1 => ⟨_, _, rfl, rfl, ⟨by decide, by decide, by decide⟩, _, _, rfl, rfl, (by show 3 ≤ sizeLine; decide), fun x4 nx4 => ?_⟩⟩⟩
    have h2 : upd H6 x2 (.tup [.ref a2, .int 1, .int (10 ^ Int.toNat 10)]) x2 = some (.tup [.ref a2, .int 1, .int 10000000000]) := upd_same
    have w2 := same_upd (o := .tup [.ref a2, .int 1, .int (10 ^ Int.toNat 10)]) nx2
    have w3 := same_upd (o := .tup [.int 0]) nb1
    have w4 := same_upd (o := .tup [.ref b1, .int 1, .int (10 ^ Int.toNat 10 - 1)]) nx4
    refine hq2 _ x2 x4 (w1.trans (s6.trans (w2.trans (w3.trans w4)))) ⟨a2, (w3.trans w4) _ _ h2, (w2.trans (w3.trans w4)) _ _ ha2⟩ ⟨b1, ?_, w4 _ _ upd_same⟩
    exact upd_same
  rintro σ H7 ⟨z, rfl, told⟩
  have hz : H7 z = some (.lst [.str "long", .int 1990000000001]) := by
    rcases told with ⟨q, _⟩ | ⟨_, q⟩
    · omega
    · exact q
  refine ⟨_, rfl, _, _, rfl, rfl, ⟨by decide, by decide, by decide⟩, _, _, rfl, rfl, .inl ⟨by decide, by decide⟩, _, _, rfl, rfl, (by show 2 ≤ sizeLine; decide), fun y ny => ?_⟩
  have w1 := same_upd (o := .lst [.str "long", .int (199 * 10 ^ Int.toNat 10 + 1)]) ny
  have hy : upd H7 y (.lst [.str "long", .int (199 * 10 ^ Int.toNat 10 + 1)]) y = some (.lst [.str "long", .int 1990000000001]) := upd_same
  refine ⟨longD 1990000000001, longD 1990000000001, .lst (SqL.of (w1 _ _ hz)) (.cons (.str _) (.cons (.int _) .nil)), .lst (SqL.of hy) (.cons (.str _) (.cons (.int _) .nil)), by decide +kernel, by decide +kernel, ?_⟩
  rw [show PyData.eqv (longD 1990000000001) (longD 1990000000001) = true by decide +kernel]
  exact kk _
end
end Sm

set_option Elab.async false
set_option linter.all false
set_option maxRecDepth 100000
set_option maxHeartbeats 16000000
namespace Sm
open PySem PySem.Spec PyProof.Rows L2 LamX
theorem in3 {α : Type} {p : α → Prop} {a b c : α} (x : p a) (y : p b) (z : p c) : ∀ t ∈ [a, b, c], p t := by
  intro t ht
  rcases List.mem_cons.mp ht with rfl | ht
  · exact x
  · rcases List.mem_cons.mp ht with rfl | ht
    · exact y
    · rcases List.mem_cons.mp ht with rfl | ht
      · exact z
      · exact absurd ht List.not_mem_nil
theorem all_mk {l : PySem.W.OpenLaw} {w : World} {K : PySem.W.Frag} {h : Heap} {mg : Str → Option Value} {fa : Addr} (X : K.In h) (G : h.Ns mainGlobals mg) (hfa : mg "law" = some (.ref fa)) {q : Program} (own : ∀ (nm : Str) (f : Addr), ((recsOf q).any fun e => e.name == nm) = true → mg nm = some (.ref f) → LamX.OwnTab K f h) {cL cF cS : Addr}
    {F_shortest : Addr} {od_shortest an_shortest : Option Addr} {sl_shortest : Array (Option Value)} {oc_shortest kV_shortest dc_shortest pm_shortest cd_shortest ct_shortest : Value} (a_shortest : PySem.W.nsIn K mainGlobals "shortest" = some (some (.ref F_shortest))) (l_shortest : K.lookup F_shortest = some ⟨oc_shortest, od_shortest, .func (PySem.W.fnOf "shortest" "shortest" (defArgs s_shortest) (defBody s_shortest) (defScope s_shortest) .none kV_shortest dc_shortest pm_shortest an_shortest cd_shortest ct_shortest), sl_shortest⟩) (c_shortest : PySem.W.codeIn K cd_shortest "shortest" = true) (k_shortest : PySem.W.keepIn K (.ref F_shortest) = true)
    {F_cycle_of : Addr} {od_cycle_of an_cycle_of : Option Addr} {sl_cycle_of : Array (Option Value)} {oc_cycle_of kV_cycle_of dc_cycle_of pm_cycle_of cd_cycle_of ct_cycle_of : Value} (a_cycle_of : PySem.W.nsIn K mainGlobals "cycle_of" = some (some (.ref F_cycle_of))) (l_cycle_of : K.lookup F_cycle_of = some ⟨oc_cycle_of, od_cycle_of, .func (PySem.W.fnOf "cycle_of" "cycle_of" (defArgs s_cycle_of) (defBody s_cycle_of) (defScope s_cycle_of) .none kV_cycle_of dc_cycle_of pm_cycle_of an_cycle_of cd_cycle_of ct_cycle_of), sl_cycle_of⟩) (c_cycle_of : PySem.W.codeIn K cd_cycle_of "cycle_of" = true) (k_cycle_of : PySem.W.keepIn K (.ref F_cycle_of) = true)
    {F_told : Addr} {od_told an_told : Option Addr} {sl_told : Array (Option Value)} {oc_told kV_told dc_told pm_told cd_told ct_told : Value} (a_told : PySem.W.nsIn K mainGlobals "told" = some (some (.ref F_told))) (l_told : K.lookup F_told = some ⟨oc_told, od_told, .func (PySem.W.fnOf "told" "told" (defArgs s_told) (defBody s_told) (defScope s_told) .none kV_told dc_told pm_told an_told cd_told ct_told), sl_told⟩) (c_told : PySem.W.codeIn K cd_told "told" = true) (k_told : PySem.W.keepIn K (.ref F_told) = true)
    {F_check_told : Addr} {od_check_told an_check_told : Option Addr} {sl_check_told : Array (Option Value)} {oc_check_told kV_check_told dc_check_told pm_check_told cd_check_told ct_check_told : Value} (a_check_told : PySem.W.nsIn K mainGlobals "check_told" = some (some (.ref F_check_told))) (l_check_told : K.lookup F_check_told = some ⟨oc_check_told, od_check_told, .func (PySem.W.fnOf "check_told" "check_told" (defArgs s_check_told) (defBody s_check_told) (defScope s_check_told) .none kV_check_told dc_check_told pm_check_told an_check_told cd_check_told ct_check_told), sl_check_told⟩) (c_check_told : PySem.W.codeIn K cd_check_told "check_told" = true) (k_check_told : PySem.W.keepIn K (.ref F_check_told) = true)
    {F_values_to : Addr} {od_values_to an_values_to : Option Addr} {sl_values_to : Array (Option Value)} {oc_values_to kV_values_to dc_values_to pm_values_to cd_values_to ct_values_to : Value} (a_values_to : PySem.W.nsIn K mainGlobals "values_to" = some (some (.ref F_values_to))) (l_values_to : K.lookup F_values_to = some ⟨oc_values_to, od_values_to, .func (PySem.W.fnOf "values_to" "values_to" (defArgs s_values_to) (defBody s_values_to) (defScope s_values_to) .none kV_values_to dc_values_to pm_values_to an_values_to cd_values_to ct_values_to), sl_values_to⟩) (c_values_to : PySem.W.codeIn K cd_values_to "values_to" = true) (k_values_to : PySem.W.keepIn K (.ref F_values_to) = true)
    {F_begin_of : Addr} {od_begin_of an_begin_of : Option Addr} {sl_begin_of : Array (Option Value)} {oc_begin_of kV_begin_of dc_begin_of pm_begin_of cd_begin_of ct_begin_of : Value} (a_begin_of : PySem.W.nsIn K mainGlobals "begin_of" = some (some (.ref F_begin_of))) (l_begin_of : K.lookup F_begin_of = some ⟨oc_begin_of, od_begin_of, .func (PySem.W.fnOf "begin_of" "begin_of" (defArgs s_begin_of) (defBody s_begin_of) (defScope s_begin_of) .none kV_begin_of dc_begin_of pm_begin_of an_begin_of cd_begin_of ct_begin_of), sl_begin_of⟩) (c_begin_of : PySem.W.codeIn K cd_begin_of "begin_of" = true) (k_begin_of : PySem.W.keepIn K (.ref F_begin_of) = true)
    {F_rise_in : Addr} {od_rise_in an_rise_in : Option Addr} {sl_rise_in : Array (Option Value)} {oc_rise_in kV_rise_in dc_rise_in pm_rise_in cd_rise_in ct_rise_in : Value} (a_rise_in : PySem.W.nsIn K mainGlobals "rise_in" = some (some (.ref F_rise_in))) (l_rise_in : K.lookup F_rise_in = some ⟨oc_rise_in, od_rise_in, .func (PySem.W.fnOf "rise_in" "rise_in" (defArgs s_rise_in) (defBody s_rise_in) (defScope s_rise_in) .none kV_rise_in dc_rise_in pm_rise_in an_rise_in cd_rise_in ct_rise_in), sl_rise_in⟩) (c_rise_in : PySem.W.codeIn K cd_rise_in "rise_in" = true) (k_rise_in : PySem.W.keepIn K (.ref F_rise_in) = true)
    {F_common_turn : Addr} {od_common_turn an_common_turn : Option Addr} {sl_common_turn : Array (Option Value)} {oc_common_turn kV_common_turn dc_common_turn pm_common_turn cd_common_turn ct_common_turn : Value} (a_common_turn : PySem.W.nsIn K mainGlobals "common_turn" = some (some (.ref F_common_turn))) (l_common_turn : K.lookup F_common_turn = some ⟨oc_common_turn, od_common_turn, .func (PySem.W.fnOf "common_turn" "common_turn" (defArgs s_common_turn) (defBody s_common_turn) (defScope s_common_turn) .none kV_common_turn dc_common_turn pm_common_turn an_common_turn cd_common_turn ct_common_turn), sl_common_turn⟩) (c_common_turn : PySem.W.codeIn K cd_common_turn "common_turn" = true) (k_common_turn : PySem.W.keepIn K (.ref F_common_turn) = true)
    {F_best_rule : Addr} {od_best_rule an_best_rule : Option Addr} {sl_best_rule : Array (Option Value)} {oc_best_rule kV_best_rule dc_best_rule pm_best_rule cd_best_rule ct_best_rule : Value} (a_best_rule : PySem.W.nsIn K mainGlobals "best_rule" = some (some (.ref F_best_rule))) (l_best_rule : K.lookup F_best_rule = some ⟨oc_best_rule, od_best_rule, .func (PySem.W.fnOf "best_rule" "best_rule" (defArgs s_best_rule) (defBody s_best_rule) (defScope s_best_rule) .none kV_best_rule dc_best_rule pm_best_rule an_best_rule cd_best_rule ct_best_rule), sl_best_rule⟩) (c_best_rule : PySem.W.codeIn K cd_best_rule "best_rule" = true) (k_best_rule : PySem.W.keepIn K (.ref F_best_rule) = true)
    {F_overtaking_rule : Addr} {od_overtaking_rule an_overtaking_rule : Option Addr} {sl_overtaking_rule : Array (Option Value)} {oc_overtaking_rule kV_overtaking_rule dc_overtaking_rule pm_overtaking_rule cd_overtaking_rule ct_overtaking_rule : Value} (a_overtaking_rule : PySem.W.nsIn K mainGlobals "overtaking_rule" = some (some (.ref F_overtaking_rule))) (l_overtaking_rule : K.lookup F_overtaking_rule = some ⟨oc_overtaking_rule, od_overtaking_rule, .func (PySem.W.fnOf "overtaking_rule" "overtaking_rule" (defArgs s_overtaking_rule) (defBody s_overtaking_rule) (defScope s_overtaking_rule) .none kV_overtaking_rule dc_overtaking_rule pm_overtaking_rule an_overtaking_rule cd_overtaking_rule ct_overtaking_rule), sl_overtaking_rule⟩) (c_overtaking_rule : PySem.W.codeIn K cd_overtaking_rule "overtaking_rule" = true) (k_overtaking_rule : PySem.W.keepIn K (.ref F_overtaking_rule) = true)
    {F_greater_values : Addr} {od_greater_values an_greater_values : Option Addr} {sl_greater_values : Array (Option Value)} {oc_greater_values kV_greater_values dc_greater_values pm_greater_values cd_greater_values ct_greater_values : Value} (a_greater_values : PySem.W.nsIn K mainGlobals "greater_values" = some (some (.ref F_greater_values))) (l_greater_values : K.lookup F_greater_values = some ⟨oc_greater_values, od_greater_values, .func (PySem.W.fnOf "greater_values" "greater_values" (defArgs s_greater_values) (defBody s_greater_values) (defScope s_greater_values) .none kV_greater_values dc_greater_values pm_greater_values an_greater_values cd_greater_values ct_greater_values), sl_greater_values⟩) (c_greater_values : PySem.W.codeIn K cd_greater_values "greater_values" = true) (k_greater_values : PySem.W.keepIn K (.ref F_greater_values) = true)
    {F_last_above : Addr} {od_last_above an_last_above : Option Addr} {sl_last_above : Array (Option Value)} {oc_last_above kV_last_above dc_last_above pm_last_above cd_last_above ct_last_above : Value} (a_last_above : PySem.W.nsIn K mainGlobals "last_above" = some (some (.ref F_last_above))) (l_last_above : K.lookup F_last_above = some ⟨oc_last_above, od_last_above, .func (PySem.W.fnOf "last_above" "last_above" (defArgs s_last_above) (defBody s_last_above) (defScope s_last_above) .none kV_last_above dc_last_above pm_last_above an_last_above cd_last_above ct_last_above), sl_last_above⟩) (c_last_above : PySem.W.codeIn K cd_last_above "last_above" = true) (k_last_above : PySem.W.keepIn K (.ref F_last_above) = true)
    {F_split_rule : Addr} {od_split_rule an_split_rule : Option Addr} {sl_split_rule : Array (Option Value)} {oc_split_rule kV_split_rule dc_split_rule pm_split_rule cd_split_rule ct_split_rule : Value} (a_split_rule : PySem.W.nsIn K mainGlobals "split_rule" = some (some (.ref F_split_rule))) (l_split_rule : K.lookup F_split_rule = some ⟨oc_split_rule, od_split_rule, .func (PySem.W.fnOf "split_rule" "split_rule" (defArgs s_split_rule) (defBody s_split_rule) (defScope s_split_rule) .none kV_split_rule dc_split_rule pm_split_rule an_split_rule cd_split_rule ct_split_rule), sl_split_rule⟩) (c_split_rule : PySem.W.codeIn K cd_split_rule "split_rule" = true) (k_split_rule : PySem.W.keepIn K (.ref F_split_rule) = true)
    {F_split_with : Addr} {od_split_with an_split_with : Option Addr} {sl_split_with : Array (Option Value)} {oc_split_with kV_split_with dc_split_with pm_split_with cd_split_with ct_split_with : Value} (a_split_with : PySem.W.nsIn K mainGlobals "split_with" = some (some (.ref F_split_with))) (l_split_with : K.lookup F_split_with = some ⟨oc_split_with, od_split_with, .func (PySem.W.fnOf "split_with" "split_with" (defArgs s_split_with) (defBody s_split_with) (defScope s_split_with) .none kV_split_with dc_split_with pm_split_with an_split_with cd_split_with ct_split_with), sl_split_with⟩) (c_split_with : PySem.W.codeIn K cd_split_with "split_with" = true) (k_split_with : PySem.W.keepIn K (.ref F_split_with) = true)
    {F_l_deck : Addr} {od_l_deck an_l_deck : Option Addr} {sl_l_deck : Array (Option Value)} {oc_l_deck kV_l_deck dc_l_deck pm_l_deck cd_l_deck ct_l_deck : Value} (a_l_deck : PySem.W.nsIn K mainGlobals "_law_deck" = some (some (.ref F_l_deck))) (l_l_deck : K.lookup F_l_deck = some ⟨oc_l_deck, od_l_deck, .func (PySem.W.fnOf "_law_deck" "_law_deck" (defArgs s_l_deck) (defBody s_l_deck) (defScope s_l_deck) .none kV_l_deck dc_l_deck pm_l_deck an_l_deck cd_l_deck ct_l_deck), sl_l_deck⟩) (c_l_deck : PySem.W.codeIn K cd_l_deck "_law_deck" = true) (k_l_deck : PySem.W.keepIn K (.ref F_l_deck) = true)
    {F_l_draw : Addr} {od_l_draw an_l_draw : Option Addr} {sl_l_draw : Array (Option Value)} {oc_l_draw kV_l_draw dc_l_draw pm_l_draw cd_l_draw ct_l_draw : Value} (a_l_draw : PySem.W.nsIn K mainGlobals "_law_draw" = some (some (.ref F_l_draw))) (l_l_draw : K.lookup F_l_draw = some ⟨oc_l_draw, od_l_draw, .func (PySem.W.fnOf "_law_draw" "_law_draw" (defArgs s_l_draw) (defBody s_l_draw) (defScope s_l_draw) .none kV_l_draw dc_l_draw pm_l_draw an_l_draw cd_l_draw ct_l_draw), sl_l_draw⟩) (c_l_draw : PySem.W.codeIn K cd_l_draw "_law_draw" = true) (k_l_draw : PySem.W.keepIn K (.ref F_l_draw) = true)
    {F_l_one : Addr} {od_l_one an_l_one : Option Addr} {sl_l_one : Array (Option Value)} {oc_l_one kV_l_one dc_l_one pm_l_one cd_l_one ct_l_one : Value} (a_l_one : PySem.W.nsIn K mainGlobals "_law_one" = some (some (.ref F_l_one))) (l_l_one : K.lookup F_l_one = some ⟨oc_l_one, od_l_one, .func (PySem.W.fnOf "_law_one" "_law_one" (defArgs s_l_one) (defBody s_l_one) (defScope s_l_one) .none kV_l_one dc_l_one pm_l_one an_l_one cd_l_one ct_l_one), sl_l_one⟩) (c_l_one : PySem.W.codeIn K cd_l_one "_law_one" = true) (k_l_one : PySem.W.keepIn K (.ref F_l_one) = true)
    {F_l_value : Addr} {od_l_value an_l_value : Option Addr} {sl_l_value : Array (Option Value)} {oc_l_value kV_l_value dc_l_value pm_l_value cd_l_value ct_l_value : Value} (a_l_value : PySem.W.nsIn K mainGlobals "_law_value" = some (some (.ref F_l_value))) (l_l_value : K.lookup F_l_value = some ⟨oc_l_value, od_l_value, .func (PySem.W.fnOf "_law_value" "_law_value" (defArgs s_l_value) (defBody s_l_value) (defScope s_l_value) .none kV_l_value dc_l_value pm_l_value an_l_value cd_l_value ct_l_value), sl_l_value⟩) (c_l_value : PySem.W.codeIn K cd_l_value "_law_value" = true) (k_l_value : PySem.W.keepIn K (.ref F_l_value) = true)
    {F_l_repeats : Addr} {od_l_repeats an_l_repeats : Option Addr} {sl_l_repeats : Array (Option Value)} {oc_l_repeats kV_l_repeats dc_l_repeats pm_l_repeats cd_l_repeats ct_l_repeats : Value} (a_l_repeats : PySem.W.nsIn K mainGlobals "_law_repeats" = some (some (.ref F_l_repeats))) (l_l_repeats : K.lookup F_l_repeats = some ⟨oc_l_repeats, od_l_repeats, .func (PySem.W.fnOf "_law_repeats" "_law_repeats" (defArgs s_l_repeats) (defBody s_l_repeats) (defScope s_l_repeats) .none kV_l_repeats dc_l_repeats pm_l_repeats an_l_repeats cd_l_repeats ct_l_repeats), sl_l_repeats⟩) (c_l_repeats : PySem.W.codeIn K cd_l_repeats "_law_repeats" = true) (k_l_repeats : PySem.W.keepIn K (.ref F_l_repeats) = true)
    {F_l_least : Addr} {od_l_least an_l_least : Option Addr} {sl_l_least : Array (Option Value)} {oc_l_least kV_l_least dc_l_least pm_l_least cd_l_least ct_l_least : Value} (a_l_least : PySem.W.nsIn K mainGlobals "_law_least" = some (some (.ref F_l_least))) (l_l_least : K.lookup F_l_least = some ⟨oc_l_least, od_l_least, .func (PySem.W.fnOf "_law_least" "_law_least" (defArgs s_l_least) (defBody s_l_least) (defScope s_l_least) .none kV_l_least dc_l_least pm_l_least an_l_least cd_l_least ct_l_least), sl_l_least⟩) (c_l_least : PySem.W.codeIn K cd_l_least "_law_least" = true) (k_l_least : PySem.W.keepIn K (.ref F_l_least) = true)
    {F_l_rule : Addr} {od_l_rule an_l_rule : Option Addr} {sl_l_rule : Array (Option Value)} {oc_l_rule kV_l_rule dc_l_rule pm_l_rule cd_l_rule ct_l_rule : Value} (a_l_rule : PySem.W.nsIn K mainGlobals "_law_rule" = some (some (.ref F_l_rule))) (l_l_rule : K.lookup F_l_rule = some ⟨oc_l_rule, od_l_rule, .func (PySem.W.fnOf "_law_rule" "_law_rule" (defArgs s_l_rule) (defBody s_l_rule) (defScope s_l_rule) .none kV_l_rule dc_l_rule pm_l_rule an_l_rule cd_l_rule ct_l_rule), sl_l_rule⟩) (c_l_rule : PySem.W.codeIn K cd_l_rule "_law_rule" = true) (k_l_rule : PySem.W.keepIn K (.ref F_l_rule) = true)
    {F_l_last : Addr} {od_l_last an_l_last : Option Addr} {sl_l_last : Array (Option Value)} {oc_l_last kV_l_last dc_l_last pm_l_last cd_l_last ct_l_last : Value} (a_l_last : PySem.W.nsIn K mainGlobals "_law_last" = some (some (.ref F_l_last))) (l_l_last : K.lookup F_l_last = some ⟨oc_l_last, od_l_last, .func (PySem.W.fnOf "_law_last" "_law_last" (defArgs s_l_last) (defBody s_l_last) (defScope s_l_last) .none kV_l_last dc_l_last pm_l_last an_l_last cd_l_last ct_l_last), sl_l_last⟩) (c_l_last : PySem.W.codeIn K cd_l_last "_law_last" = true) (k_l_last : PySem.W.keepIn K (.ref F_l_last) = true)
    {F_l_best : Addr} {od_l_best an_l_best : Option Addr} {sl_l_best : Array (Option Value)} {oc_l_best kV_l_best dc_l_best pm_l_best cd_l_best ct_l_best : Value} (a_l_best : PySem.W.nsIn K mainGlobals "_law_best" = some (some (.ref F_l_best))) (l_l_best : K.lookup F_l_best = some ⟨oc_l_best, od_l_best, .func (PySem.W.fnOf "_law_best" "_law_best" (defArgs s_l_best) (defBody s_l_best) (defScope s_l_best) .none kV_l_best dc_l_best pm_l_best an_l_best cd_l_best ct_l_best), sl_l_best⟩) (c_l_best : PySem.W.codeIn K cd_l_best "_law_best" = true) (k_l_best : PySem.W.keepIn K (.ref F_l_best) = true)
    {F_l_told : Addr} {od_l_told an_l_told : Option Addr} {sl_l_told : Array (Option Value)} {oc_l_told kV_l_told dc_l_told pm_l_told cd_l_told ct_l_told : Value} (a_l_told : PySem.W.nsIn K mainGlobals "_law_told" = some (some (.ref F_l_told))) (l_l_told : K.lookup F_l_told = some ⟨oc_l_told, od_l_told, .func (PySem.W.fnOf "_law_told" "_law_told" (defArgs s_l_told) (defBody s_l_told) (defScope s_l_told) .none kV_l_told dc_l_told pm_l_told an_l_told cd_l_told ct_l_told), sl_l_told⟩) (c_l_told : PySem.W.codeIn K cd_l_told "_law_told" = true) (k_l_told : PySem.W.keepIn K (.ref F_l_told) = true)
    {F_l_shared : Addr} {od_l_shared an_l_shared : Option Addr} {sl_l_shared : Array (Option Value)} {oc_l_shared kV_l_shared dc_l_shared pm_l_shared cd_l_shared ct_l_shared : Value} (a_l_shared : PySem.W.nsIn K mainGlobals "_law_shared" = some (some (.ref F_l_shared))) (l_l_shared : K.lookup F_l_shared = some ⟨oc_l_shared, od_l_shared, .func (PySem.W.fnOf "_law_shared" "_law_shared" (defArgs s_l_shared) (defBody s_l_shared) (defScope s_l_shared) .none kV_l_shared dc_l_shared pm_l_shared an_l_shared cd_l_shared ct_l_shared), sl_l_shared⟩) (c_l_shared : PySem.W.codeIn K cd_l_shared "_law_shared" = true) (k_l_shared : PySem.W.keepIn K (.ref F_l_shared) = true)
    {F_l_split : Addr} {od_l_split an_l_split : Option Addr} {sl_l_split : Array (Option Value)} {oc_l_split kV_l_split dc_l_split pm_l_split cd_l_split ct_l_split : Value} (a_l_split : PySem.W.nsIn K mainGlobals "_law_split" = some (some (.ref F_l_split))) (l_l_split : K.lookup F_l_split = some ⟨oc_l_split, od_l_split, .func (PySem.W.fnOf "_law_split" "_law_split" (defArgs s_l_split) (defBody s_l_split) (defScope s_l_split) .none kV_l_split dc_l_split pm_l_split an_l_split cd_l_split ct_l_split), sl_l_split⟩) (c_l_split : PySem.W.codeIn K cd_l_split "_law_split" = true) (k_l_split : PySem.W.keepIn K (.ref F_l_split) = true)
    {F_l_tried : Addr} {od_l_tried an_l_tried : Option Addr} {sl_l_tried : Array (Option Value)} {oc_l_tried kV_l_tried dc_l_tried pm_l_tried cd_l_tried ct_l_tried : Value} (a_l_tried : PySem.W.nsIn K mainGlobals "_law_tried" = some (some (.ref F_l_tried))) (l_l_tried : K.lookup F_l_tried = some ⟨oc_l_tried, od_l_tried, .func (PySem.W.fnOf "_law_tried" "_law_tried" (defArgs s_l_tried) (defBody s_l_tried) (defScope s_l_tried) .none kV_l_tried dc_l_tried pm_l_tried an_l_tried cd_l_tried ct_l_tried), sl_l_tried⟩) (c_l_tried : PySem.W.codeIn K cd_l_tried "_law_tried" = true) (k_l_tried : PySem.W.keepIn K (.ref F_l_tried) = true)
    {F_l_fee_right : Addr} {od_l_fee_right an_l_fee_right : Option Addr} {sl_l_fee_right : Array (Option Value)} {oc_l_fee_right kV_l_fee_right dc_l_fee_right pm_l_fee_right ct_l_fee_right : Value} (a_l_fee_right : PySem.W.nsIn K mainGlobals "_law_fee_right" = some (some (.ref F_l_fee_right))) (l_l_fee_right : K.lookup F_l_fee_right = some ⟨oc_l_fee_right, od_l_fee_right, .func (PySem.W.fnOf "_law_fee_right" "_law_fee_right" (defArgs s_l_fee_right) (defBody s_l_fee_right) (defScope s_l_fee_right) .none kV_l_fee_right dc_l_fee_right pm_l_fee_right an_l_fee_right (.ref cF) ct_l_fee_right), sl_l_fee_right⟩) (c_l_fee_right : PySem.W.codeIn K (.ref cF) "_law_fee_right" = true) (k_l_fee_right : PySem.W.keepIn K (.ref F_l_fee_right) = true)
    {F_l_coprime : Addr} {od_l_coprime an_l_coprime : Option Addr} {sl_l_coprime : Array (Option Value)} {oc_l_coprime kV_l_coprime dc_l_coprime pm_l_coprime cd_l_coprime ct_l_coprime : Value} (a_l_coprime : PySem.W.nsIn K mainGlobals "_law_coprime" = some (some (.ref F_l_coprime))) (l_l_coprime : K.lookup F_l_coprime = some ⟨oc_l_coprime, od_l_coprime, .func (PySem.W.fnOf "_law_coprime" "_law_coprime" (defArgs s_l_coprime) (defBody s_l_coprime) (defScope s_l_coprime) .none kV_l_coprime dc_l_coprime pm_l_coprime an_l_coprime cd_l_coprime ct_l_coprime), sl_l_coprime⟩) (c_l_coprime : PySem.W.codeIn K cd_l_coprime "_law_coprime" = true) (k_l_coprime : PySem.W.keepIn K (.ref F_l_coprime) = true)
    {F_l_steps_right : Addr} {od_l_steps_right an_l_steps_right : Option Addr} {sl_l_steps_right : Array (Option Value)} {oc_l_steps_right kV_l_steps_right dc_l_steps_right pm_l_steps_right ct_l_steps_right : Value} (a_l_steps_right : PySem.W.nsIn K mainGlobals "_law_steps_right" = some (some (.ref F_l_steps_right))) (l_l_steps_right : K.lookup F_l_steps_right = some ⟨oc_l_steps_right, od_l_steps_right, .func (PySem.W.fnOf "_law_steps_right" "_law_steps_right" (defArgs s_l_steps_right) (defBody s_l_steps_right) (defScope s_l_steps_right) .none kV_l_steps_right dc_l_steps_right pm_l_steps_right an_l_steps_right (.ref cS) ct_l_steps_right), sl_l_steps_right⟩) (c_l_steps_right : PySem.W.codeIn K (.ref cS) "_law_steps_right" = true) (k_l_steps_right : PySem.W.keepIn K (.ref F_l_steps_right) = true)
    {F_law : Addr} {od_law an_law : Option Addr} {sl_law : Array (Option Value)} {oc_law kV_law dc_law pm_law ct_law : Value} (a_law : PySem.W.nsIn K mainGlobals "law" = some (some (.ref F_law))) (l_law : K.lookup F_law = some ⟨oc_law, od_law, .func (PySem.W.fnOf "law" "law" (defArgs s_law) (defBody s_law) (defScope s_law) .none kV_law dc_law pm_law an_law (.ref cL) ct_law), sl_law⟩) (c_law : PySem.W.codeIn K (.ref cL) "law" = true) (k_law : PySem.W.keepIn K (.ref F_law) = true)
    {cCE cTL cBR cNS cNR fB PL PF PS : Addr} {nm qn : Str} {Nn : Addr} {bs : List Value} {sn : List Str} {sub : List Value} {ab : Bool} {col : Option Bool} {dd : Option Addr} {m0 m1 m2 m3 m5 : Option Value} {odI anI ddL ddF ddS : Option Addr} {slI slL slF slS : Array (Option Value)} {vsL vsF vsS : Array Value} {ocI kVI dcI pmI cdI ctI eL eF eS : Value}
    (a_cCE : PySem.W.nsIn K mainGlobals "ChangeError" = some (some (.ref cCE)))
    (a_cTL : PySem.W.nsIn K mainGlobals "TooLong" = some (some (.ref cTL)))
    (a_cBR : PySem.W.nsIn K mainGlobals "BadRule" = some (some (.ref cBR)))
    (a_cNS : PySem.W.nsIn K mainGlobals "NoStart" = some (some (.ref cNS)))
    (a_cNR : PySem.W.nsIn K mainGlobals "NoRise" = some (some (.ref cNR)))
    (x_TL : K.lookup cTL = some (excClassObj nm qn cTL Nn bs [.ref cCE, .type "ValueError", .type "Exception", .type "BaseException", .type "object"] true sn sub ab col dd m0 m1 m2 m3 m5 "ValueError.__new__"))
    (f_sa : PySem.W.findIn K (.ref cTL) "__setattr__" = some (some (.builtin "object.__setattr__")))
    (f_ga : PySem.W.findIn K (.ref cTL) "__getattribute__" = some (some (.builtin "BaseException.__getattribute__")))
    (f_gg : PySem.W.findIn K (.ref cTL) "__getattr__" = some none)
    (f_no : PySem.W.findIn K (.ref cTL) "number" = some none)
    (f_iC : PySem.W.findIn K (.ref cTL) "__init__" = some (some (.ref fB)))
    (f_cl : PySem.W.findIn K (.ref cTL) "__class__" = some (some (.builtin "object.__class__")))
    (t_fB : PySem.W.typeIn K (.ref fB) = some (.type "function"))
    (t_TL : PySem.W.typeIn K (.ref cTL) = some (.type "type"))
    (k_TL : PySem.W.keepIn K (.ref cTL) = true)
    (e_TL : PySem.W.subIn K (.ref cTL) (.type "BaseException") = some true)
    (v_TL : PySem.W.subIn K (.ref cTL) (.type "ValueError") = some true)
    (s_TL : PySem.W.subIn K (.ref cTL) (.ref cTL) = some true)
    (h_TL : PySem.W.hasDictIn K cTL = true)
    (m_TL : PySem.W.mroIn K cTL (.type "object") = some true)
    (g_cl : PySem.W.specialIn K (.builtin "object.__class__") "__get__" = some (some (.builtin "getset_descriptor.__get__")))
    (t_cl : PySem.W.takesIn K (.builtin "object.__class__") = some true)
    (e_CE : PySem.W.subIn K (.ref cCE) (.type "BaseException") = some true)
    (h_CE : PySem.W.hasDictIn K cCE = true)
    (t_CE : PySem.W.typeIn K (.ref cCE) = some (.type "type"))
    (s_CE : PySem.W.subIn K (.ref cTL) (.ref cCE) = some true)
    (i_BR : PySem.W.isClsIn K cBR = true)
    (t_BR : PySem.W.typeIn K (.ref cBR) = some (.type "type"))
    (s_BR : PySem.W.subIn K (.ref cTL) (.ref cBR) = some false)
    (i_NR : PySem.W.isClsIn K cNR = true)
    (t_NR : PySem.W.typeIn K (.ref cNR) = some (.type "type"))
    (s_NR : PySem.W.subIn K (.ref cTL) (.ref cNR) = some false)
    (i_NS : PySem.W.isClsIn K cNS = true)
    (t_NS : PySem.W.typeIn K (.ref cNS) = some (.type "type"))
    (s_NS : PySem.W.subIn K (.ref cTL) (.ref cNS) = some false)
    (l_fB : K.lookup fB = some ⟨ocI, odI, .func (PySem.W.fnOf "__init__" "TooLong.__init__" (defArgs s_init) (defBody s_init) (defScope s_init) .none kVI dcI pmI anI cdI ctI), slI⟩)
    (c_fB : PySem.W.codeIn K cdI "TooLong.__init__" = true)
    (k_fB : PySem.W.keepIn K (.ref fB) = true)
    (l_cL : K.lookup cL = some ⟨eL, ddL, .fields vsL, slL⟩)
    (e_PL : vsL[11]? = some (.ref PL))
    (d_PL : PySem.W.codeHdIn K cL PL = true)
    (n_PL : K.lookup PL = none)
    (r_L : ((recsOf q).any fun e => e.name == "law") = true)
    (l_cF : K.lookup cF = some ⟨eF, ddF, .fields vsF, slF⟩)
    (e_PF : vsF[11]? = some (.ref PF))
    (d_PF : PySem.W.codeHdIn K cF PF = true)
    (n_PF : K.lookup PF = none)
    (r_F : ((recsOf q).any fun e => e.name == "_law_fee_right") = true)
    (l_cS : K.lookup cS = some ⟨eS, ddS, .fields vsS, slS⟩)
    (e_PS : vsS[11]? = some (.ref PS))
    (d_PS : PySem.W.codeHdIn K cS PS = true)
    (n_PS : K.lookup PS = none)
    (r_S : ((recsOf q).any fun e => e.name == "_law_steps_right") = true)
    (nLF : PL ≠ PF)
    (nLS : PL ≠ PS)
    (nFS : PF ≠ PS)
    (z_ValueError : PySem.W.nsIn K mainGlobals "ValueError" = some none)
    (z__law_call : PySem.W.nsIn K mainGlobals "_law_call" = some none)
    (z_abs : PySem.W.nsIn K mainGlobals "abs" = some none)
    (z_int : PySem.W.nsIn K mainGlobals "int" = some none)
    (z_isinstance : PySem.W.nsIn K mainGlobals "isinstance" = some none)
    (z_len : PySem.W.nsIn K mainGlobals "len" = some none)
    (z_list : PySem.W.nsIn K mainGlobals "list" = some none)
    (z_max : PySem.W.nsIn K mainGlobals "max" = some none)
    (z_min : PySem.W.nsIn K mainGlobals "min" = some none)
    (z_range : PySem.W.nsIn K mainGlobals "range" = some none)
    (z_repr : PySem.W.nsIn K mainGlobals "repr" = some none)
    (z_tuple : PySem.W.nsIn K mainGlobals "tuple" = some none)
    (g_lcm : PySem.W.nsIn K mainGlobals "lcm" = some (some (.builtin "math.lcm")))
    {t_MAX_TOLD : Tok} (g_MAX_TOLD : PySem.W.nsIn K mainGlobals "MAX_TOLD" = some (some (.int 5000 t_MAX_TOLD))) :
    ∃ (fd : FuncData) (ct : List (Addr × Addr)) (TT : List (Addr × Str)), (∀ t ∈ ct, h.get? t.2 = some (PySem.W.tabObj #[])) ∧ (∀ t ∈ ct, K.lookup t.2 = none) ∧ (∀ t ∈ ct, PySem.W.codeHdIn K t.1 t.2 = true) ∧ TT.map (·.1) = ct.map (·.2) ∧ (∀ (s : Shared) (v : Value), BindsTo s fd ⟨[v], []⟩ [("_law_script", v)]) ∧ ∀ base : Heap, K.In base → base.Ns mainGlobals mg → (∀ t ∈ ct, TabB base mg t.1 t.2) → FnG l.prog w K mg base 13 fa fd ["_law_script"] (sp_law K TT) := by
  have e := hfa.symm.trans (PySem.W.mg_of X G a_law)
  cases e
  have T : Txt mg := ⟨PySem.W.mg_none_of X G z_ValueError, PySem.W.mg_none_of X G z__law_call, PySem.W.mg_none_of X G z_abs, PySem.W.mg_none_of X G z_int, PySem.W.mg_none_of X G z_isinstance, PySem.W.mg_none_of X G z_len, PySem.W.mg_none_of X G z_list, PySem.W.mg_none_of X G z_max, PySem.W.mg_none_of X G z_min, PySem.W.mg_none_of X G z_range, PySem.W.mg_none_of X G z_repr, PySem.W.mg_none_of X G z_tuple, PySem.W.mg_of X G g_lcm, ⟨_, PySem.W.mg_of X G g_MAX_TOLD⟩⟩
  have XC : Txt3 K mg cCE cTL cBR cNR cNS :=
    { gChangeError := PySem.W.mg_of X G a_cCE, gTooLong := PySem.W.mg_of X G a_cTL, gBadRule := PySem.W.mg_of X G a_cBR, gNoStart := PySem.W.mg_of X G a_cNS, gNoRise := PySem.W.mg_of X G a_cNR,
      noE := f_no, xf := ⟨f_ga, f_gg, e_TL, h_TL⟩,
      ec := ⟨f_ga, f_gg, e_TL, h_TL, f_cl, g_cl, t_cl, m_TL⟩, te := PySem.W.exm_ref e_CE h_CE t_CE s_CE,
      k1 := kit_cons_false (kit_own i_BR t_BR s_BR s_TL) (kit_cons_false (kit_own i_NR t_NR s_NR s_TL) (kit_cons_false (kit_own i_NS t_NS s_NS s_TL) rfl)), k2 := kit_valerr v_TL, k3 := if_pos (beq_self_eq_true _) }
  have XL : Txl K mg cTL fB :=
    { gBadRule := PySem.W.mg_of X G a_cTL, oex := ⟨⟨nm, qn, Nn, bs, _, sn, sub, ab, col, dd, m0, m1, m2, m3, m5, x_TL, by rfl⟩, f_sa, e_TL, t_TL, k_TL⟩, noE := f_no, iC := f_iC, tI := t_fB,
      fI := ⟨_, fun_mk (st := s_init) l_fB c_fB k_fB, (fun_mk (st := s_init) l_fB c_fB k_fB).binds (ps := ["self", "number"]) fun _ _ _ _ _ _ us hl => match us, hl with | [_, _], _ => rfl⟩ }
  have OL : h.get? PL = some (PySem.W.tabObj #[]) := own _ _ r_L (PySem.W.mg_of X G a_law) _ _ _ _ _ _ _ _ l_law rfl rfl l_cL e_PL
  have OF : h.get? PF = some (PySem.W.tabObj #[]) := own _ _ r_F (PySem.W.mg_of X G a_l_fee_right) _ _ _ _ _ _ _ _ l_l_fee_right rfl rfl l_cF e_PF
  have OS : h.get? PS = some (PySem.W.tabObj #[]) := own _ _ r_S (PySem.W.mg_of X G a_l_steps_right) _ _ _ _ _ _ _ _ l_l_steps_right rfl rfl l_cS e_PS
  have D_shortest : Df K mg "shortest" s_shortest ["table", "period", "rise"] := ⟨_, _, fun_mk (st := s_shortest) l_shortest c_shortest k_shortest, PySem.W.mg_of X G a_shortest, (fun_mk (st := s_shortest) l_shortest c_shortest k_shortest).binds (ps := ["table", "period", "rise"]) fun _ _ _ _ _ _ us hl => match us, hl with | [_, _, _], _ => rfl⟩
  have D_cycle_of : Df K mg "cycle_of" s_cycle_of ["items"] := ⟨_, _, fun_mk (st := s_cycle_of) l_cycle_of c_cycle_of k_cycle_of, PySem.W.mg_of X G a_cycle_of, (fun_mk (st := s_cycle_of) l_cycle_of c_cycle_of k_cycle_of).binds (ps := ["items"]) fun _ _ _ _ _ _ us hl => match us, hl with | [_], _ => rfl⟩
  have D_told : Df K mg "told" s_told ["table", "period", "rise"] := ⟨_, _, fun_mk (st := s_told) l_told c_told k_told, PySem.W.mg_of X G a_told, (fun_mk (st := s_told) l_told c_told k_told).binds (ps := ["table", "period", "rise"]) fun _ _ _ _ _ _ us hl => match us, hl with | [_, _, _], _ => rfl⟩
  have D_check_told : Df K mg "check_told" s_check_told ["number"] := ⟨_, _, fun_mk (st := s_check_told) l_check_told c_check_told k_check_told, PySem.W.mg_of X G a_check_told, (fun_mk (st := s_check_told) l_check_told c_check_told k_check_told).binds (ps := ["number"]) fun _ _ _ _ _ _ us hl => match us, hl with | [_], _ => rfl⟩
  have D_values_to : Df K mg "values_to" s_values_to ["rule", "count"] := ⟨_, _, fun_mk (st := s_values_to) l_values_to c_values_to k_values_to, PySem.W.mg_of X G a_values_to, (fun_mk (st := s_values_to) l_values_to c_values_to k_values_to).binds (ps := ["rule", "count"]) fun _ _ _ _ _ _ us hl => match us, hl with | [_, _], _ => rfl⟩
  have D_begin_of : Df K mg "begin_of" s_begin_of ["rule"] := ⟨_, _, fun_mk (st := s_begin_of) l_begin_of c_begin_of k_begin_of, PySem.W.mg_of X G a_begin_of, (fun_mk (st := s_begin_of) l_begin_of c_begin_of k_begin_of).binds (ps := ["rule"]) fun _ _ _ _ _ _ us hl => match us, hl with | [_], _ => rfl⟩
  have D_rise_in : Df K mg "rise_in" s_rise_in ["rule", "turn"] := ⟨_, _, fun_mk (st := s_rise_in) l_rise_in c_rise_in k_rise_in, PySem.W.mg_of X G a_rise_in, (fun_mk (st := s_rise_in) l_rise_in c_rise_in k_rise_in).binds (ps := ["rule", "turn"]) fun _ _ _ _ _ _ us hl => match us, hl with | [_, _], _ => rfl⟩
  have D_common_turn : Df K mg "common_turn" s_common_turn ["one", "other"] := ⟨_, _, fun_mk (st := s_common_turn) l_common_turn c_common_turn k_common_turn, PySem.W.mg_of X G a_common_turn, (fun_mk (st := s_common_turn) l_common_turn c_common_turn k_common_turn).binds (ps := ["one", "other"]) fun _ _ _ _ _ _ us hl => match us, hl with | [_, _], _ => rfl⟩
  have D_best_rule : Df K mg "best_rule" s_best_rule ["one", "other"] := ⟨_, _, fun_mk (st := s_best_rule) l_best_rule c_best_rule k_best_rule, PySem.W.mg_of X G a_best_rule, (fun_mk (st := s_best_rule) l_best_rule c_best_rule k_best_rule).binds (ps := ["one", "other"]) fun _ _ _ _ _ _ us hl => match us, hl with | [_, _], _ => rfl⟩
  have D_overtaking_rule : Df K mg "overtaking_rule" s_overtaking_rule ["steep", "flat"] := ⟨_, _, fun_mk (st := s_overtaking_rule) l_overtaking_rule c_overtaking_rule k_overtaking_rule, PySem.W.mg_of X G a_overtaking_rule, (fun_mk (st := s_overtaking_rule) l_overtaking_rule c_overtaking_rule k_overtaking_rule).binds (ps := ["steep", "flat"]) fun _ _ _ _ _ _ us hl => match us, hl with | [_, _], _ => rfl⟩
  have D_greater_values : Df K mg "greater_values" s_greater_values ["one", "other", "count", "turn"] := ⟨_, _, fun_mk (st := s_greater_values) l_greater_values c_greater_values k_greater_values, PySem.W.mg_of X G a_greater_values, (fun_mk (st := s_greater_values) l_greater_values c_greater_values k_greater_values).binds (ps := ["one", "other", "count", "turn"]) fun _ _ _ _ _ _ us hl => match us, hl with | [_, _, _, _], _ => rfl⟩
  have D_last_above : Df K mg "last_above" s_last_above ["flat", "steep"] := ⟨_, _, fun_mk (st := s_last_above) l_last_above c_last_above k_last_above, PySem.W.mg_of X G a_last_above, (fun_mk (st := s_last_above) l_last_above c_last_above k_last_above).binds (ps := ["flat", "steep"]) fun _ _ _ _ _ _ us hl => match us, hl with | [_, _], _ => rfl⟩
  have D_split_rule : Df K mg "split_rule" s_split_rule ["one", "other"] := ⟨_, _, fun_mk (st := s_split_rule) l_split_rule c_split_rule k_split_rule, PySem.W.mg_of X G a_split_rule, (fun_mk (st := s_split_rule) l_split_rule c_split_rule k_split_rule).binds (ps := ["one", "other"]) fun _ _ _ _ _ _ us hl => match us, hl with | [_, _], _ => rfl⟩
  have D_split_with : Df K mg "split_with" s_split_with ["near", "bound", "far"] := ⟨_, _, fun_mk (st := s_split_with) l_split_with c_split_with k_split_with, PySem.W.mg_of X G a_split_with, (fun_mk (st := s_split_with) l_split_with c_split_with k_split_with).binds (ps := ["near", "bound", "far"]) fun _ _ _ _ _ _ us hl => match us, hl with | [_, _, _], _ => rfl⟩
  have D_l_deck : Df K mg "_law_deck" s_l_deck ["_law_script"] := ⟨_, _, fun_mk (st := s_l_deck) l_l_deck c_l_deck k_l_deck, PySem.W.mg_of X G a_l_deck, (fun_mk (st := s_l_deck) l_l_deck c_l_deck k_l_deck).binds (ps := ["_law_script"]) fun _ _ _ _ _ _ us hl => match us, hl with | [_], _ => rfl⟩
  have D_l_draw : Df K mg "_law_draw" s_l_draw ["_law_deck_here", "_law_many"] := ⟨_, _, fun_mk (st := s_l_draw) l_l_draw c_l_draw k_l_draw, PySem.W.mg_of X G a_l_draw, (fun_mk (st := s_l_draw) l_l_draw c_l_draw k_l_draw).binds (ps := ["_law_deck_here", "_law_many"]) fun _ _ _ _ _ _ us hl => match us, hl with | [_, _], _ => rfl⟩
  have D_l_one : Df K mg "_law_one" s_l_one ["_law_deck_here", "_law_items"] := ⟨_, _, fun_mk (st := s_l_one) l_l_one c_l_one k_l_one, PySem.W.mg_of X G a_l_one, (fun_mk (st := s_l_one) l_l_one c_l_one k_l_one).binds (ps := ["_law_deck_here", "_law_items"]) fun _ _ _ _ _ _ us hl => match us, hl with | [_, _], _ => rfl⟩
  have D_l_value : Df K mg "_law_value" s_l_value ["_law_rule_here", "_law_x"] := ⟨_, _, fun_mk (st := s_l_value) l_l_value c_l_value k_l_value, PySem.W.mg_of X G a_l_value, (fun_mk (st := s_l_value) l_l_value c_l_value k_l_value).binds (ps := ["_law_rule_here", "_law_x"]) fun _ _ _ _ _ _ us hl => match us, hl with | [_, _], _ => rfl⟩
  have D_l_repeats : Df K mg "_law_repeats" s_l_repeats ["_law_rule_here", "_law_step", "_law_more"] := ⟨_, _, fun_mk (st := s_l_repeats) l_l_repeats c_l_repeats k_l_repeats, PySem.W.mg_of X G a_l_repeats, (fun_mk (st := s_l_repeats) l_l_repeats c_l_repeats k_l_repeats).binds (ps := ["_law_rule_here", "_law_step", "_law_more"]) fun _ _ _ _ _ _ us hl => match us, hl with | [_, _, _], _ => rfl⟩
  have D_l_least : Df K mg "_law_least" s_l_least ["_law_rule_here"] := ⟨_, _, fun_mk (st := s_l_least) l_l_least c_l_least k_l_least, PySem.W.mg_of X G a_l_least, (fun_mk (st := s_l_least) l_l_least c_l_least k_l_least).binds (ps := ["_law_rule_here"]) fun _ _ _ _ _ _ us hl => match us, hl with | [_], _ => rfl⟩
  have D_l_rule : Df K mg "_law_rule" s_l_rule ["_law_deck_here", "_law_long", "_law_wide", "_law_tall"] := ⟨_, _, fun_mk (st := s_l_rule) l_l_rule c_l_rule k_l_rule, PySem.W.mg_of X G a_l_rule, (fun_mk (st := s_l_rule) l_l_rule c_l_rule k_l_rule).binds (ps := ["_law_deck_here", "_law_long", "_law_wide", "_law_tall"]) fun _ _ _ _ _ _ us hl => match us, hl with | [_, _, _, _], _ => rfl⟩
  have D_l_last : Df K mg "_law_last" s_l_last ["_law_less", "_law_more"] := ⟨_, _, fun_mk (st := s_l_last) l_l_last c_l_last k_l_last, PySem.W.mg_of X G a_l_last, (fun_mk (st := s_l_last) l_l_last c_l_last k_l_last).binds (ps := ["_law_less", "_law_more"]) fun _ _ _ _ _ _ us hl => match us, hl with | [_, _], _ => rfl⟩
  have D_l_best : Df K mg "_law_best" s_l_best ["_law_one_here", "_law_other"] := ⟨_, _, fun_mk (st := s_l_best) l_l_best c_l_best k_l_best, PySem.W.mg_of X G a_l_best, (fun_mk (st := s_l_best) l_l_best c_l_best k_l_best).binds (ps := ["_law_one_here", "_law_other"]) fun _ _ _ _ _ _ us hl => match us, hl with | [_, _], _ => rfl⟩
  have D_l_told : Df K mg "_law_told" s_l_told ["_law_rule_here"] := ⟨_, _, fun_mk (st := s_l_told) l_l_told c_l_told k_l_told, PySem.W.mg_of X G a_l_told, (fun_mk (st := s_l_told) l_l_told c_l_told k_l_told).binds (ps := ["_law_rule_here"]) fun _ _ _ _ _ _ us hl => match us, hl with | [_], _ => rfl⟩
  have D_l_shared : Df K mg "_law_shared" s_l_shared ["_law_long_one", "_law_other", "_law_below"] := ⟨_, _, fun_mk (st := s_l_shared) l_l_shared c_l_shared k_l_shared, PySem.W.mg_of X G a_l_shared, (fun_mk (st := s_l_shared) l_l_shared c_l_shared k_l_shared).binds (ps := ["_law_long_one", "_law_other", "_law_below"]) fun _ _ _ _ _ _ us hl => match us, hl with | [_, _, _], _ => rfl⟩
  have D_l_split : Df K mg "_law_split" s_l_split ["_law_one_here", "_law_other"] := ⟨_, _, fun_mk (st := s_l_split) l_l_split c_l_split k_l_split, PySem.W.mg_of X G a_l_split, (fun_mk (st := s_l_split) l_l_split c_l_split k_l_split).binds (ps := ["_law_one_here", "_law_other"]) fun _ _ _ _ _ _ us hl => match us, hl with | [_, _], _ => rfl⟩
  have D_l_tried : Df K mg "_law_tried" s_l_tried ["_law_call"] := ⟨_, _, fun_mk (st := s_l_tried) l_l_tried c_l_tried k_l_tried, PySem.W.mg_of X G a_l_tried, (fun_mk (st := s_l_tried) l_l_tried c_l_tried k_l_tried).binds (ps := ["_law_call"]) fun _ _ _ _ _ _ us hl => match us, hl with | [_], _ => rfl⟩
  have D_l_fee_right : Df K mg "_law_fee_right" s_l_fee_right ["_law_deck_here"] := ⟨_, _, fun_mk (st := s_l_fee_right) l_l_fee_right c_l_fee_right k_l_fee_right, PySem.W.mg_of X G a_l_fee_right, (fun_mk (st := s_l_fee_right) l_l_fee_right c_l_fee_right k_l_fee_right).binds (ps := ["_law_deck_here"]) fun _ _ _ _ _ _ us hl => match us, hl with | [_], _ => rfl⟩
  have D_l_coprime : Df K mg "_law_coprime" s_l_coprime ["_law_p", "_law_q"] := ⟨_, _, fun_mk (st := s_l_coprime) l_l_coprime c_l_coprime k_l_coprime, PySem.W.mg_of X G a_l_coprime, (fun_mk (st := s_l_coprime) l_l_coprime c_l_coprime k_l_coprime).binds (ps := ["_law_p", "_law_q"]) fun _ _ _ _ _ _ us hl => match us, hl with | [_, _], _ => rfl⟩
  have D_l_steps_right : Df K mg "_law_steps_right" s_l_steps_right ["_law_deck_here"] := ⟨_, _, fun_mk (st := s_l_steps_right) l_l_steps_right c_l_steps_right k_l_steps_right, PySem.W.mg_of X G a_l_steps_right, (fun_mk (st := s_l_steps_right) l_l_steps_right c_l_steps_right k_l_steps_right).binds (ps := ["_law_deck_here"]) fun _ _ _ _ _ _ us hl => match us, hl with | [_], _ => rfl⟩
  have D_law : Df K mg "law" s_law ["_law_script"] := ⟨_, _, fun_mk (st := s_law) l_law c_law k_law, PySem.W.mg_of X G a_law, (fun_mk (st := s_law) l_law c_law k_law).binds (ps := ["_law_script"]) fun _ _ _ _ _ _ us hl => match us, hl with | [_], _ => rfl⟩
  refine ⟨PySem.W.fnOf "law" "law" (defArgs s_law) (defBody s_law) (defScope s_law) .none kV_law dc_law pm_law an_law (.ref cL) ct_law, [(cL, PL), (cF, PF), (cS, PS)], [(PL, q_law), (PF, q_l_fee_right), (PS, q_l_steps_right)],
    in3 OL OF OS, in3 n_PL n_PF n_PS, in3 d_PL d_PF d_PS, rfl, fun s v => .of_eq rfl, fun base _ _ TB => ?_⟩
  have TBL : TabB base mg cL PL := TB _ (List.mem_cons_self ..)
  have TBF : TabB base mg cF PF := TB _ (List.mem_cons_of_mem _ (List.mem_cons_self ..))
  have TBS : TabB base mg cS PS := TB _ (List.mem_cons_of_mem _ (List.mem_cons_of_mem _ (List.mem_cons_self ..)))
  obtain ⟨TT, hTT⟩ : ∃ TT : List (Addr × Str), TT = [(PL, q_law), (PF, q_l_fee_right), (PS, q_l_steps_right)] := ⟨_, rfl⟩
  rw [← hTT]
  have hmL : (PL, q_law) ∈ TT := by rw [hTT]; exact List.mem_cons_self ..
  have hmF : (PF, q_l_fee_right) ∈ TT := by rw [hTT]; exact List.mem_cons_of_mem _ (List.mem_cons_self ..)
  have hmS : (PS, q_l_steps_right) ∈ TT := by rw [hTT]; exact List.mem_cons_of_mem _ (List.mem_cons_of_mem _ (List.mem_cons_self ..))
  have huL : ∀ p ∈ TT, p.1 = PL → p.2 = q_law := by rw [hTT]; exact in3 (fun _ => rfl) (fun e => (nLF e.symm).elim) (fun e => (nLS e.symm).elim)
  have huF : ∀ p ∈ TT, p.1 = PF → p.2 = q_l_fee_right := by rw [hTT]; exact in3 (fun e => (nLF e).elim) (fun _ => rfl) (fun e => (nFS e.symm).elim)
  have huS : ∀ p ∈ TT, p.1 = PS → p.2 = q_l_steps_right := by rw [hTT]; exact in3 (fun e => (nLS e).elim) (fun e => (nFS e).elim) (fun _ => rfl)
  have C_cycle_of : Cal l.prog w K mg base "cycle_of" ["items"] 1 (sp_cycle_of K) := ok_cycle_of T D_cycle_of
  have C_values_to : Cal l.prog w K mg base "values_to" ["rule", "count"] 1 (sp_values_to K) := ok_values_to T D_values_to
  have C_begin_of : Cal l.prog w K mg base "begin_of" ["rule"] 1 (sp_begin_of K) := ok_begin_of T D_begin_of
  have C_rise_in : Cal l.prog w K mg base "rise_in" ["rule", "turn"] 1 (sp_rise_in K) := ok_rise_in T D_rise_in
  have C_l_deck : Cal l.prog w K mg base "_law_deck" ["_law_script"] 1 (sp_l_deck K) := ok_l_deck T D_l_deck
  have C_l_draw : Cal l.prog w K mg base "_law_draw" ["_law_deck_here", "_law_many"] 1 (sp_l_draw K) := ok_l_draw T D_l_draw
  have C_l_value : Cal l.prog w K mg base "_law_value" ["_law_rule_here", "_law_x"] 1 (sp_l_value K) := ok_l_value T D_l_value
  have C_l_told : Cal l.prog w K mg base "_law_told" ["_law_rule_here"] 1 (sp_l_told K) := ok_l_told T D_l_told
  have C_l_coprime : Cal l.prog w K mg base "_law_coprime" ["_law_p", "_law_q"] 1 (sp_l_coprime K) := ok_l_coprime T D_l_coprime
  have C_shortest : Cal l.prog w K mg base "shortest" ["table", "period", "rise"] 2 (sp_shortest K) := ok_shortest T D_shortest C_cycle_of
  have C_common_turn : Cal l.prog w K mg base "common_turn" ["one", "other"] 2 (sp_common_turn K) := ok_common_turn T D_common_turn C_begin_of
  have C_l_one : Cal l.prog w K mg base "_law_one" ["_law_deck_here", "_law_items"] 2 (sp_l_one K) := ok_l_one T D_l_one C_l_draw
  have C_l_repeats : Cal l.prog w K mg base "_law_repeats" ["_law_rule_here", "_law_step", "_law_more"] 2 (sp_l_repeats K) := ok_l_repeats T D_l_repeats C_l_value
  have C_l_last : Cal l.prog w K mg base "_law_last" ["_law_less", "_law_more"] 2 (sp_l_last K) := ok_l_last T D_l_last C_l_value
  have X_check_told : CalX l.prog w K mg base "check_told" ["number"] 3 (sp_check_told cTL) := ok_check_told T XL D_check_told
  have C_last_above : Cal l.prog w K mg base "last_above" ["flat", "steep"] 3 (sp_last_above K) := ok_last_above T D_last_above C_rise_in C_values_to C_common_turn
  have C_split_with : Cal l.prog w K mg base "split_with" ["near", "bound", "far"] 3 (sp_split_with K) := ok_split_with T D_split_with C_shortest C_values_to
  have C_l_least : Cal l.prog w K mg base "_law_least" ["_law_rule_here"] 3 (sp_l_least K) := ok_l_least T D_l_least C_l_value C_l_repeats
  have X_told : CalX l.prog w K mg base "told" ["table", "period", "rise"] 4 (sp_toldX cTL) := ok_told T D_told X_check_told C_shortest
  have C_l_rule : Cal l.prog w K mg base "_law_rule" ["_law_deck_here", "_law_long", "_law_wide", "_law_tall"] 4 (sp_l_rule K) := ok_l_rule T D_l_rule C_l_least C_l_draw
  have C_l_best : Cal l.prog w K mg base "_law_best" ["_law_one_here", "_law_other"] 4 (sp_l_best K) := ok_l_best T D_l_best C_l_told C_l_least C_l_value C_l_last
  have C_l_shared : Cal l.prog w K mg base "_law_shared" ["_law_long_one", "_law_other", "_law_below"] 4 (sp_l_shared K) := ok_l_shared T D_l_shared C_l_least C_l_value
  have X_greater_values : CalX l.prog w K mg base "greater_values" ["one", "other", "count", "turn"] 5 (sp_greater cTL) := ok_greater_values T D_greater_values X_told C_rise_in C_values_to
  have C_l_split : Cal l.prog w K mg base "_law_split" ["_law_one_here", "_law_other"] 5 (sp_l_split K) := ok_l_split T D_l_split C_l_best C_l_shared
  have X_overtaking_rule : CalX l.prog w K mg base "overtaking_rule" ["steep", "flat"] 6 (sp_over cTL) := ok_overtaking_rule T D_overtaking_rule X_greater_values X_check_told C_last_above C_begin_of
  have X_best_rule : CalX l.prog w K mg base "best_rule" ["one", "other"] 7 (sp_best cTL) := ok_best_rule T D_best_rule X_overtaking_rule X_greater_values C_common_turn
  have X_split_rule : CalX l.prog w K mg base "split_rule" ["one", "other"] 8 (sp_split cTL) := ok_split_rule T D_split_rule X_best_rule C_split_with C_begin_of X_told C_common_turn

  have G_fee := ok_l_fee_right (TT := TT) T XC (fun_mk (st := s_l_fee_right) l_l_fee_right c_l_fee_right k_l_fee_right) rfl TBF hmF huF D_l_tried X_split_rule C_l_draw C_l_one
  have G_steps := ok_l_steps_right (TT := TT) T XC (fun_mk (st := s_l_steps_right) l_l_steps_right c_l_steps_right k_l_steps_right) rfl TBS hmS huS D_l_tried X_split_rule C_l_draw C_l_one C_l_coprime
  exact ok_lawC (TT := TT) T XC (fun_mk (st := s_law) l_law c_law k_law) rfl TBL hmL huL D_l_tried X_split_rule C_l_deck C_l_draw C_l_rule C_l_least C_l_split G_steps (PySem.W.mg_of X G a_l_steps_right) k_l_steps_right ((fun_mk (st := s_l_steps_right) l_l_steps_right c_l_steps_right k_l_steps_right).binds (ps := ["_law_deck_here"]) fun _ _ _ _ _ _ us hl => match us, hl with | [_], _ => rfl) G_fee (PySem.W.mg_of X G a_l_fee_right) k_l_fee_right ((fun_mk (st := s_l_fee_right) l_l_fee_right c_l_fee_right k_l_fee_right).binds (ps := ["_law_deck_here"]) fun _ _ _ _ _ _ us hl => match us, hl with | [_], _ => rfl)

end Sm
open PySem PySem.W PyProof.Rows in
set_option maxRecDepth 100000 in
set_option maxHeartbeats 0 in
theorem PySem.Challenge.cw_smallchange_k11_whole_far_partings_holds : PySem.Challenge.rw_smallchange_k11_whole_far_partings.Holds := by
  w_on; o_law; k_head; (case hw => w_witness2)
  k_fill
  refine Sm.walk_at_lawTs (l := PySem.Challenge.rw_smallchange_k11_whole_far_partings) (k := 13) (x := "_law_script") (sp := Sm.sp_law) rfl rfl ⟨rfl, by decide, by decide⟩ (fun w h Y => PySem.W.km_in_of Y) ?F (fun _ _ _ a ns hl tb hS => ⟨a, ns, rfl, hS, hl, tb, fun _ => rfl⟩)
  case F =>
    intro w mg fa h KX G hmg own
    refine' Sm.all_mk KX G hmg own ?a_shortest ?l_shortest ?c_shortest ?k_shortest ?a_cycle_of ?l_cycle_of ?c_cycle_of ?k_cycle_of ?a_told ?l_told ?c_told ?k_told ?a_check_told ?l_check_told ?c_check_told ?k_check_told ?a_values_to ?l_values_to ?c_values_to ?k_values_to ?a_begin_of ?l_begin_of ?c_begin_of ?k_begin_of ?a_rise_in ?l_rise_in ?c_rise_in ?k_rise_in ?a_common_turn ?l_common_turn ?c_common_turn ?k_common_turn ?a_best_rule ?l_best_rule ?c_best_rule ?k_best_rule ?a_overtaking_rule ?l_overtaking_rule ?c_overtaking_rule ?k_overtaking_rule ?a_greater_values ?l_greater_values ?c_greater_values ?k_greater_values ?a_last_above ?l_last_above ?c_last_above ?k_last_above ?a_split_rule ?l_split_rule ?c_split_rule ?k_split_rule ?a_split_with ?l_split_with ?c_split_with ?k_split_with ?a_l_deck ?l_l_deck ?c_l_deck ?k_l_deck ?a_l_draw ?l_l_draw ?c_l_draw ?k_l_draw ?a_l_one ?l_l_one ?c_l_one ?k_l_one ?a_l_value ?l_l_value ?c_l_value ?k_l_value ?a_l_repeats ?l_l_repeats ?c_l_repeats ?k_l_repeats ?a_l_least ?l_l_least ?c_l_least ?k_l_least ?a_l_rule ?l_l_rule ?c_l_rule ?k_l_rule ?a_l_last ?l_l_last ?c_l_last ?k_l_last ?a_l_best ?l_l_best ?c_l_best ?k_l_best ?a_l_told ?l_l_told ?c_l_told ?k_l_told ?a_l_shared ?l_l_shared ?c_l_shared ?k_l_shared ?a_l_split ?l_l_split ?c_l_split ?k_l_split ?a_l_tried ?l_l_tried ?c_l_tried ?k_l_tried ?a_l_fee_right ?l_l_fee_right ?c_l_fee_right ?k_l_fee_right ?a_l_coprime ?l_l_coprime ?c_l_coprime ?k_l_coprime ?a_l_steps_right ?l_l_steps_right ?c_l_steps_right ?k_l_steps_right ?a_law ?l_law ?c_law ?k_law ?a_cCE ?a_cTL ?a_cBR ?a_cNS ?a_cNR ?x_TL ?f_sa ?f_ga ?f_gg ?f_no ?f_iC ?f_cl ?t_fB ?t_TL ?k_TL ?e_TL ?v_TL ?s_TL ?h_TL ?m_TL ?g_cl ?t_cl ?e_CE ?h_CE ?t_CE ?s_CE ?i_BR ?t_BR ?s_BR ?i_NR ?t_NR ?s_NR ?i_NS ?t_NS ?s_NS ?l_fB ?c_fB ?k_fB ?l_cL ?e_PL ?d_PL ?n_PL ?r_L ?l_cF ?e_PF ?d_PF ?n_PF ?r_F ?l_cS ?e_PS ?d_PS ?n_PS ?r_S ?nLF ?nLS ?nFS ?z_ValueError ?z__law_call ?z_abs ?z_int ?z_isinstance ?z_len ?z_list ?z_max ?z_min ?z_range ?z_repr ?z_tuple ?g_lcm ?g_MAX_TOLD
    (case a_shortest => k_is)
    (case l_shortest => k_is)
    (case c_shortest => k_is)
    (case k_shortest => k_is)
    (case a_cycle_of => k_is)
    (case l_cycle_of => k_is)
    (case c_cycle_of => k_is)
    (case k_cycle_of => k_is)
    (case a_told => k_is)
    (case l_told => k_is)
    (case c_told => k_is)
    (case k_told => k_is)
    (case a_check_told => k_is)
    (case l_check_told => k_is)
    (case c_check_told => k_is)
    (case k_check_told => k_is)
    (case a_values_to => k_is)
    (case l_values_to => k_is)
    (case c_values_to => k_is)
    (case k_values_to => k_is)
    (case a_begin_of => k_is)
    (case l_begin_of => k_is)
    (case c_begin_of => k_is)
    (case k_begin_of => k_is)
    (case a_rise_in => k_is)
    (case l_rise_in => k_is)
    (case c_rise_in => k_is)
    (case k_rise_in => k_is)
    (case a_common_turn => k_is)
    (case l_common_turn => k_is)
    (case c_common_turn => k_is)
    (case k_common_turn => k_is)
    (case a_best_rule => k_is)
    (case l_best_rule => k_is)
    (case c_best_rule => k_is)
    (case k_best_rule => k_is)
    (case a_overtaking_rule => k_is)
    (case l_overtaking_rule => k_is)
    (case c_overtaking_rule => k_is)
    (case k_overtaking_rule => k_is)
    (case a_greater_values => k_is)
    (case l_greater_values => k_is)
    (case c_greater_values => k_is)
    (case k_greater_values => k_is)
    (case a_last_above => k_is)
    (case l_last_above => k_is)
    (case c_last_above => k_is)
    (case k_last_above => k_is)
    (case a_split_rule => k_is)
    (case l_split_rule => k_is)
    (case c_split_rule => k_is)
    (case k_split_rule => k_is)
    (case a_split_with => k_is)
    (case l_split_with => k_is)
    (case c_split_with => k_is)
    (case k_split_with => k_is)
    (case a_l_deck => k_is)
    (case l_l_deck => k_is)
    (case c_l_deck => k_is)
    (case k_l_deck => k_is)
    (case a_l_draw => k_is)
    (case l_l_draw => k_is)
    (case c_l_draw => k_is)
    (case k_l_draw => k_is)
    (case a_l_one => k_is)
    (case l_l_one => k_is)
    (case c_l_one => k_is)
    (case k_l_one => k_is)
    (case a_l_value => k_is)
    (case l_l_value => k_is)
    (case c_l_value => k_is)
    (case k_l_value => k_is)
    (case a_l_repeats => k_is)
    (case l_l_repeats => k_is)
    (case c_l_repeats => k_is)
    (case k_l_repeats => k_is)
    (case a_l_least => k_is)
    (case l_l_least => k_is)
    (case c_l_least => k_is)
    (case k_l_least => k_is)
    (case a_l_rule => k_is)
    (case l_l_rule => k_is)
    (case c_l_rule => k_is)
    (case k_l_rule => k_is)
    (case a_l_last => k_is)
    (case l_l_last => k_is)
    (case c_l_last => k_is)
    (case k_l_last => k_is)
    (case a_l_best => k_is)
    (case l_l_best => k_is)
    (case c_l_best => k_is)
    (case k_l_best => k_is)
    (case a_l_told => k_is)
    (case l_l_told => k_is)
    (case c_l_told => k_is)
    (case k_l_told => k_is)
    (case a_l_shared => k_is)
    (case l_l_shared => k_is)
    (case c_l_shared => k_is)
    (case k_l_shared => k_is)
    (case a_l_split => k_is)
    (case l_l_split => k_is)
    (case c_l_split => k_is)
    (case k_l_split => k_is)
    (case a_l_tried => k_is)
    (case l_l_tried => k_is)
    (case c_l_tried => k_is)
    (case k_l_tried => k_is)
    (case a_l_fee_right => k_is)
    (case l_l_fee_right => k_is)
    (case c_l_fee_right => k_is)
    (case k_l_fee_right => k_is)
    (case a_l_coprime => k_is)
    (case l_l_coprime => k_is)
    (case c_l_coprime => k_is)
    (case k_l_coprime => k_is)
    (case a_l_steps_right => k_is)
    (case l_l_steps_right => k_is)
    (case c_l_steps_right => k_is)
    (case k_l_steps_right => k_is)
    (case a_law => k_is)
    (case l_law => k_is)
    (case c_law => k_is)
    (case k_law => k_is)
    (case a_cCE => first | k_is | rfl | decide +kernel)
    (case a_cTL => first | k_is | rfl | decide +kernel)
    (case a_cBR => first | k_is | rfl | decide +kernel)
    (case a_cNS => first | k_is | rfl | decide +kernel)
    (case a_cNR => first | k_is | rfl | decide +kernel)
    (case x_TL => first | k_is | rfl | decide +kernel)
    (case f_sa => first | k_is | rfl | decide +kernel)
    (case f_ga => first | k_is | rfl | decide +kernel)
    (case f_gg => first | k_is | rfl | decide +kernel)
    (case f_no => first | k_is | rfl | decide +kernel)
    (case f_iC => first | k_is | rfl | decide +kernel)
    (case f_cl => first | k_is | rfl | decide +kernel)
    (case t_fB => first | k_is | rfl | decide +kernel)
    (case t_TL => first | k_is | rfl | decide +kernel)
    (case k_TL => first | k_is | rfl | decide +kernel)
    (case e_TL => first | k_is | rfl | decide +kernel)
    (case v_TL => first | k_is | rfl | decide +kernel)
    (case s_TL => first | k_is | rfl | decide +kernel)
    (case h_TL => first | k_is | rfl | decide +kernel)
    (case m_TL => first | k_is | rfl | decide +kernel)
    (case g_cl => first | k_is | rfl | decide +kernel)
    (case t_cl => first | k_is | rfl | decide +kernel)
    (case e_CE => first | k_is | rfl | decide +kernel)
    (case h_CE => first | k_is | rfl | decide +kernel)
    (case t_CE => first | k_is | rfl | decide +kernel)
    (case s_CE => first | k_is | rfl | decide +kernel)
    (case i_BR => first | k_is | rfl | decide +kernel)
    (case t_BR => first | k_is | rfl | decide +kernel)
    (case s_BR => first | k_is | rfl | decide +kernel)
    (case i_NR => first | k_is | rfl | decide +kernel)
    (case t_NR => first | k_is | rfl | decide +kernel)
    (case s_NR => first | k_is | rfl | decide +kernel)
    (case i_NS => first | k_is | rfl | decide +kernel)
    (case t_NS => first | k_is | rfl | decide +kernel)
    (case s_NS => first | k_is | rfl | decide +kernel)
    (case l_fB => first | k_is | rfl | decide +kernel)
    (case c_fB => first | k_is | rfl | decide +kernel)
    (case k_fB => first | k_is | rfl | decide +kernel)
    (case l_cL => first | k_is | rfl | decide +kernel)
    (case e_PL => first | k_is | rfl | decide +kernel)
    (case d_PL => first | k_is | rfl | decide +kernel)
    (case n_PL => first | k_is | rfl | decide +kernel)
    (case r_L => decide +kernel)
    (case l_cF => first | k_is | rfl | decide +kernel)
    (case e_PF => first | k_is | rfl | decide +kernel)
    (case d_PF => first | k_is | rfl | decide +kernel)
    (case n_PF => first | k_is | rfl | decide +kernel)
    (case r_F => decide +kernel)
    (case l_cS => first | k_is | rfl | decide +kernel)
    (case e_PS => first | k_is | rfl | decide +kernel)
    (case d_PS => first | k_is | rfl | decide +kernel)
    (case n_PS => first | k_is | rfl | decide +kernel)
    (case r_S => decide +kernel)
    (case nLF => decide)
    (case nLS => decide)
    (case nFS => decide)
    (case z_ValueError => k_is)
    (case z__law_call => k_is)
    (case z_abs => k_is)
    (case z_int => k_is)
    (case z_isinstance => k_is)
    (case z_len => k_is)
    (case z_list => k_is)
    (case z_max => k_is)
    (case z_min => k_is)
    (case z_range => k_is)
    (case z_repr => k_is)
    (case z_tuple => k_is)
    (case g_lcm => k_is)
    (case g_MAX_TOLD => k_is)
