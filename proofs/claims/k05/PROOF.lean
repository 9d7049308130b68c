import PyProof.Rows.All
import Wide.All
import OpenK.AllK
import Wide.FinOn
import HandS.ForMost
import HandS.Wide
import HandS.Codes
import PyProof.ReprRoads
import PyProof.LongRange
import PyProof.SumWalkG
import PyProof.WalksMore
import HandS.TupMul
import HandS.TupAny
import HandS.Gcd
import KE.KMathGC
import HandS.Conv
import HandS.IsInst
import HandS.Style
import PySem.Challenge.RW_smallchange_k05_first_amounts_above
set_option Elab.async false
set_option linter.all false
set_option maxRecDepth 100000
set_option maxHeartbeats 4000000
namespace Sm
open PySem PySem.Spec PyProof.Rows L2
/-! ### promises of defs where no repr is under way: as FnOk, with A's guards empty -/
structure FnG (P : Program) (w : World) (K : PySem.W.Frag) (mg : Str → Option Value) (base : Heap) (k : Nat) (f : Addr) (fd : FuncData) (ps : List Str) (sp : Sp) : Prop where
  len : ∀ vs H Q E, sp vs H Q E → vs.length = ps.length
  run : ∀ (A : Around) (outer : List Env) (s : Shared) (H : Hp) (args : Args) (us : List Value) (vs : List V) (Q : VK) (E : XK), A.guards = some [] → Room k A →
    Env0 P w K mg base A outer s H → BindsTo s fd args (ps.zip us) → Vals vs us → sp vs H Q E → codeAny (model P w) A (.call (.ref f) args) (CR CX0 outer P w H s Q E) s
section
variable {P : Program} {w : World} {K : PySem.W.Frag} {mg : Str → Option Value} {base : Heap} {k : Nat} {f : Addr} {fd : FuncData} {ps : List Str} {sp : Sp}
theorem FnG.of (F : FnOk P w K mg base CX0 k f fd ps sp) : FnG P w K mg base k f fd ps sp :=
  ⟨F.len, fun A outer s H args us vs Q E _ hr e b v h => F.run A outer s H args us vs Q E hr e b v h⟩
theorem FnG.body {x : Str} {st : Stmt} {N : List Str} (F : Fun K x x st f fd) (S : FnScope N ps (defScope st)) (len : ∀ vs H Q E, sp vs H Q E → vs.length = ps.length)
    (hb : ∀ (cdv : Value) (A : Around) (outer : List Env) (s : Shared) (H : Hp) (vs : List V) (Q : VK) (E : XK), A.guards = some [] → Room k (A.deeper (envOfC x (defScope st) s.heap.objs.size f cdv)) → sp vs H Q E →
      ∃ t, PSs (cxOf CX0 P w K mg base N x (defScope st) f cdv A outer s H E).nox (defBody st) t ∧ t { nx := fun _ H' => Q .non H', rt := Q } (start N vs) H) : FnG P w K mg base (k + 1) f fd ps sp := by
  obtain ⟨oc, od, kV, doc, pm, an, cdv, ct, osl, efd, look, code⟩ := F.ex
  subst efd
  constructor
  · exact len
  intro A outer s H args us vs Q E guard room e0 bind rel want
  have inn : K.In s.heap := e0.mod.kin.keeps fun b o e => (e0.bs b o e).1
  have nolim : s.heap.NoLimit := e0.mod.nolimit.keeps fun b o e => (e0.bs b o e).1
  refine codeAny_call_function room.depth (inn _ _ look) rfl S.co S.gen rfl (PySem.W.codeRec_of inn code) (bind _ _ _ _ ?_)
  refine wpAny_newFunctionEnv_cells S.kind ?_ ?_
  · rintro ⟨n, v⟩ there
    have := S.par n (List.of_mem_zip there).1
    cases this with
    | inl q => exact .inl q
    | inr q => exact .inr ⟨q, PySem.W.cellsFrom_some _ _ _ (.inl q)⟩
  · intro env eenv s1 laid
    subst eenv
    refine ⟨nolim.keeps laid.toInCall.keep, codeAny_func ?_⟩
    obtain ⟨t, der, goal⟩ := hb cdv A outer s H vs Q E guard (room.deeper _) want
    have I := inv_start (CX := CX0) (E := E) S room.hd e0 (len _ _ _ _ want) rel laid
    refine wpAny_mono (der.nox.run [] s1 (start N vs) H _ I goal) (fun out s' got => ?_) fun e s' got => got
    match out, got with
    | .ret u, ⟨v, σ', H', J, rv, q⟩ => exact ⟨v, H', J.os, J.bare, J.base, J.hok, rv, q⟩
    | .next, ⟨σ', H', J, q⟩ => exact ⟨V.non, H', J.os, J.bare, J.base, J.hok, rfl, q⟩
    | .brk, ⟨_, _, _, q⟩ => exact q.elim
    | .cont, ⟨_, _, _, q⟩ => exact q.elim
end
section
variable {X : Cx} {k : Nat} {f : Addr} {fd : FuncData} {ps : List Str} {sp : Sp} {x : Str} {p pos : Pos} {e : Expr} {es : List Expr} {t : TA}
theorem pe_callG (F : FnG X.prog X.w X.K X.mg X.base k f fd ps sp) (gu : X.A.guards = some []) (hr : Room k X.A) (hg : Gl X x) (hm : X.mg x = some (.ref f)) (hk : PySem.W.keepIn X.K (.ref f) = true) (hb : Binds X.K fd ps [])
    (ha : PA X (e :: es) t) (hdb : (x == ("__debug__" : Str)) = false := by decide) (he : starEach (e :: es) X.env = (false, eval e X.env) :: starEach es X.env := by rfl) (hpl : (backTo pos (starEach es X.env)).any (·.1) = false := by rfl) :
    PE X (.Call (.Name x p) (e :: es) [] pos) (tCall sp [] E0 t) := by
  constructor
  intro pins s σ H Q I want
  refine wpAny_Call_Name_kw (ld_glob I hg hm ?_ hdb)
  refine PySem.W.callWith_K (h₀ := X.base) I.ok.mod.kin hk (thn (ha.run pos pins s σ H _ I want) ?_) he hpl
  rintro us s1 ⟨vs, H1, I1, rel, q⟩
  refine ⟨I1.kIn, ?_⟩
  have q : sp vs H1 Q E0 := by
    have q : sp (vs ++ []) H1 Q E0 := q
    rw [List.append_nil] at q
    exact q
  have b := hb s1 us I1.kIn (by rw [List.append_nil, ← rel.length]; exact F.len _ _ _ _ q)
  rw [List.append_nil] at b
  refine wpAny_call (codeAny_mono (F.run X.A X.stack s1 H1 ⟨us, []⟩ us vs Q E0 gu hr I1.env0 b rel q) ?_)
  rintro (e | out) s' got
  · exact got.elim
  · match out, got with
    | .ret u, got => exact I1.after got
    | .next, got => exact got.elim
    | .brk, got => exact got.elim
    | .cont, got => exact got.elim
/-- repr of data at any depth -/
theorem call_repr_data (gu : X.A.guards = some []) (room : ∃ k, Room k X.A) : CallR X (.builtin "repr") (fun xs H Q => ∃ a d, xs = [.ref a] ∧ Dp X.K H (.ref a) d ∧ PyData.showable d = true ∧ PyData.hasDict d = false ∧ d.depth ≤ 60 ∧ d.shown.length ≤ sizeLine ∧ Q (.str d.shown) H) := by
  intro pins s σ H xs us Q I rel want
  obtain ⟨a, d, rfl, data, sh, nd, dep, len, q⟩ := want
  obtain ⟨u, rfl, ru⟩ := vals1 rel
  obtain ⟨as, reads⟩ := Dp.reads I d _ u data ru
  cases ru
  obtain ⟨k, room⟩ := room
  have un := room.un
  exact repr_of_reads' reads sh (PyData.noDict_hsm nd) gu (by omega) (fun _ _ e => e) (fun h' v tk keep => ⟨.str d.shown, H, I.kept keep, ⟨_, rfl⟩, q⟩) len
end
/-! ### the law's own call, at the caller's place -/
theorem law_at {P : Program} {w : World} {K : PySem.W.Frag} {mg mb : Str → Option Value} {k : Nat} {fa a : Addr} {fd : FuncData} {x : Str} {sp : Sp} {s₁ : Shared} {vs : List Value} {ns : List Int}
    (KX : K.In s₁.heap) (hns : s₁.heap.Ns mainGlobals mg) (hb : s₁.heap.Ns builtinsNs mb) (hbb : ∀ x : Str, x ≠ "__name__" → mb x = bootBuiltins x) (hlim : s₁.heap.NoLimit) (hg : s₁.gens = #[])
    (ha : s₁.heap.get? a = some { cls := .type "list", data := .seq vs.toArray }) (hi : IntsAre vs ns) (hl : ns.length ≤ sizeLine) (hr : Room k callerA)
    (F : ∀ base : Heap, K.In base → base.Ns mainGlobals mg → FnG P w K mg base k fa fd [x] sp) (hbind : ∀ (s : Shared) (u : Value), BindsTo s fd ⟨[u], []⟩ [(x, u)])
    (hsp : ∀ H : Hp, SqL K H a (ns.map V.int) → sp [.ref a] H (fun v _ => v = .bl true) E0) :
    codeAny (model P w) callerA (.call (.ref fa) ⟨[.ref a], []⟩) (fun r s' => r = .ok (.ret (.bool true)) ∧ OldK s₁.heap s'.heap ∧ s'.os = s₁.os ∧ AllBare s'.gens) s₁ := by
  have ivs := vals_ints hi
  -- what is tracked: the script, if the module does not hold it itself
  obtain ⟨H, seq, ok, only, free⟩ : ∃ H : Hp, SqL K H a (ns.map V.int) ∧ HOk P w H s₁.heap ∧ (∀ b u, H b = some u → b = a ∧ u = .frz { cls := .type "list", data := .seq vs.toArray } (.lst (ns.map V.int))) ∧ ∀ b u, H b = some u → K.lookup b = none := by
    cases look : K.lookup a with
    | some o =>
      have same := KX a o look
      rw [ha] at same
      injection same with same
      subst same
      have empty : ∀ {u : HO}, (none : Option HO) = some u → False := fun z => nomatch z
      refine ⟨fun _ => none, .inr ⟨_, vs.toArray, _, look, rfl, rfl, rfl, ?_, ?_⟩, fun b u z => (empty z).elim, fun b u z => (empty z).elim, fun b u z => (empty z).elim⟩
      · rw [List.size_toArray, hi.length]
        exact hl
      · simpa using ivs
    | none =>
      have at_a : ∀ b u, (fun b => if b = a then some (HO.frz { cls := .type "list", data := .seq vs.toArray } (.lst (ns.map V.int))) else none : Hp) b = some u → b = a ∧ u = .frz { cls := .type "list", data := .seq vs.toArray } (.lst (ns.map V.int)) := by
        intro b u z
        by_cases e : b = a
        · have z := (if_pos e).symm.trans z
          exact ⟨e, (Option.some.inj z).symm⟩
        · exact nomatch (if_neg e).symm.trans z
      refine ⟨_, .inl (.inr ⟨_, if_pos rfl⟩), fun b u z => ?_, at_a, fun b u z => ?_⟩
      · obtain ⟨rfl, rfl⟩ := at_a b u z
        exact ⟨ha, by rw [List.length_map]; exact hl, vs, _, ivs, ha⟩
      · rw [(at_a b u z).1]
        exact look
  have stays : ∀ {b : Addr} {o : Obj}, s₁.heap.get? b = some o → (∀ u, H b ≠ some u) → (hidT s₁.heap H).get? b = some o := fun {b o} e no => hidT_get e (by
    cases z : H b with
    | none => rfl
    | some u => exact (no u z).elim)
  have spaces : ∀ {b : Addr} {m : Str → Option Value}, s₁.heap.Ns b m → (hidT s₁.heap H).Ns b m := by
    rintro b m ⟨o, es, ep, there, data, rest⟩
    refine ⟨o, es, ep, stays there fun u z => ?_, data, rest⟩
    rw [(only b u z).1, ha] at there
    injection there with there
    subst there
    exact nomatch data
  have inn : K.In (hidT s₁.heap H) := fun b o e => stays (KX b o e) fun u z => by
    rw [free b u z] at e
    exact nomatch e
  have mod : Mod K mg (hidT s₁.heap H) := by
    obtain ⟨mc, c1, c2⟩ := hlim
    exact ⟨inn, spaces hns, ⟨mb, spaces hb, hbb⟩, mc, spaces c1, c2⟩
  have e0 : Env0 P w K mg (hidT s₁.heap H) callerA [] s₁ H := by
    refine ⟨rfl, mod, fun b o e => of_hidT e, Nat.le_of_eq (hidT_size _ _), trivial, ?_, ok, .of_eq hg⟩
    intro b q
    exact absurd q (List.not_mem_nil (a := b))
  refine codeAny_mono ((F _ inn (spaces hns)).run callerA [] s₁ H ⟨[.ref a], []⟩ [.ref a] [.ref a] _ _ rfl hr e0 (hbind s₁ (.ref a)) (.cons rfl .nil) (hsp H seq)) ?_
  rintro (e | out) s' got
  · exact got.elim
  · match out, got with
    | .next, got => exact got.elim
    | .brk, got => exact got.elim
    | .cont, got => exact got.elim
    | .ret u, ⟨v, H', os, bare, un, ok', rel, q⟩ =>
      have q : v = V.bl true := q
      subst q
      have rel : u = Value.bool true := rel
      subst rel
      refine ⟨rfl, .of_keep fun b o e => ?_, os, bare⟩
      cases z : H b with
      | none => exact un.keep b o e z (List.not_mem_nil (a := b)) (List.not_mem_nil (a := b))
      | some u =>
        obtain ⟨rfl, rfl⟩ := only b u z
        have now := (ok' _ _ (un.frzs _ _ _ z)).1
        rw [ha] at e
        injection e with e
        rw [← e]
        exact now
theorem walk_at_law {l : PySem.W.OpenLaw} {k : Nat} {q : Program} {loose : List Str} {XP : (Str → Option Value) → Heap → Prop} {YP : World → Heap → Prop} {d : DefRec} {K : Params → PySem.W.Frag} {sp : PySem.W.Frag → Sp} {x : Str}
    (hn : l.most = some 63) (hdf : d.params.defaults = []) (hr : Room k callerA) (hY : ∀ (w : World) (h : Heap), YP w h → (K w.params).In h)
    (F : ∀ (w : World) (mg : Str → Option Value) (fa : Addr) (h : Heap), (K w.params).In h → h.Ns mainGlobals mg → mg d.name = some (.ref fa) →
      ∃ fd : FuncData, (∀ (s : Shared) (u : Value), BindsTo s fd ⟨[u], []⟩ [(x, u)]) ∧ ∀ base : Heap, (K w.params).In base → base.Ns mainGlobals mg → FnG l.prog w (K w.params) mg base k fa fd [x] (sp (K w.params)))
    (hsp : ∀ (K : PySem.W.Frag) (H : Hp) (a : Addr) (ns : List Int), ns.length ≤ 63 → SqL K H a (ns.map V.int) → sp K [.ref a] H (fun v _ => v = .bl true) E0) :
    PySem.W.WalkO q loose XP YP l.row.toRowW d [] (fun f vs => PySem.call f vs) := by
  refine Att.attach_call hn hdf ?_
  intro w s₀ s₁ mg mb fa o pm cd doc a vs ns G Y ho hd hcd hmg hobj hints hlen hg
  obtain ⟨fd, bind, each⟩ := F w mg fa _ (hY w _ Y) G.T.g hmg
  exact law_at (hY w _ Y) G.T.g G.T.b G.T.builtins G.T.nolimit hg hobj hints (Nat.le_trans hlen (by decide)) hr each bind fun H sq => hsp (K w.params) H a ns hlen sq
end Sm

set_option Elab.async false
set_option linter.all false
set_option maxRecDepth 100000
set_option maxHeartbeats 4000000
namespace Sm
open PySem PySem.Spec PyProof.Rows L2
section
variable {P : Program} {w : World} {K : PySem.W.Frag} {mg : Str → Option Value} {base : Heap}
def Df (K : PySem.W.Frag) (mg : Str → Option Value) (x : Str) (st : Stmt) (ps : List Str) : Prop :=
  ∃ (f : Addr) (fd : FuncData), Fun K x x st f fd ∧ mg x = some (.ref f) ∧ Binds K fd ps []
def Cal (P : Program) (w : World) (K : PySem.W.Frag) (mg : Str → Option Value) (base : Heap) (x : Str) (ps : List Str) (k : Nat) (sp : Sp) : Prop :=
  ∃ (f : Addr) (fd : FuncData), FnOk P w K mg base CX0 k f fd ps sp ∧ mg x = some (.ref f) ∧ PySem.W.keepIn K (.ref f) = true ∧ Binds K fd ps []
theorem Df.cal {x : Str} {st : Stmt} {N ps : List Str} {k : Nat} {sp : Sp} (D : Df K mg x st ps) (S : FnScope N ps (defScope st)) (len : ∀ vs H Q E, sp vs H Q E → vs.length = ps.length)
    (hbody : ∀ (f : Addr) (cdv : Value) (A : Around) (outer : List Env) (s : Shared) (H : Hp) (vs : List V) (Q : VK) (E : XK), Room k (A.deeper (envOfC x (defScope st) s.heap.objs.size f cdv)) → sp vs H Q E →
      ∃ t, PSs (cxOf CX0 P w K mg base N x (defScope st) f cdv A outer s H E).nox (defBody st) t ∧ t { nx := fun _ H' => Q .non H', rt := Q } (start N vs) H) : Cal P w K mg base x ps (k + 1) sp := by
  obtain ⟨f, fd, F, m, b⟩ := D
  exact ⟨f, fd, F.ok S len (fun cdv A outer s H vs Q E hr h => hbody f cdv A outer s H vs Q E hr h), m, F.kp, b⟩
theorem same_upd {H : Hp} {p : Addr} {o : HO} (h : H p = none) : Same H (upd H p o) := fun b x e => by
  rw [upd_ne (ne_of_none e h)]
  exact e
theorem iteP {p A B : Prop} [Decidable p] (h : p) (a : A) : if decide p = true then A else B := by
  rw [decide_eq_true h]
  exact iteT a
theorem iteN {p A B : Prop} [Decidable p] (h : ¬ p) (b : B) : if decide p = true then A else B := by
  rw [decide_eq_false h]
  exact iteF b
theorem iteNP {p A B : Prop} [Decidable p] (h : p) (b : B) : if (!decide p) = true then A else B := by
  rw [decide_eq_true h]
  exact iteF b
theorem iteNN {p A B : Prop} [Decidable p] (h : ¬ p) (a : A) : if (!decide p) = true then A else B := by
  rw [decide_eq_false h]
  exact iteT a
theorem ite3 {p A B : Prop} [Decidable p] (h1 : p → A) (h2 : ¬ p → B) : if decide p = true then A else B := by
  by_cases h : p
  · exact iteP h (h1 h)
  · exact iteN h (h2 h)
theorem fmod_pos {a b : Int} (h : 0 < b) : a.fmod b = a % b := Int.fmod_eq_emod_of_nonneg a (by omega)
end
/-! ### the deck -/
structure Deck (H : Hp) (p l : Addr) (n : Int) : Prop where
  hp : H p = some (.lst [.ref l, .int n])
  hl : ∃ cells : List Int, H l = some (.lst (cells.map V.int)) ∧ (∀ c ∈ cells, 0 ≤ c) ∧ cells.length ≤ 63
theorem deck_ne {l : Addr} {n : Int} {cells : List Int} : HO.lst [.ref l, .int n] ≠ HO.lst (cells.map V.int) := by
  intro q
  injection q with q
  cases cells with
  | nil => cases q
  | cons c r => cases (List.cons.inj q).1
/-- all but the deck is as it was -/
def Fr (p l : Addr) (H H' : Hp) : Prop := ∀ b o, b ≠ p → b ≠ l → H b = some o → H' b = some o
theorem Fr.trans {p l : Addr} {H H1 H2 : Hp} (a : Fr p l H H1) (b : Fr p l H1 H2) : Fr p l H H2 := fun c o h1 h2 h => b c o h1 h2 (a c o h1 h2 h)
theorem Same.fr {p l : Addr} {H H' : Hp} (s : Same H H') : Fr p l H H' := fun b o _ _ h => s b o h
theorem Deck.same {H H' : Hp} {p l : Addr} {n : Int} (D : Deck H p l n) (s : Same H H') : Deck H' p l n := by
  obtain ⟨cells, hl, hc⟩ := D.hl
  exact ⟨s _ _ D.hp, cells, s _ _ hl, hc⟩
theorem Fr.tup {H H' : Hp} {p l b : Addr} {n : Int} {xs : List V} (f : Fr p l H H') (D : Deck H p l n) (h : H b = some (.tup xs)) : H' b = some (.tup xs) := by
  obtain ⟨cells, hl, hc⟩ := D.hl
  exact f b _ (ne_of h D.hp (by intro q; cases q)) (ne_of h hl (by intro q; cases q)) h
def sp_l_deck (K : PySem.W.Frag) : Sp := fun vs H Q _ => ∃ (a : Addr) (ns : List Int), vs = [.ref a] ∧ SqL K H a (ns.map V.int) ∧ ns.length ≤ 63 ∧ ∀ H' p l, Same H H' → Deck H' p l 0 → Q (.ref p) H'
def sp_l_draw (K : PySem.W.Frag) : Sp := fun vs H Q _ => ∃ (p l : Addr) (n m : Int), vs = [.ref p, .int m] ∧ Deck H p l n ∧ 0 ≤ n ∧ n ≤ 1000000 ∧ 0 < m ∧ m ≤ 1000000000000000000000000000000000000000000000000000000000000 ∧
  ∀ r H', 0 ≤ r → r < m → Fr p l H H' → Deck H' p l (n + 1) → Q (.int r) H'
def sp_l_one (K : PySem.W.Frag) : Sp := fun vs H Q _ => ∃ (p l b : Addr) (n : Int) (xs : List V), vs = [.ref p, .ref b] ∧ Deck H p l n ∧ 0 ≤ n ∧ n ≤ 1000000 ∧ H b = some (.lst xs) ∧ b ≠ p ∧ b ≠ l ∧ 0 < xs.length ∧ xs.length ≤ 1000 ∧
  ∀ x H', x ∈ xs → Fr p l H H' → Deck H' p l (n + 1) → Q x H'
theorem cut63 {ns : List Int} (h : ns.length ≤ 63) : cutV (ns.map V.int) none (some 63) = ns.map V.int := by
  unfold cutV
  rw [HT.sIx_none, show HT.sIx (ns.map V.int).length (ns.map V.int).length (some 63) = min 63 (ns.map V.int).length from HT.sIx_nat _ _ 63]
  rw [List.length_map, Nat.min_eq_right h, List.drop_zero]
  exact List.take_of_length_le (by rw [List.length_map]; omega)
def absI (n : Int) : Int := if n < 0 then -n else n
theorem absI_pos (n : Int) : 0 ≤ absI n := by
  unfold absI
  split <;> omega
theorem div_draw {c m : Int} (h0 : 0 < m) (h : m ≤ 1000000000000000000000000000000000000000000000000000000000000) : CDivW c m :=
  wide_div (b := 300) h0 (by omega) (by decide) (by decide)
theorem cut_all {xs : List V} {n : Nat} : cutV xs none (some (n : Int)) = xs.take n := by
  unfold cutV
  rw [HT.sIx_none, HT.sIx_nat, List.drop_zero, Nat.sub_zero]
  rcases Nat.le_total n xs.length with h | h
  · rw [Nat.min_eq_left h]
  · rw [Nat.min_eq_right h, List.take_length, List.take_of_length_le h]
theorem ne_new {H : Hp} {p b : Addr} {o : HO} (h : H p = some o) (n : H b = none) : b ≠ p := (ne_of_none h n).symm
/-- what the deck's second list is not -/
theorem Deck.lne {H : Hp} {p l b : Addr} {n : Int} (D : Deck H p l n) (h : H b = none) : b ≠ p ∧ b ≠ l := by
  obtain ⟨cells, hl, hc⟩ := D.hl
  exact ⟨ne_new D.hp h, ne_new hl h⟩
section
variable {X : Cx}
/-- repr of an int or None -/
theorem call_repr_some : CallR X (.builtin "repr") (fun xs H Q => (∃ i, xs = [.int i] ∧ i.natAbs.log2 < 1920 ∧ Q (.str (toString i)) H) ∨ (xs = [.non] ∧ Q (.str "None") H)) := by
  intro pins s σ H xs us Q I r h
  rcases h with ⟨i, rfl, hz, q⟩ | ⟨rfl, q⟩
  · obtain ⟨u, rfl, t, rfl⟩ := vals1 r
    exact PySem.P.repr_of_int hz ⟨.str _, H, I.tok _, ⟨_, rfl⟩, q⟩
  · obtain ⟨u, rfl, rfl⟩ := vals1 r
    exact PySem.P.repr_of_none ⟨.str _, H, I.tok _, ⟨_, rfl⟩, q⟩
def dataI (ns : List Int) : PyData := .list (ns.map PyData.int)
theorem dp_ints {K : PySem.W.Frag} {H : Hp} : ∀ ns : List Int, DpAll K H (ns.map V.int) (ns.map PyData.int)
  | [] => .nil
  | n :: ns => .cons (.int n) (dp_ints ns)
theorem showable_ints : ∀ {ns : List Int}, (∀ n ∈ ns, n.natAbs.log2 < 1920) → PyData.showableAll (ns.map PyData.int) = true
  | [], _ => rfl
  | n :: ns, h => by
    have a := h n (List.mem_cons_self ..)
    have b := showable_ints (ns := ns) fun m hm => h m (List.mem_cons_of_mem _ hm)
    simp only [List.map_cons, PyData.showableAll, PyData.showable, decide_eq_true a, b, Bool.and_self]
theorem hasDict_ints : ∀ ns : List Int, PyData.hasDictAll (ns.map PyData.int) = false
  | [] => rfl
  | n :: ns => by
    simp only [List.map_cons, PyData.hasDictAll, PyData.hasDict, hasDict_ints ns, Bool.or_self]
theorem depth_ints : ∀ ns : List Int, PyData.depthAll (ns.map PyData.int) ≤ 1
  | [] => by simp [PyData.depthAll]
  | n :: ns => by
    have := depth_ints ns
    simp only [List.map_cons, PyData.depthAll, PyData.depth]
    omega
theorem shown_ints : ∀ {ns : List Int}, (∀ n ∈ ns, n.natAbs.log2 < 1920) → ((PyData.shownAll (ns.map PyData.int)).map (·.length)).sum ≤ 1921 * ns.length ∧ (PyData.shownAll (ns.map PyData.int)).length = ns.length
  | [], _ => by simp [PyData.shownAll]
  | n :: ns, h => by
    have a := PyProof.Rows.int_text_len_1921 (h n (List.mem_cons_self ..))
    obtain ⟨b, c⟩ := shown_ints (ns := ns) fun m hm => h m (List.mem_cons_of_mem _ hm)
    simp only [List.map_cons, PyData.shownAll, PyData.shown, List.sum_cons, List.length_cons]
    omega
/-- repr of a list of ints -/
theorem call_repr_ints (gu : X.A.guards = some []) (room : ∃ k, Room k X.A) : CallR X (.builtin "repr") (fun xs H Q => ∃ a ns, xs = [.ref a] ∧ SqL X.K H a (ns.map V.int) ∧ ns.length ≤ 5000 ∧ (∀ n ∈ ns, n.natAbs.log2 < 1920) ∧ Q (.str (dataI ns).shown) H) := by
  intro pins s σ H xs us Q I r h
  obtain ⟨a, ns, rfl, hS, len, small, q⟩ := h
  refine call_repr_data gu room pins s σ H _ us Q I r ⟨a, dataI ns, rfl, .lst hS (dp_ints ns), ?_, ?_, ?_, ?_, q⟩
  · unfold dataI
    simp only [PyData.showable, showable_ints small]
  · unfold dataI
    simp only [PyData.hasDict, hasDict_ints]
  · have := depth_ints ns
    unfold dataI
    simp only [PyData.depth]
    omega
  · obtain ⟨s1, s2⟩ := shown_ints small
    have := listText_len_le (PyData.shownAll (ns.map PyData.int))
    unfold dataI
    simp only [PyData.shown]
    rw [sizeLine_eq]
    omega
end
end Sm

set_option maxHeartbeats 4000000
namespace Sm
/-! rules: a table that repeats -/
def vl (T : List Int) (p : Nat) (r : Int) (x : Nat) : Int :=
  if x < T.length then T.getD x 0 else T.getD (x - ((x - T.length) / p + 1) * p) 0 + (((x - T.length) / p + 1 : Nat) : Int) * r
structure RuleOk (T : List Int) (p : Nat) (r : Int) : Prop where
  p0 : 0 < p
  p1 : p ≤ T.length
  r0 : 0 ≤ r
  nn : ∀ i, i < T.length → 0 ≤ T.getD i 0
  mono : ∀ i, i + 1 < T.length → T.getD i 0 ≤ T.getD (i + 1) 0
  wrap : T.getD (T.length - 1) 0 ≤ T.getD (T.length - p) 0 + r
theorem place {n p x : Nat} (hp : 0 < p) (hpn : p ≤ n) (h : n ≤ x) : ((x - n) / p + 1) * p ≤ x ∧ n - p ≤ x - ((x - n) / p + 1) * p ∧ x - ((x - n) / p + 1) * p < n := by
  have a := Nat.div_add_mod (x - n) p
  have b := Nat.mod_lt (x - n) hp
  have c : ((x - n) / p + 1) * p = p * ((x - n) / p) + p := by rw [Nat.add_mul, Nat.one_mul, Nat.mul_comm]
  omega
theorem vl_lt {T : List Int} {p : Nat} {r : Int} {x : Nat} (h : x < T.length) : vl T p r x = T.getD x 0 := if_pos h
theorem vl_step {T : List Int} {p : Nat} {r : Int} {x : Nat} (hp : 0 < p) (hpn : p ≤ T.length) (h : T.length ≤ x) : vl T p r x = vl T p r (x - p) + r := by
  by_cases q : x - p < T.length
  · have e : (x - T.length) / p = 0 := Nat.div_eq_of_lt (by omega)
    rw [vl_lt q]
    unfold vl
    rw [if_neg (by omega), e]
    simp
  · have e : (x - T.length) / p = (x - p - T.length) / p + 1 := by
      rw [Nat.div_eq_sub_div hp (by omega), show x - T.length - p = x - p - T.length by omega]
    unfold vl
    rw [if_neg (by omega), if_neg q, e]
    have i : x - ((x - p - T.length) / p + 1 + 1) * p = x - p - ((x - p - T.length) / p + 1) * p := by
      rw [Nat.add_mul ((x - p - T.length) / p + 1) 1 p, Nat.one_mul]
      omega
    rw [i]
    have k : (((x - p - T.length) / p + 1 + 1 : Nat) : Int) * r = (((x - p - T.length) / p + 1 : Nat) : Int) * r + r := by
      rw [Int.natCast_add ((x - p - T.length) / p + 1) 1, Int.add_mul]
      simp
    rw [k, Int.add_assoc]
theorem vl_add {T : List Int} {p : Nat} {r : Int} {x : Nat} (hp : 0 < p) (hpn : p ≤ T.length) (h : T.length - p ≤ x) : vl T p r (x + p) = vl T p r x + r := by
  rw [vl_step hp hpn (by omega), Nat.add_sub_cancel]
theorem vl_addk {T : List Int} {p : Nat} {r : Int} {x : Nat} (hp : 0 < p) (hpn : p ≤ T.length) (h : T.length - p ≤ x) : ∀ k : Nat, vl T p r (x + k * p) = vl T p r x + (k : Int) * r
  | 0 => by simp
  | k + 1 => by
    have ih := vl_addk (r := r) hp hpn h k
    rw [show x + (k + 1) * p = x + k * p + p by rw [Nat.add_mul, Nat.one_mul, Nat.add_assoc], vl_add hp hpn (by omega), ih]
    rw [Int.natCast_add, Int.add_mul]
    simp
    omega
section
variable {T : List Int} {p : Nat} {r : Int}
theorem RuleOk.up (o : RuleOk T p r) : ∀ x, vl T p r x ≤ vl T p r (x + 1) := by
  intro x
  induction x using Nat.strongRecOn with
  | _ x ih =>
    have p0 := o.p0
    have p1 := o.p1
    by_cases a : x + 1 < T.length
    · rw [vl_lt a, vl_lt (by omega)]
      exact o.mono x a
    · by_cases b : x < T.length
      · rw [vl_lt b, vl_step p0 p1 (by omega), vl_lt (by omega)]
        have w := o.wrap
        rw [show x = T.length - 1 by omega]
        rw [show T.length - 1 + 1 - p = T.length - p by omega]
        exact w
      · rw [vl_step p0 p1 (by omega), vl_step (x := x + 1) p0 p1 (by omega)]
        have := ih (x - p) (by omega)
        rw [show x - p + 1 = x + 1 - p by omega] at this
        omega
theorem RuleOk.le (o : RuleOk T p r) {x y : Nat} (h : x ≤ y) : vl T p r x ≤ vl T p r y := by
  obtain ⟨k, rfl⟩ := Nat.le.dest h
  induction k with
  | zero => exact Int.le_refl _
  | succ k ih => exact Int.le_trans (ih (by omega)) (o.up _)
theorem RuleOk.pos (o : RuleOk T p r) (x : Nat) : 0 ≤ vl T p r x := by
  have a := o.le (Nat.zero_le x)
  have p0 := o.p0
  have p1 := o.p1
  rw [vl_lt (x := 0) (by omega)] at a
  have := o.nn 0 (by omega)
  omega
theorem RuleOk.row (o : RuleOk T p r) {i j : Nat} (h : i ≤ j) (hj : j < T.length) : T.getD i 0 ≤ T.getD j 0 := by
  have a := o.le h
  rw [vl_lt hj, vl_lt (by omega)] at a
  exact a
/-- the values of the last period repeat by s, increased by c -/
def Rep (T : List Int) (p : Nat) (r : Int) (s : Nat) (c : Int) : Prop := ∀ i, T.length - p ≤ i → i < T.length → vl T p r (i + s) = T.getD i 0 + c
theorem rep_all {s : Nat} {c : Int} (o : RuleOk T p r) (h : Rep T p r s c) : ∀ y, T.length - p ≤ y → vl T p r (y + s) = vl T p r y + c := by
  intro y
  induction y using Nat.strongRecOn with
  | _ y ih =>
    intro hy
    have p0 := o.p0
    have p1 := o.p1
    by_cases a : y < T.length
    · rw [vl_lt a]
      exact h y hy a
    · have e := ih (y - p) (by omega) (by omega)
      rw [vl_step (x := y) p0 p1 (by omega), vl_step (x := y + s) p0 p1 (by omega), show y + s - p = y - p + s by omega, e]
      omega
theorem rep_self (o : RuleOk T p r) : Rep T p r p r := fun i h1 h2 => by
  rw [vl_add o.p0 o.p1 h1, vl_lt h2]
theorem getD_take {n i : Nat} (h : i < n) : (T.take n).getD i 0 = T.getD i 0 := by
  rw [List.getD_eq_getElem?_getD, List.getD_eq_getElem?_getD, List.getElem?_take_of_lt h]
/-- the table cut: still a rule, with the same values -/
theorem cut_ok {a s : Nat} {c : Int} (o : RuleOk T p r) (hs : 0 < s) (ha : a + s ≤ T.length) (c0 : 0 ≤ c) (h : ∀ y, a ≤ y → vl T p r (y + s) = vl T p r y + c) : RuleOk (T.take (a + s)) s c := by
  have len : (T.take (a + s)).length = a + s := by rw [List.length_take]; omega
  refine ⟨hs, by omega, c0, fun i hi => ?_, fun i hi => ?_, ?_⟩
  · rw [getD_take (by omega)]
    exact o.nn i (by omega)
  · rw [getD_take (by omega), getD_take (by omega)]
    exact o.mono i (by omega)
  · rw [len, getD_take (by omega), getD_take (by omega), show a + s - s = a by omega]
    have e := h a (Nat.le_refl _)
    have u := o.up (a + s - 1)
    rw [show a + s - 1 + 1 = a + s by omega, e, vl_lt (by omega), vl_lt (by omega)] at u
    exact u
theorem cut_vl {a s : Nat} {c : Int} (hs : 0 < s) (ha : a + s ≤ T.length) (h : ∀ y, a ≤ y → vl T p r (y + s) = vl T p r y + c) : ∀ x, vl (T.take (a + s)) s c x = vl T p r x := by
  have len : (T.take (a + s)).length = a + s := by rw [List.length_take]; omega
  intro x
  induction x using Nat.strongRecOn with
  | _ x ih =>
    by_cases q : x < a + s
    · rw [vl_lt (by omega), vl_lt (by omega), getD_take q]
    · rw [vl_step hs (by omega) (by omega), ih (x - s) (by omega), ← h (x - s) (by omega), show x - s + s = x by omega]
/-- the least amount, or none -/
def IsLf (T : List Int) (p : Nat) (r : Int) (y : Int) : Option Nat → Prop
  | none => r = 0 ∧ T.getD (T.length - 1) 0 < y
  | some x => y ≤ vl T p r x ∧ ∀ z, z < x → vl T p r z < y
theorem lf_near {y : Int} {i : Nat} (hi : i < T.length) (h1 : y ≤ T.getD i 0) (h2 : ∀ j, j < i → T.getD j 0 < y) : IsLf T p r y (some i) :=
  ⟨by rw [vl_lt hi]; exact h1, fun z hz => by rw [vl_lt (by omega)]; exact h2 z hz⟩
theorem lf_far {y : Int} {i k : Nat} (o : RuleOk T p r) (k0 : 0 < k) (hk : T.getD (T.length - 1) 0 + ((k : Int) - 1) * r < y) (h0 : T.length - p ≤ i) (hi : i < T.length) (h1 : y - (k : Int) * r ≤ T.getD i 0)
    (h2 : ∀ j, T.length - p ≤ j → j < i → T.getD j 0 < y - (k : Int) * r) : IsLf T p r y (some (i + k * p)) := by
  have p0 := o.p0
  have p1 := o.p1
  refine ⟨?_, fun z hz => ?_⟩
  · rw [vl_addk p0 p1 h0, vl_lt hi]
    omega
  · have kp : p ≤ k * p := Nat.le_mul_of_pos_left p k0
    refine Int.lt_of_le_of_lt (o.le (show z ≤ i + k * p - 1 by omega)) ?_
    by_cases q : i = T.length - p
    · obtain ⟨k, rfl⟩ : ∃ j, k = j + 1 := ⟨k - 1, by omega⟩
      have e : i + (k + 1) * p - 1 = T.length - 1 + k * p := by
        rw [Nat.add_mul, Nat.one_mul] at kp ⊢
        omega
      rw [e, vl_addk p0 p1 (by omega), vl_lt (by omega)]
      have c : ((k + 1 : Nat) : Int) - 1 = (k : Int) := by omega
      rw [c] at hk
      exact hk
    · rw [show i + k * p - 1 = i - 1 + k * p by omega, vl_addk p0 p1 (by omega), vl_lt (by omega)]
      have := h2 (i - 1) (by omega) (by omega)
      omega
theorem lf_one {y : Int} {a b : Option Nat} (o : RuleOk T p r) (ha : IsLf T p r y a) (hb : IsLf T p r y b) : a = b := by
  have no : ∀ {x : Nat}, IsLf T p r y none → IsLf T p r y (some x) → False := by
    rintro x ⟨h1, h2⟩ ⟨h3, _⟩
    have p0 := o.p0
    have p1 := o.p1
    have all : ∀ x, vl T p r x ≤ T.getD (T.length - 1) 0 := by
      intro x
      induction x using Nat.strongRecOn with
      | _ x ih =>
        by_cases q : x < T.length
        · rw [vl_lt q]
          exact o.row (by omega) (by omega)
        · rw [vl_step p0 p1 (by omega)]
          have := ih (x - p) (by omega)
          omega
    have := all x
    omega
  match a, b, ha, hb with
  | none, none, _, _ => rfl
  | none, some x, ha, hb => exact (no ha hb).elim
  | some x, none, ha, hb => exact (no hb ha).elim
  | some x, some z, ⟨h1, h2⟩, ⟨h3, h4⟩ =>
    rcases Nat.lt_trichotomy x z with q | q | q
    · have := h4 x q
      omega
    · rw [q]
    · have := h2 z q
      omega
end
theorem div_cast {x n p : Nat} (h : n ≤ x) : ((x : Int) - (n : Int)) / (p : Int) + 1 = (((x - n) / p + 1 : Nat) : Int) := by
  rw [← Int.natCast_sub h]
  rfl
theorem ceil_lo {a r : Int} (hr : 0 < r) : a ≤ (a + r - 1) / r * r ∧ ((a + r - 1) / r - 1) * r < a := by
  have h1 := Int.mul_ediv_add_emod (a + r - 1) r
  have h2 := Int.emod_nonneg (a + r - 1) (show r ≠ 0 by omega)
  have h3 := Int.emod_lt_of_pos (a + r - 1) hr
  have e : (a + r - 1) / r * r = r * ((a + r - 1) / r) := Int.mul_comm _ _
  have e2 : ((a + r - 1) / r - 1) * r = r * ((a + r - 1) / r) - r := by rw [Int.sub_mul, Int.mul_comm]; omega
  omega
end Sm

set_option maxHeartbeats 4000000
namespace Sm
structure RuleW (T : List Int) (p : Nat) (r : Int) : Prop where
  p0 : 0 < p
  p1 : p ≤ T.length
  r0 : 0 ≤ r
theorem RuleOk.w {T : List Int} {p : Nat} {r : Int} (o : RuleOk T p r) : RuleW T p r := ⟨o.p0, o.p1, o.r0⟩
section
variable {T : List Int} {p : Nat} {r : Int}
theorem rep_allW {s : Nat} {c : Int} (o : RuleW T p r) (h : Rep T p r s c) : ∀ y, T.length - p ≤ y → vl T p r (y + s) = vl T p r y + c := by
  intro y
  induction y using Nat.strongRecOn with
  | _ y ih =>
    intro hy
    have p0 := o.p0
    have p1 := o.p1
    by_cases a : y < T.length
    · rw [vl_lt a]
      exact h y hy a
    · have e := ih (y - p) (by omega) (by omega)
      rw [vl_step (x := y) p0 p1 (by omega), vl_step (x := y + s) p0 p1 (by omega), show y + s - p = y - p + s by omega, e]
      omega
theorem rep_selfW (o : RuleW T p r) : Rep T p r p r := fun i h1 h2 => by
  rw [vl_add o.p0 o.p1 h1, vl_lt h2]
/-- a weak rule that does not fall within its table and behind it is a rule -/
theorem W_ok (o : RuleW T p r) (nn : ∀ i, i < T.length → 0 ≤ T.getD i 0) (h : ∀ x, x < T.length → T.getD x 0 ≤ vl T p r (x + 1)) : RuleOk T p r := by
  have p0 := o.p0
  have p1 := o.p1
  refine ⟨p0, p1, o.r0, nn, fun i hi => ?_, ?_⟩
  · have := h i (by omega)
    rw [vl_lt hi] at this
    exact this
  · have := h (T.length - 1) (by omega)
    rw [vl_step p0 p1 (by omega), show T.length - 1 + 1 - p = T.length - p by omega, vl_lt (by omega)] at this
    exact this
end
section
variable {T1 T2 : List Int} {p1 p2 : Nat} {r1 r2 : Int}
def gp (T1 : List Int) (p1 : Nat) (r1 : Int) (T2 : List Int) (p2 : Nat) (r2 : Int) (x : Nat) : Int := vl T1 p1 r1 x - vl T2 p2 r2 x
/-- the first amount at which the one is above, or none -/
def IsFst (T1 : List Int) (p1 : Nat) (r1 : Int) (T2 : List Int) (p2 : Nat) (r2 : Int) : Option Nat → Prop
  | none => ∀ x, gp T1 p1 r1 T2 p2 r2 x ≤ 0
  | some x => 0 < gp T1 p1 r1 T2 p2 r2 x ∧ ∀ z, z < x → gp T1 p1 r1 T2 p2 r2 z ≤ 0
theorem fst_one {a b : Option Nat} (ha : IsFst T1 p1 r1 T2 p2 r2 a) (hb : IsFst T1 p1 r1 T2 p2 r2 b) : a = b := by
  match a, b, ha, hb with
  | none, none, _, _ => rfl
  | none, some x, ha, hb =>
    have := ha x
    have := hb.1
    omega
  | some x, none, ha, hb =>
    have := hb x
    have := ha.1
    omega
  | some x, some z, ⟨h1, h2⟩, ⟨h3, h4⟩ =>
    rcases Nat.lt_trichotomy x z with q | q | q
    · have := h4 x q
      omega
    · rw [q]
    · have := h2 z q
      omega
/-- by a common turn t = a p1 = b p2 the gap grows by g, from a start of both on -/
theorem gp_turn {B a b : Nat} (w1 : RuleW T1 p1 r1) (w2 : RuleW T2 p2 r2) (hB1 : T1.length - p1 ≤ B) (hB2 : T2.length - p2 ≤ B) (e : a * p1 = b * p2) {x : Nat} (hx : B ≤ x) :
    gp T1 p1 r1 T2 p2 r2 (x + a * p1) = gp T1 p1 r1 T2 p2 r2 x + ((a : Int) * r1 - (b : Int) * r2) := by
  unfold gp
  rw [vl_addk w1.p0 w1.p1 (by omega) a, e, vl_addk w2.p0 w2.p1 (by omega) b]
  omega
theorem gp_turns {B t : Nat} {g : Int} (h : ∀ x, B ≤ x → gp T1 p1 r1 T2 p2 r2 (x + t) = gp T1 p1 r1 T2 p2 r2 x + g) {x : Nat} (hx : B ≤ x) : ∀ k : Nat, gp T1 p1 r1 T2 p2 r2 (x + k * t) = gp T1 p1 r1 T2 p2 r2 x + (k : Int) * g
  | 0 => by simp
  | k + 1 => by
    have ih := gp_turns h hx k
    rw [show x + (k + 1) * t = x + k * t + t by rw [Nat.add_mul, Nat.one_mul, Nat.add_assoc], h _ (by omega), ih, Int.natCast_add, Int.add_mul]
    simp
    omega
theorem split_turn {B t z : Nat} (t0 : 0 < t) (hz : B ≤ z) : ∃ x k, B ≤ x ∧ x < B + t ∧ z = x + k * t := by
  have a := Nat.div_add_mod (z - B) t
  have b := Nat.mod_lt (z - B) t0
  refine ⟨B + (z - B) % t, (z - B) / t, by omega, by omega, ?_⟩
  rw [Nat.mul_comm]
  omega
theorem none_of {B t : Nat} {g : Int} (t0 : 0 < t) (h : ∀ x, B ≤ x → gp T1 p1 r1 T2 p2 r2 (x + t) = gp T1 p1 r1 T2 p2 r2 x + g) (hg : g ≤ 0) (early : ∀ x, x < B + t → gp T1 p1 r1 T2 p2 r2 x ≤ 0) : IsFst T1 p1 r1 T2 p2 r2 none := by
  intro z
  by_cases q : z < B
  · exact early z (by omega)
  · obtain ⟨x, k, h1, h2, rfl⟩ := split_turn t0 (show B ≤ z by omega)
    rw [gp_turns h h1 k]
    have := early x h2
    have : (k : Int) * g ≤ 0 := Int.mul_nonpos_of_nonneg_of_nonpos (by omega) hg
    omega
/-- the least of the first amounts of all rests -/
theorem some_of {B t m : Nat} {g : Int} (t0 : 0 < t) (h : ∀ x, B ≤ x → gp T1 p1 r1 T2 p2 r2 (x + t) = gp T1 p1 r1 T2 p2 r2 x + g) (hg : 0 < g) (early : ∀ x, x < B + t → gp T1 p1 r1 T2 p2 r2 x ≤ 0)
    (hm : ∃ x, B ≤ x ∧ x < B + t ∧ (m : Int) = (x : Int) + (t : Int) * ((-gp T1 p1 r1 T2 p2 r2 x) / g + 1)) (least : ∀ x, B ≤ x → x < B + t → (m : Int) ≤ (x : Int) + (t : Int) * ((-gp T1 p1 r1 T2 p2 r2 x) / g + 1)) : IsFst T1 p1 r1 T2 p2 r2 (some m) := by
  constructor
  · obtain ⟨x, h1, h2, e⟩ := hm
    have ex := early x h2
    have q0 : 0 ≤ (-gp T1 p1 r1 T2 p2 r2 x) / g := Int.ediv_nonneg (by omega) (by omega)
    obtain ⟨k, hk⟩ : ∃ k : Nat, (-gp T1 p1 r1 T2 p2 r2 x) / g = (k : Int) := ⟨_, (Int.toNat_of_nonneg q0).symm⟩
    have e2 : m = x + (k + 1) * t := by
      rw [hk] at e
      have : ((x + (k + 1) * t : Nat) : Int) = (x : Int) + (t : Int) * ((k : Int) + 1) := by
        rw [Int.natCast_add, Int.natCast_mul, Int.mul_comm]
        rfl
      omega
    rw [e2, gp_turns h h1]
    have d1 := Int.mul_ediv_add_emod (-gp T1 p1 r1 T2 p2 r2 x) g
    have d2 := Int.emod_lt_of_pos (-gp T1 p1 r1 T2 p2 r2 x) hg
    rw [hk] at d1
    have e3 : ((k + 1 : Nat) : Int) * g = g * (k : Int) + g := by rw [Int.natCast_add, Int.add_mul, Int.mul_comm]; simp
    omega
  · intro z hz
    by_cases q : z < B
    · exact early z (by omega)
    · obtain ⟨x, k, h1, h2, rfl⟩ := split_turn t0 (show B ≤ z by omega)
      rcases Int.lt_or_le 0 (gp T1 p1 r1 T2 p2 r2 (x + k * t)) with w | w
      · exfalso
        have l := least x h1 h2
        rw [gp_turns h h1 k] at w
        have d1 := Int.mul_ediv_add_emod (-gp T1 p1 r1 T2 p2 r2 x) g
        have d2 := Int.emod_nonneg (-gp T1 p1 r1 T2 p2 r2 x) (show g ≠ 0 by omega)
        have lt : (-gp T1 p1 r1 T2 p2 r2 x) / g < (k : Int) := by
          rcases Int.lt_or_le ((-gp T1 p1 r1 T2 p2 r2 x) / g) (k : Int) with c | c
          · exact c
          · have := Int.mul_le_mul_of_nonneg_left c (show 0 ≤ g by omega)
            rw [Int.mul_comm g (k : Int)] at this
            omega
        have le := Int.mul_le_mul_of_nonneg_left (show (-gp T1 p1 r1 T2 p2 r2 x) / g + 1 ≤ (k : Int) by omega) (show 0 ≤ (t : Int) by omega)
        have c1 : ((k * t : Nat) : Int) = (t : Int) * (k : Int) := by rw [Int.natCast_mul, Int.mul_comm]
        omega
      · exact w
end
end Sm

set_option Elab.async false
set_option linter.all false
set_option maxRecDepth 100000
set_option maxHeartbeats 4000000
namespace Sm
open PySem PySem.Spec PyProof.Rows L2
/-! ### ranges of great ints; the sum of a tuple -/
theorem turn_long {P : Program} {w : World} {K : PySem.W.Frag} {tg : Expr} (it : Addr) (lo : Int) (n : Nat) : Turn P w K tg (Itr lo n) [it] it (fun i h => IsLongIter h it (lo + (i : Nat) * 1) ((n : Int) - (i : Nat)) 1) where
  mem := List.mem_singleton.mpr rfl
  obj := by
    intro i h st b hb
    rw [List.mem_singleton.mp hb]
    exact ⟨_, st, fun v z => nomatch z⟩
  keep := fun i h h' st k => k it (List.mem_singleton.mpr rfl) _ st
  item := by
    rintro X rfl rfl rfl hc i pins s σ H E I hf st hg
    obtain ⟨g0, g1, g2, g3, g4, g5⟩ := hf it (List.mem_singleton.mpr rfl)
    refine (Walks.longrange (prog := X.prog) (w := X.w) (I.ok.hd hc) it lo 1 n).item i s _ _ hg st ?_
    rintro v h' tk ⟨t, rfl⟩ st' same
    have J : Inv X pins σ H { s with heap := h', toks := tk } := I.turned (fun b o hb e => same b o (by simpa using hb) e) g0 g1 g3 g4 g5
    refine ⟨_, rfl, go_of (s := { s with heap := h', toks := tk }) (n := "longrange_iterator") st' rfl rfl (by decide) ⟨.int (lo + i), H, J, ⟨t, ?_⟩, ⟨rfl, rfl⟩, st', fun b hb => (hf b hb).1⟩⟩
    rw [Int.mul_one]
  done := by
    rintro X rfl rfl rfl hc i pins s σ H E I hf st hg
    obtain ⟨g0, g1, g2, g3, g4, g5⟩ := hf it (List.mem_singleton.mpr rfl)
    refine wpAny_pyNext_long_end (I.ok.hd hc) st (by have : n ≤ i := hg; omega) ?_
    intro h' eb
    exact ⟨rfl, I.turned (t' := s.toks) (fun b o hb e => eb b o hb e) g0 g1 g3 g4 g5⟩
  self := fun _ _ _ _ _ st h => wpAny_pyIter_longiter st h
section
variable {X : Cx} {tg : Expr}
def iRngW (ta : TA) : TI := fun σ H R => ta σ H fun vs H1 => ∃ i j : Int, vs = [.int i, .int j] ∧ R (Itr i (j - i).toNat) H1
theorem range_any {pins : List (Addr × Obj)} {σ : L2.St} {H : Hp} {s : Shared} {R : It → Hp → Prop} {E : Value → Shared → Prop} {lo hi : Int} {t u v : Tok} {tk : Nat} (I : Inv X pins σ H s)
    (q : R (Itr lo (hi - lo).toNat) H) : wpAny (model X.prog X.w) X.A (pyIter (.ref s.heap.objs.size)) (PIE X pins σ tg R) E { s with heap := s.heap.push { cls := .type "range", data := .fields #[.int lo t, .int hi u, .int 1 v] }, toks := tk } := by
  have J : Inv X pins σ H { s with heap := s.heap.push { cls := .type "range", data := .fields #[.int lo t, .int hi u, .int 1 v] }, toks := tk } := I.kept fun b o e => Heap.get?_push_of_some _ e
  have size : (((hi - lo).toNat : Nat) : Int) - ((0 : Nat) : Int) = Builtin.Range.rangeSize lo hi 1 := by
    rw [rangeSize_one]
    split <;> omega
  have first : lo + ((0 : Nat) : Int) * 1 = lo := by omega
  have fresh : ∀ b ∈ [(s.heap.push { cls := .type "range", data := .fields #[.int lo t, .int hi u, .int 1 v] }).objs.size], FpOk X pins H b := by
    intro b hb
    rw [List.mem_singleton.mp hb]
    exact J.fpOk (Nat.le_refl _) (J.hok.fresh (Nat.le_refl _))
  cases sm : Builtin.Range.small lo hi 1 with
  | true =>
    refine wpAny_pyIter_range (IsRange.new ..) sm ⟨_, [_], _, _, H, rfl, J.kept (t' := tk) fun b o e => Heap.get?_push_of_some _ e, turn_range _ lo (hi - lo).toNat, ?_, fresh, q⟩
    show IsRangeIter _ _ (lo + ((0 : Nat) : Int) * 1) ((((hi - lo).toNat : Nat) : Int) - ((0 : Nat) : Int)) 1
    rw [first, size]
    exact Heap.get?_push_size _ rfl
  | false =>
    refine wpAny_pyIter_longrange (IsRange.new ..) sm ⟨_, [_], _, _, H, rfl, J.kept (t' := tk) fun b o e => Heap.get?_push_of_some _ e, turn_long _ lo (hi - lo).toNat, ?_, fresh, q⟩
    show IsLongIter _ _ (lo + ((0 : Nat) : Int) * 1) ((((hi - lo).toNat : Nat) : Int) - ((0 : Nat) : Int)) 1
    rw [first, size]
    exact Heap.get?_push_size _ rfl
theorem pi_range2W {a b : Expr} {ta : TA} {p pos : Pos} (hg : Gl X "range") (hm : X.mg "range" = none) (ha : PA X [a, b] ta) (hs : starEach [a, b] X.env = [(false, eval a X.env), (false, eval b X.env)] := by rfl) (hs2 : starEach [b] X.env = [(false, eval b X.env)] := by rfl) :
    PI X tg (.Call (.Name "range" p) [a, b] [] pos) (iRngW ta) := by
  constructor
  intro pins s σ H R I want
  refine Call_ (ld_blt I hg hm boot_range (PyProof.Rows.callWith_type1 (thn (ha.run pos pins s σ H _ I want) ?_) (by rw [hs, hs2]) (by rw [hs2]; rfl)))
  rintro us s1 ⟨vs, H1, I1, rel, i, j, rfl, q⟩
  obtain ⟨u1, u2, rfl, ⟨t, rfl⟩, ⟨t', rfl⟩⟩ := vals2 rel
  exact call_range_2 (range_any I1 q)
theorem preSum_list (ns : List Int) : ∀ n, n ≤ ns.length → preSum (fun i => ns.getD i 0) n = (ns.take n).sum
  | 0, _ => by simp [preSum]
  | n + 1, h => by
    have ih := preSum_list ns n (by omega)
    rw [take_sum_succ ns n (by omega), ← ih]
    rfl
theorem cr_sumT (hc : X.calm = true) : CallR X (.builtin "sum") (fun vs H Q => ∃ (a : Addr) (ns : List Int), vs = [.ref a] ∧ SqT X.K H a (ns.map V.int) ∧ Q (.int ns.sum) H) := by
  intro pins s σ H vs us Q I rel want
  obtain ⟨a, ns, rfl, hs, q⟩ := want
  obtain ⟨its, rv, tup, _⟩ := I.tuple hs
  rw [Vals.ref1 rel]
  have tup : s.heap.IsTuple a its.toArray := tup
  have len : ns.length = its.length := by rw [← rv.length, List.length_map]
  have ne : a ≠ s.heap.objs.size := Nat.ne_of_lt (Heap.lt_size tup.choose_spec.1)
  refine call_sum_walkG (wpAny_pyIter_tuple tup ?_)
  refine ⟨s.heap.objs.size, _, _, _, _, _, fun i => ns.getD i 0, rfl, Walks.tuple (A := X.A.in1) (I.ok.hd hc) _ a ne its.toArray, ⟨?_, ?_⟩, ?_, ?_, ?_⟩
  · exact ⟨_, Heap.get?_push_size _ rfl, rfl, rfl⟩
  · exact tup.at fun o e => Heap.get?_push_of_some _ e
  · intro b hb
    show b < (s.heap.push _).objs.size
    rw [Heap.size_push]
    rcases List.mem_cons.mp hb with rfl | hb
    · exact Nat.lt_succ_self _
    · rw [List.mem_singleton.mp hb]
      exact Nat.lt_succ_of_lt (Heap.lt_size tup.choose_spec.1)
  · intro i v hv
    have hv : its[i]? = some v := by simpa using hv
    have hi : i < its.length := (List.getElem?_eq_some_iff.mp hv).1
    have g : (ns.map V.int)[i]? = some (.int (ns.getD i 0)) := by
      rw [List.getElem?_map, List.getElem?_eq_getElem (by omega), List.getD_eq_getElem?_getD, List.getElem?_eq_getElem (by omega)]
      rfl
    obtain ⟨u, hu, ru⟩ := rv.get g
    rw [hv] at hu
    injection hu with hu
    subst hu
    exact ru
  · intro h' tk t' keep
    have e : preSum (fun i => ns.getD i 0) its.toArray.size = ns.sum := by
      rw [List.size_toArray, ← len, preSum_list ns _ (Nat.le_refl _), List.take_length]
    rw [e]
    refine ⟨.int _, H, ?_, ⟨_, rfl⟩, q⟩
    refine I.kept fun b o z => keep b o (fun hb => ?_) (Heap.get?_push_of_some _ z)
    have := Heap.lt_size z
    rw [List.mem_singleton.mp hb] at this
    exact absurd this (Nat.lt_irrefl _)
end
end Sm

set_option Elab.async false
set_option linter.all false
set_option maxRecDepth 100000
set_option maxHeartbeats 4000000
namespace Sm
open PySem PySem.Spec PyProof.Rows L2
/-! ### a tuple taken once, or no times -/
theorem tuple_once (l : Addr) (items : Array Value) (n : Nat) (dd : Option Addr) (sl : Array (Option Value)) (u : Tok) :
    Meets (Builtin.«tuple.__mul__» ⟨[.ref l, .int 1 u], []⟩) (fun _ R s => s.heap.get? l = some { cls := .type "tuple", dict := dd, data := .seq items n, slots := sl } ∧ R (.ok (.ret (Value.ref l))) s) :=
  .of_wp fun prog w A R s h => by
    obtain ⟨hp, g, d, tk, os⟩ := s
    obtain ⟨hl, h⟩ := h
    have f1 := AutoSeq1.idx_int
    have c0 : (decide ((1 : Int) < -(2 ^ 63)) || decide ((1 : Int) ≥ 2 ^ 63)) = false := by decide
    wp_walk using wpAny_loadPart' hl
    exact ⟨_, rfl, h⟩
theorem tuple_zero (l : Addr) (items : Array Value) (n : Nat) (dd : Option Addr) (sl : Array (Option Value)) (u : Tok) (hi : items.isEmpty = false) :
    Meets (Builtin.«tuple.__mul__» ⟨[.ref l, .int 0 u], []⟩) (fun _ R s => s.heap.get? l = some { cls := .type "tuple", dict := dd, data := .seq items n, slots := sl } ∧ R (.ok (.ret (Value.ref s.heap.objs.size))) { s with heap := s.heap.push { cls := Value.type "tuple", data := Data.seq #[] } }) :=
  .of_wp fun prog w A R s h => by
    obtain ⟨hp, g, d, tk, os⟩ := s
    obtain ⟨hl, h⟩ := h
    have f1 := AutoSeq1.idx_int
    wp_walk using wpAny_loadPart' hl
    exact ⟨_, rfl, h⟩
section
variable {X : Cx}
/-- tuple * int, the int from 0 on -/
theorem op_rep0 : OpR X (binaryOp .Mult) (fun x y H Q => ∃ (l : Addr) (k : Int) (xs : List V), x = .ref l ∧ y = .int k ∧ H l = some (.tup xs) ∧ xs ≠ [] ∧ 0 ≤ k ∧ k ≤ 1000 ∧ xs.length ≤ 1000 ∧
    ∀ H' q, Same H H' → H' q = some (.tup (List.replicate k.toNat xs).flatten) → Q (.ref q) H') := by
  intro pins s σ H x y v u Q I rx ry want
  obtain ⟨l, k, xs, rfl, rfl, hT, hne, h0, h1, hz, q⟩ := want
  by_cases big : 2 ≤ k
  · exact op_repT pins s σ H _ _ v u Q I rx ry ⟨l, k, xs, rfl, rfl, SqT.of hT, hne, big, h1, hz, fun p np => q _ p (fun b o e => by rw [upd_ne (ne_of_none e np)]; exact e) upd_same⟩
  cases rx
  obtain ⟨t, rfl⟩ := ry
  obtain ⟨its, r, ⟨⟨cls, dd, data, sl⟩, ho, hc, n, hd⟩, hs⟩ := I.tuple (SqT.of hT)
  simp only at hc hd
  subst hc hd
  have hi : its.toArray.isEmpty = false := by
    cases its with
    | nil =>
      have := r.length
      exact absurd (List.eq_nil_of_length_eq_zero this) hne
    | cons a b => rfl
  by_cases one : k = 1
  · subst one
    refine wpAny_binaryOp_repeat_ref (T := "tuple") (U := "int") (by decide) ⟨_, ho, rfl⟩ (fun s' => typeIs_int s' 1 t) noFill_tuple_mul F.fills_int_mul F.slot_int_rmul repeat_tuple F.slot_int_index.lookup
      (call_meets F.slot_int_rmul (typeIs_int s 1 t) F.entry_int_rmul (F.args_int_rmul_2 _ _) (int_rmul_tuple 1 t l its.toArray n dd sl) ⟨ho, rfl, ⟨_, ho, rfl⟩, ?_⟩)
    refine call_meets F.slot_tuple_mul ⟨_, ho, rfl⟩ F.entry_tuple_mul (F.args_tuple_mul_2 _ _) (tuple_once l its.toArray n dd sl t) ⟨ho, ?_⟩
    refine ⟨.ref l, H, I, rfl, q H l (Same.refl H) ?_⟩
    rw [hT]
    simp
  · have zero : k = 0 := by omega
    subst zero
    refine wpAny_binaryOp_repeat_ref (T := "tuple") (U := "int") (by decide) ⟨_, ho, rfl⟩ (fun s' => typeIs_int s' 0 t) noFill_tuple_mul F.fills_int_mul F.slot_int_rmul repeat_tuple F.slot_int_index.lookup
      (call_meets F.slot_int_rmul (typeIs_int s 0 t) F.entry_int_rmul (F.args_int_rmul_2 _ _) (int_rmul_tuple 0 t l its.toArray n dd sl) ⟨ho, rfl, ⟨_, ho, rfl⟩, ?_⟩)
    refine call_meets F.slot_tuple_mul ⟨_, ho, rfl⟩ F.entry_tuple_mul (F.args_tuple_mul_2 _ _) (tuple_zero l its.toArray n dd sl t hi) ⟨ho, ?_⟩
    have fresh := I.hok.fresh (Nat.le_refl s.heap.objs.size)
    refine ⟨.ref s.heap.objs.size, upd H s.heap.objs.size (.tup []), I.laid (t' := s.toks) (fun b ob e => Heap.get?_push_of_some _ e) (Nat.le_refl _) ?_, rfl, q _ _ (fun b o e => by rw [upd_ne (ne_of_none e fresh)]; exact e) upd_same⟩
    exact ⟨Nat.zero_le _, [], .nil, IsTup.new _ _⟩
end
end Sm

set_option Elab.async false
set_option linter.all false
set_option maxRecDepth 100000
set_option maxHeartbeats 4000000
namespace Sm
open PySem PySem.Spec PyProof.Rows L2
theorem getD_map1 {T : List Int} {i : Nat} (h : i < T.length) : (T.map (· + 1)).getD i 0 = T.getD i 0 + 1 := by
  rw [List.getD_eq_getElem?_getD, List.getD_eq_getElem?_getD, List.getElem?_map, List.getElem?_eq_getElem h]
  rfl
theorem plus_ok {T : List Int} {p : Nat} {r : Int} (o : RuleOk T p r) : RuleOk (T.map (· + 1)) p r := by
  have p0 := o.p0
  have p1 := o.p1
  refine ⟨p0, by rw [List.length_map]; exact p1, o.r0, fun i hi => ?_, fun i hi => ?_, ?_⟩
  · rw [List.length_map] at hi
    rw [getD_map1 hi]
    have := o.nn i hi
    omega
  · rw [List.length_map] at hi
    rw [getD_map1 hi, getD_map1 (by omega)]
    have := o.mono i hi
    omega
  · rw [List.length_map, getD_map1 (by omega), getD_map1 (by omega)]
    have := o.wrap
    omega
theorem late_len {T : List Int} {a : Nat} (h : a ≤ T.length) : (T.take a ++ (T.drop a).map (· + 1)).length = T.length := by
  rw [List.length_append, List.length_map, List.length_take, List.length_drop]
  omega
theorem late_get {T : List Int} {a i : Nat} (h : a ≤ T.length) (hi : i < T.length) : (T.take a ++ (T.drop a).map (· + 1)).getD i 0 = T.getD i 0 + (if i < a then 0 else 1) := by
  rw [List.getD_eq_getElem?_getD, List.getElem?_append]
  have lt : (T.take a).length = a := by rw [List.length_take]; omega
  by_cases q : i < a
  · rw [if_pos (by omega), if_pos q, List.getElem?_take_of_lt q, List.getD_eq_getElem?_getD]
    omega
  · rw [if_neg (by omega), if_neg q, lt, List.getElem?_map, List.getElem?_drop, show a + (i - a) = i by omega, List.getD_eq_getElem?_getD, List.getElem?_eq_getElem hi]
    rfl
theorem cut_from {xs : List V} {n : Nat} : cutV xs (some (n : Int)) none = xs.drop n := by
  unfold cutV
  rw [HT.sIx_none, HT.sIx_nat]
  rcases Nat.le_total n xs.length with h | h
  · rw [Nat.min_eq_left h]
    exact List.take_of_length_le (by rw [List.length_drop]; omega)
  · rw [Nat.min_eq_right h, List.drop_length, List.drop_eq_nil_of_le h, List.take_nil]
theorem flat_one {n : Nat} {x : V} : (List.replicate n [x]).flatten = List.replicate n x := List.flatten_replicate_singleton ..
theorem rep_int {n : Nat} {c : Int} : List.replicate n (V.int c) = (List.replicate n c).map V.int := (List.map_replicate ..).symm
theorem getD_rep {n i : Nat} {c : Int} (h : i < n) : (List.replicate n c).getD i 0 = c := by
  rw [List.getD_eq_getElem?_getD, List.getElem?_replicate, if_pos h]
  rfl
theorem zero_ok {n : Nat} {r : Int} (h : 0 < n) (h0 : 0 ≤ r) : RuleOk (List.replicate n 0) n r := by
  refine ⟨h, by rw [List.length_replicate]; exact Nat.le_refl _, h0, fun i hi => ?_, fun i hi => ?_, ?_⟩
  · rw [List.length_replicate] at hi
    rw [getD_rep hi]
    exact Int.le_refl _
  · rw [List.length_replicate] at hi
    rw [getD_rep hi, getD_rep (by omega)]
    exact Int.le_refl _
  · rw [List.length_replicate, getD_rep (by omega), getD_rep (by omega)]
    omega
theorem one_ok {c r : Int} (h : 0 ≤ c) (h0 : 0 ≤ r) : RuleOk [c] 1 r := by
  refine ⟨by decide, Nat.le_refl 1, h0, fun i hi => ?_, fun i hi => ?_, ?_⟩
  · have hi : i < 1 := hi
    rw [show i = 0 by omega]
    exact h
  · have hi : i + 1 < 1 := hi
    omega
  · show c ≤ c + r
    omega
abbrev rareT (q s : Nat) : List Int := List.replicate (s + 1) ((s : Int) - 1) ++ List.replicate (q - s - 1) ((s : Int) + (q : Int) - 1)
theorem rare_get {q s i : Nat} (hs : s + 1 ≤ q) (hi : i < q) : (rareT q s).getD i 0 = if i < s + 1 then (s : Int) - 1 else (s : Int) + (q : Int) - 1 := by
  rw [List.getD_eq_getElem?_getD, List.getElem?_append, List.length_replicate]
  by_cases h : i < s + 1
  · rw [if_pos h, if_pos h, List.getElem?_replicate, if_pos h]
    rfl
  · rw [if_neg h, if_neg h, List.getElem?_replicate, if_pos (by omega)]
    rfl
theorem rare_len {q s : Nat} (hs : s + 1 ≤ q) : (rareT q s).length = q := by
  rw [List.length_append, List.length_replicate, List.length_replicate]
  omega
theorem rare_ok {q s : Nat} (h1 : 1 ≤ s) (hs : s + 1 ≤ q) : RuleOk (rareT q s) q q := by
  have l := rare_len hs
  refine ⟨by omega, by omega, by omega, fun i hi => ?_, fun i hi => ?_, ?_⟩
  · rw [rare_get hs (by omega)]
    split <;> omega
  · rw [rare_get hs (by omega), rare_get hs (by omega)]
    split <;> split <;> omega
  · rw [l, rare_get hs (by omega), rare_get hs (by omega)]
    split <;> split <;> omega
theorem lay_ints : ∀ ns : List Int, PyData.canLayAll0 (ns.map PyData.int) = true
  | [] => rfl
  | n :: ns => by
    simp only [List.map_cons, PyData.canLayAll0, PyData.canLay0, lay_ints ns, Bool.and_self]
theorem shaped_ints (ns : List Int) : SeqAt.shaped (dataI ns) = true := by
  have d := depth_ints ns
  have e : (dataI ns).depth ≤ 64 := by
    unfold dataI
    simp only [PyData.depth]
    omega
  have l : (dataI ns).canLay0 = true := by
    unfold dataI
    simp only [PyData.canLay0, lay_ints]
  unfold SeqAt.shaped
  rw [l, decide_eq_true e]
  rfl
theorem ne_nil_ints {ns : List Int} : (!PyData.eqv (dataI ns) (.list [])) = decide (ns ≠ []) := by
  cases ns with
  | nil => rfl
  | cons n ns => rfl
theorem lc_turn1 {H0 H' : Hp} {U : Addr} {ns : List Int} {j : Nat} {x : V} (hl : ns.length ≤ 9000) (nU : H0 U = none) (hx : (ns.map V.int)[j]? = some x) (sm : Same H0 H') (hU : H' U = some (.lst (((ns.take j).map (· + 1)).map V.int))) :
    ∃ y, x = .int y ∧ (((ns.take j).map (· + 1)).map V.int).length < sizeLine ∧ Same H0 (upd H' U (.lst ((((ns.take j).map (· + 1)).map V.int) ++ [V.int (y + 1)]))) ∧
      upd H' U (.lst ((((ns.take j).map (· + 1)).map V.int) ++ [V.int (y + 1)])) U = some (.lst (((ns.take (j + 1)).map (· + 1)).map V.int)) := by
  rw [List.getElem?_map] at hx
  cases e : ns[j]? with
  | none => rw [e] at hx; cases hx
  | some y =>
    rw [e] at hx
    have hj := (List.getElem?_eq_some_iff.mp e).1
    refine ⟨y, (Option.some.inj hx).symm, ?_, fun b' u e' => ?_, ?_⟩
    · rw [List.length_map, List.length_map, List.length_take]
      exact Nat.lt_of_le_of_lt (show min j ns.length ≤ 9000 by omega) (by decide)
    · rw [upd_ne (ne_of_none e' nU)]
      exact sm _ _ e'
    · rw [upd_same, List.take_add_one, e, List.map_append, List.map_append]
      rfl
theorem small_log30 {i : Nat} (h1 : i ≤ 1000000000000000000000000000000) : (i : Int).natAbs.log2 < 1920 :=
  Nat.lt_of_lt_of_le (PySem.Flt.log2_lt_of (k := 310) (by decide) (by omega)) (by decide)
section
variable {K : PySem.W.Frag} {H : Hp} {Q : VK}
theorem sl_uni {a : Addr} {xs : List V} {lo hi : Option Int} (h : H a = some (.tup xs)) (q : ∀ u H', Same H H' → H' u = some (.tup (cutV xs lo hi)) → Q (.ref u) H') : rSlA K (.ref a) lo hi H Q := by
  refine ⟨a, xs, rfl, SqT.of h, fun w => q a H (Same.refl H) ?_, fun _ u nu => q u _ (same_upd nu) upd_same⟩
  rw [h]
  unfold cutV
  rw [w.1, w.2, List.drop_zero, Nat.sub_zero, List.take_length]
theorem cat_uni {a b : Addr} {xs ys : List V} (ha : H a = some (.tup xs)) (hb : H b = some (.tup ys)) (l : xs.length + ys.length ≤ sizeLine) (q : ∀ u H', Same H H' → H' u = some (.tup (xs ++ ys)) → Q (.ref u) H') : rCatA K (.ref a) (.ref b) H Q := by
  refine ⟨a, b, xs, ys, rfl, rfl, SqT.of ha, SqT.of hb, l, fun e => q b H (Same.refl H) ?_, fun _ e => q a H (Same.refl H) ?_, fun _ _ u nu => q u _ (same_upd nu) upd_same⟩
  · rw [hb, e, List.nil_append]
  · rw [ha, e, List.append_nil]
end
end Sm

set_option Elab.async false
set_option linter.all false
set_option maxRecDepth 100000
set_option maxHeartbeats 8000000
namespace Sm
open PySem PySem.Spec PyProof.Rows L2
open C8 (pss_cut)
def topS (i : Nat) : Stmt := PySem.Challenge.pw_smallchange_k05_first_amounts_above.main.body.getD i (.Pass ⟨0, 0, 0, 0⟩)
structure Txt (mg : Str → Option Value) : Prop where
  n_abs : mg "abs" = none
  n_bool : mg "bool" = none
  n_int : mg "int" = none
  n_isinstance : mg "isinstance" = none
  n_len : mg "len" = none
  n_list : mg "list" = none
  n_max : mg "max" = none
  n_min : mg "min" = none
  n_range : mg "range" = none
  n_repr : mg "repr" = none
  n_tuple : mg "tuple" = none
  g_lcm : mg "lcm" = some (.builtin "math.lcm")
/-! ### rules in the heap -/
def RuleAt (H : Hp) (d : Addr) (T : List Int) (p : Nat) (r : Int) : Prop := ∃ t, H d = some (.tup [.ref t, .int (p : Int), .int r]) ∧ H t = some (.tup (T.map V.int))
theorem RuleAt.same {H H' : Hp} {d : Addr} {T : List Int} {p : Nat} {r : Int} (R : RuleAt H d T p r) (s : Same H H') : RuleAt H' d T p r := by
  obtain ⟨t, h1, h2⟩ := R
  exact ⟨t, s _ _ h1, s _ _ h2⟩
theorem RuleAt.fr {H H' : Hp} {d a l : Addr} {n : Int} {T : List Int} {p : Nat} {r : Int} (R : RuleAt H d T p r) (f : Fr a l H H') (D : Deck H a l n) : RuleAt H' d T p r := by
  obtain ⟨t, h1, h2⟩ := R
  exact ⟨t, f.tup D h1, f.tup D h2⟩
structure RB (T : List Int) (p : Nat) (r : Int) : Prop where
  len : T.length ≤ 300
  r1 : r ≤ 1000000000000000
  top : ∀ i, i < T.length → T.getD i 0 ≤ 1000000000000000
theorem get_int {T : List Int} {i : Nat} (h : i < T.length) : (T.map V.int)[i]? = some (.int (T.getD i 0)) := by
  rw [List.getElem?_map, List.getElem?_eq_getElem h, List.getD_eq_getElem?_getD, List.getElem?_eq_getElem h]
  rfl
theorem atI_neg1 {xs : List V} {v : V} (h0 : 0 < xs.length) (h : xs[xs.length - 1]? = some v) : atI xs (-1) = some v := by
  unfold atI ixN
  rw [if_neg (by decide), if_pos (by omega), show ((-1 : Int) + (xs.length : Int)).toNat = xs.length - 1 by omega]
  exact h
theorem last_int {T : List Int} (h : 0 < T.length) : atI (T.map V.int) (-1) = some (.int (T.getD (T.length - 1) 0)) :=
  atI_neg1 (by rw [List.length_map]; exact h) (by rw [List.length_map]; exact get_int (by omega))
theorem pick4 {a b c d r : Int} (h0 : 0 ≤ r) (h1 : r < 4) : ∃ z, [V.int a, V.int b, V.int c, V.int d][r.toNat]? = some (.int z) ∧ (z = a ∨ z = b ∨ z = c ∨ z = d) := by
  obtain rfl | rfl | rfl | rfl : r = 0 ∨ r = 1 ∨ r = 2 ∨ r = 3 := by omega
  · exact ⟨a, rfl, .inl rfl⟩
  · exact ⟨b, rfl, .inr (.inl rfl)⟩
  · exact ⟨c, rfl, .inr (.inr (.inl rfl))⟩
  · exact ⟨d, rfl, .inr (.inr (.inr rfl))⟩
/-- a table while it grows -/
structure Tb (T : List Int) : Prop where
  ne : 0 < T.length
  nn : ∀ i, i < T.length → 0 ≤ T.getD i 0
  mono : ∀ i, i + 1 < T.length → T.getD i 0 ≤ T.getD (i + 1) 0
  top : ∀ i, i < T.length → T.getD i 0 ≤ 10000000000 * ((i : Int) + 1)
theorem getD_app {T : List Int} {x : Int} {i : Nat} : (T ++ [x]).getD i 0 = if i < T.length then T.getD i 0 else if i = T.length then x else 0 := by
  rw [List.getD_eq_getElem?_getD, List.getD_eq_getElem?_getD, List.getElem?_append]
  by_cases h : i < T.length
  · rw [if_pos h, if_pos h]
  · rw [if_neg h, if_neg h]
    by_cases e : i = T.length
    · rw [if_pos e, e, Nat.sub_self]
      rfl
    · rw [if_neg e, List.getElem?_eq_none (by rw [List.length_singleton]; omega)]
      rfl
theorem Tb.more {T : List Int} (t : Tb T) {c : Int} (c0 : 0 ≤ c) (c1 : c ≤ 1000000000) : Tb (T ++ [T.getD (T.length - 1) 0 + c]) := by
  have n := t.ne
  have l := t.nn (T.length - 1) (by omega)
  have u := t.top (T.length - 1) (by omega)
  refine ⟨by rw [List.length_append]; omega, fun i hi => ?_, fun i hi => ?_, fun i hi => ?_⟩
  · rw [List.length_append, List.length_singleton] at hi
    rw [getD_app]
    split
    · exact t.nn i (by assumption)
    · rw [if_pos (by omega)]
      omega
  · rw [List.length_append, List.length_singleton] at hi
    rw [getD_app, getD_app, if_pos (by omega)]
    split
    · exact t.mono i (by assumption)
    · rw [if_pos (by omega), show i = T.length - 1 by omega]
      omega
  · rw [List.length_append, List.length_singleton] at hi
    rw [getD_app]
    split
    · exact t.top i (by assumption)
    · rw [if_pos (by omega), show i = T.length by omega]
      omega
theorem Tb.rb {T : List Int} (t : Tb T) (h : T.length ≤ 300) {p : Nat} {r : Int} (h1 : r ≤ 1000000000000000) : RB T p r :=
  ⟨h, h1, fun i hi => by have := t.top i hi; omega⟩
theorem Tb.level {T : List Int} (t : Tb T) : RuleOk T 1 0 := ⟨by decide, t.ne, by decide, t.nn, t.mono, by omega⟩
theorem Tb.rising {T : List Int} (t : Tb T) {p : Nat} {c : Int} (p0 : 0 < p) (p1 : p ≤ T.length) (c0 : 0 ≤ c) : RuleOk T p (T.getD (T.length - 1) 0 - T.getD (T.length - p) 0 + c) := by
  have up : T.getD (T.length - p) 0 ≤ T.getD (T.length - 1) 0 := by
    have z : RuleOk T 1 0 := t.level
    exact z.row (by omega) (by omega)
  exact ⟨p0, p1, by omega, t.nn, t.mono, by omega⟩
def sp_val (_ : PySem.W.Frag) : Sp := fun vs H Q _ => ∃ (d : Addr) (T : List Int) (p : Nat) (r : Int) (x : Nat), vs = [.ref d, .int (x : Int)] ∧ RuleAt H d T p r ∧ RuleW T p r ∧ RB T p r ∧ Q (.int (vl T p r x)) H
abbrev sp_l_value := sp_val
def sp_l_repeats (_ : PySem.W.Frag) : Sp := fun vs H Q _ => ∃ (d : Addr) (T : List Int) (p : Nat) (r : Int) (s : Nat) (c : Int), vs = [.ref d, .int (s : Int), .int c] ∧ RuleAt H d T p r ∧ RuleW T p r ∧ RB T p r ∧
  ∀ b, (b = true → Rep T p r s c) → Q (.bl b) H
def sp_l_least (_ : PySem.W.Frag) : Sp := fun vs H Q _ => ∃ (d : Addr) (T : List Int) (p : Nat) (r : Int), vs = [.ref d] ∧ RuleAt H d T p r ∧ RuleW T p r ∧ RB T p r ∧
  ∀ H' d' T' p' r', Same H H' → RuleAt H' d' T' p' r' → RuleW T' p' r' → RB T' p' r' → r' ≤ r → p' ≤ p → (∃ n, T' = T.take n) → (RuleOk T p r → RuleOk T' p' r') → (∀ x, vl T' p' r' x = vl T p r x) → Q (.ref d') H'
def sp_l_rule (_ : PySem.W.Frag) : Sp := fun vs H Q _ => ∃ (p l : Addr) (n long wide tall : Int), vs = [.ref p, .int long, .int wide, .int tall] ∧ Deck H p l n ∧ 0 ≤ n ∧ n ≤ 900000 ∧ 0 ≤ long ∧ long ≤ 200 ∧ 1 ≤ wide ∧ wide ≤ 40 ∧ 0 ≤ tall ∧ tall ≤ 1000000000 ∧
  ∀ H' d T pp r n', Fr p l H H' → Deck H' p l n' → n ≤ n' → n' ≤ n + 1000 → RuleAt H' d T pp r → RuleOk T pp r → RB T pp r → pp ≤ 40 → T.length ≤ 240 → r ≤ 10000000000000 → (∀ i, i < T.length → T.getD i 0 ≤ 10000000000000) → Q (.ref d) H'
section
variable {P : Program} {w : World} {K : PySem.W.Frag} {mg : Str → Option Value} {base : Heap}
abbrev s_l_deck : Stmt := topS 8
abbrev N_l_deck : List Str := ["_law_script", "_law_cell"]
theorem sc_l_deck : FnScope N_l_deck ["_law_script"] (defScope s_l_deck) := ⟨rfl, rfl, rfl, by decide +kernel, rfl, by decide +kernel, by decide +kernel⟩
theorem ok_l_deck (T : Txt mg) (D : Df K mg "_law_deck" s_l_deck ["_law_script"]) : Cal P w K mg base "_law_deck" ["_law_script"] 1 (sp_l_deck K) := by
  refine D.cal sc_l_deck (fun vs H Q E h => ?_) (fun f cdv A outer s H vs Q E hr h => ?_)
  · obtain ⟨a, ns, rfl, _⟩ := h
    rfl
  obtain ⟨a, ns, rfl, hS, hlen, k⟩ := h
  refine ⟨_, (pss_one (ps_ret (pe_lst (pa_cons (pe_lc (own := [("_law_cell", 1)]) (g := gName 1) (tt := tYes) rfl sc_l_deck.nd (pi_list (pe_slice sl_list (pv 0) po_none (po_some pe_int))) (blkOk_by (own := [("_law_cell", 1)]) (N := N_l_deck) (sc := defScope s_l_deck) (by decide +kernel)) (fun _ _ _ _ _ => pg_name (i := 1) sc_l_deck.nd rfl (Or.inl rfl)) (fun _ _ _ _ _ => pts_nil) (fun _ _ _ _ _ => (pe_callB call_abs (by rfl) T.n_abs (by decide +kernel) (pa_cons (pv 1) pa_nil)))) (pa_cons pe_int pa_nil))))), ?_⟩
  refine ⟨_, rfl, _, rfl, a, _, rfl, hS, fun c nc => ?_⟩
  rw [cut63 hlen]
  have s1 := same_upd (o := .lst (ns.map V.int)) nc
  refine ⟨c, rfl, ⟨_, SqL.of upd_same⟩, fun D nD => ?_⟩
  have s2 := s1.trans (same_upd (o := .lst []) nD)
  have hc2 : upd (upd H c (.lst (ns.map V.int))) D (.lst []) c = some (.lst (ns.map V.int)) := same_upd nD _ _ upd_same
  refine lc_list (K := K) (a := c) (xs := ns.map V.int) (fun i H' => Same H H' ∧ H' c = some (.lst (ns.map V.int)) ∧ c ≠ D ∧ H D = none ∧ H' D = some (.lst (((ns.take i).map absI).map V.int)))
    ⟨s2, hc2, ne_of_none upd_same nD, s1.free nD, upd_same⟩ (fun i H' _ h => SqL.of h.2.1) ?_ ?_
  · rintro i x H' hx ⟨sm, hc, ncD, nD0, hD⟩
    rw [List.getElem?_map] at hx
    cases e : ns[i]? with
    | none => rw [e] at hx; cases hx
    | some y =>
      rw [e] at hx
      have ex : x = .int y := (Option.some.inj hx).symm
      subst ex
      refine ⟨rfl, ?_⟩
      unfold tYes
      refine iteT ?_
      refine ⟨_, rfl, _, rfl, _, hD, ?_, ?_⟩
      · rw [List.length_map, List.length_map, List.length_take]
        exact Nat.lt_of_le_of_lt (Nat.min_le_right _ _) (small1000 (by omega))
      · refine ⟨fun b o e => ?_, ?_, ncD, nD0, ?_⟩
        · rw [upd_ne (ne_of_none e nD0)]
          exact sm _ _ e
        · rw [upd_ne ncD]
          exact hc
        · rw [upd_same, List.take_add_one, e, List.map_append, List.map_append]
          rfl
  · rintro H' ⟨sm, hc, ncD, nD0, hD⟩
    refine ⟨(by show 2 ≤ sizeLine; decide), fun p np => ?_⟩
    have s3 := sm.trans (same_upd (o := .lst [.ref D, .int 0]) np)
    refine k _ p D s3 ⟨upd_same, _, (same_upd np) _ _ hD, fun c hc => ?_, ?_⟩
    · obtain ⟨y, _, rfl⟩ := List.mem_map.mp hc
      exact absI_pos y
    · rw [List.length_map, List.length_take]
      omega
abbrev s_l_draw : Stmt := topS 9
abbrev N_l_draw : List Str := ["_law_deck_here", "_law_many", "_law_place", "_law_cell", "_law_mixed"]
theorem sc_l_draw : FnScope N_l_draw ["_law_deck_here", "_law_many"] (defScope s_l_draw) := ⟨rfl, rfl, rfl, by decide +kernel, rfl, by decide +kernel, by decide +kernel⟩
theorem ok_l_draw (T : Txt mg) (D : Df K mg "_law_draw" s_l_draw ["_law_deck_here", "_law_many"]) : Cal P w K mg base "_law_draw" ["_law_deck_here", "_law_many"] 1 (sp_l_draw K) := by
  refine D.cal sc_l_draw (fun vs H Q E h => ?_) (fun f cdv A outer s H vs Q E hr h => ?_)
  · obtain ⟨p, l, n, m, rfl, _⟩ := h
    rfl
  obtain ⟨p, l, n, m, rfl, D, n0, n1, m0, m1, k⟩ := h
  obtain ⟨cells, hl, hc⟩ := D.hl
  have npl : p ≠ l := ne_of D.hp hl deck_ne
  refine ⟨_, (pss_cons (ps_asg (pe_op op_add (pe_ix ix_list (pv 0) pe_int (fun _ _ => rfl)) pe_int) (pg_sub (pv 0) pe_int set_list))
    (pss_cons (ps_set (i := 2) sc_l_draw.nd rfl (Or.inl rfl) (pe_op op_modN (pe_callTy call_int1 (by rfl) T.n_int (by decide +kernel) (pa_cons (pe_ix ix_list (pv 0) pe_int (fun _ _ => rfl)) pa_nil)) (pe_callB (call_max2 rfl) (by rfl) T.n_max (by decide +kernel) (pa_cons pe_int (pa_cons (pe_callB call_len_seq (by rfl) T.n_len (by decide +kernel) (pa_cons (pe_ix ix_list (pv 0) pe_int (fun _ _ => rfl)) pa_nil)) pa_nil)))))
    (pss_cons (ps_set (i := 3) sc_l_draw.nd rfl (Or.inl rfl) (pe_ix ix_list (pe_op op_cat (pe_ix ix_list (pv 0) pe_int (fun _ _ => rfl)) (pe_lst (pa_cons pe_int pa_nil))) (pv 2) (fun _ _ => rfl)))
    (pss_cons (ps_if (pt_cmpR op_ge (pv 3) (pe_op op_pow pe_int pe_int) (nomark _)) (pss_cons (ps_asg (pe_op op_fdivW (pv 3) (pv 1)) (pg_sub (pe_ix ix_list (pv 0) pe_int (fun _ _ => rfl)) (pv 2) set_list))
    (pss_one (ps_ret (pe_op op_modN (pe_callTy call_int1 (by rfl) T.n_int (by decide +kernel) (pa_cons (pv 3) pa_nil)) (pv 1))))) pss_nil)
    (pss_cons (ps_set (i := 4) sc_l_draw.nd rfl (Or.inl rfl) (pe_op op_pow (pe_op op_add (pe_op op_add (pe_op op_modN (pe_callTy call_int1 (by rfl) T.n_int (by decide +kernel) (pa_cons (pv 3) pa_nil)) pe_int) (pe_op op_mul pe_int (pe_ix ix_list (pv 0) pe_int (fun _ _ => rfl)))) pe_int) pe_int))
    (pss_one (ps_ret (pe_op op_modN (pe_callTy call_int1 (by rfl) T.n_int (by decide +kernel) (pa_cons (pe_op op_modN (pe_callTy call_int1 (by rfl) T.n_int (by decide +kernel) (pa_cons (pv 4) pa_nil)) pe_int) pa_nil)) (pv 1))))))))), ?_⟩
  refine ⟨_, rfl, _, _, _, _, rfl, rfl, SqL.of D.hp, atI_nat (j := 1) rfl, _, _, rfl, rfl, _, rfl, _, _, _, _, rfl, rfl, D.hp, rfl, ?_⟩
  generalize hH0 : upd H p (HO.lst (List.set [V.ref l, V.int n] (Int.toNat 1) ((fun i j => V.int (i + j)) n 1))) = H0
  have hH0 : upd H p (.lst [.ref l, .int (n + 1)]) = H0 := hH0
  have f0 : Fr p l H H0 := fun b o h1 _ h => by rw [← hH0, upd_ne h1]; exact h
  have hl0 : H0 l = some (.lst (cells.map V.int)) := by rw [← hH0, upd_ne npl.symm]; exact hl
  have hp0 : H0 p = some (.lst [.ref l, .int (n + 1)]) := by rw [← hH0, upd_same]
  -- place
  have big : (if ((cells.map V.int).length : Int) > 1 then ((cells.map V.int).length : Int) else 1) = max 1 (cells.length : Int) := by
    rw [List.length_map]
    split <;> omega
  have fm : (n + 1).fmod (max 1 (cells.length : Int)) = (n + 1) % (max 1 (cells.length : Int)) := fmod_pos (by omega)
  have q0 : 0 ≤ (n + 1).fmod (max 1 (cells.length : Int)) := by rw [fm]; exact Int.emod_nonneg _ (by omega)
  have q1 : (n + 1).fmod (max 1 (cells.length : Int)) < max 1 (cells.length : Int) := by rw [fm]; exact Int.emod_lt_of_pos _ (by omega)
  refine ⟨_, rfl, _, _, _, _, rfl, rfl, SqL.of hp0, atI_nat (j := 1) rfl, .inl ⟨_, rfl, _, rfl, _, _, _, _, rfl, rfl, SqL.of hp0, atI_nat (j := 0) rfl, _, _, rfl, .inl (SqL.of hl0), _, _, rfl, _, _, rfl, rfl, (by rw [big]; omega), ?_⟩⟩
  have z : ∀ B : Int → Prop, B ((n + 1).fmod (max 1 (cells.length : Int))) → B ((n + 1).fmod (if ((cells.map V.int).length : Int) > 1 then ((cells.map V.int).length : Int) else 1)) := fun B h => by rw [big]; exact h
  refine z (fun y => gName 2 (.int y) _ _ _) ?_
  clear z
  -- cell
  refine ⟨_, rfl, _, _, _, _, rfl, rfl, SqL.of hp0, atI_nat (j := 0) rfl, (by show 1 ≤ sizeLine; decide), fun t nt => ?_⟩
  have st := same_upd (o := .lst [.int 0]) nt
  have hp1 := st _ _ hp0
  have hl1 := st _ _ hl0
  have f1 := f0.trans (Same.fr (p := p) (l := l) st)
  obtain ⟨hc, h63⟩ := hc
  have ln : (cells.map V.int).length = cells.length := List.length_map ..
  refine ⟨_, _, _, _, rfl, rfl, hl1, upd_same, (by rw [ln]; exact Nat.le_trans (by omega : cells.length + 1 ≤ 64) (by decide)), fun t2 nt2 => ?_⟩
  have st2 := same_upd (o := .lst (cells.map V.int ++ [.int 0])) nt2
  have hp2 := st2 _ _ hp1
  have hl2 := st2 _ _ hl1
  have f2 := f1.trans (Same.fr (p := p) (l := l) st2)
  have ht2 : upd (upd H0 t (.lst [.int 0])) t2 (.lst (cells.map V.int ++ [.int 0])) t2 = some (.lst ((cells ++ [0]).map V.int)) := by rw [upd_same, List.map_append]; rfl
  generalize upd (upd H0 t (HO.lst [V.int 0])) t2 (HO.lst (cells.map V.int ++ [V.int 0])) = H2 at hp2 hl2 f2 ht2 ⊢
  have q2 : ((n + 1).fmod (max 1 (cells.length : Int))).toNat < (cells ++ [0]).length := by rw [List.length_append, List.length_singleton]; omega
  have q3 : (n + 1).fmod (max 1 (cells.length : Int)) = (((n + 1).fmod (max 1 (cells.length : Int))).toNat : Int) := by omega
  generalize (n + 1).fmod (max 1 (cells.length : Int)) = pl at q0 q1 q2 q3 ⊢
  have q4 : ((cells ++ [0]).map V.int)[pl.toNat]? = some (.int (cells ++ [0])[pl.toNat]) := by
    rw [List.getElem?_map, List.getElem?_eq_getElem q2]
    rfl
  have c0 : 0 ≤ (cells ++ [0])[pl.toNat] := by
    rcases List.mem_append.mp (List.getElem_mem q2) with q | q
    · exact hc _ q
    · rw [List.mem_singleton.mp q]
      decide
  have inside : 1000000000000000000 ≤ (cells ++ [0])[pl.toNat] → pl.toNat < cells.length := by
    intro q
    by_cases e : pl.toNat < cells.length
    · exact e
    · rw [List.getElem_append_right (by omega)] at q
      simp at q
  generalize (cells ++ [0])[pl.toNat] = c at q4 c0 inside ⊢
  refine ⟨_, rfl, _, _, _, _, rfl, rfl, SqL.of ht2, at_of q3 q4, ?_⟩
  refine ⟨_, rfl, _, _, rfl, rfl, ⟨by decide, by decide, by decide⟩, _, _, rfl, rfl, _, rfl, ite3 (fun e => ?_) (fun e => ?_)⟩
  · have e : 1000000000000000000 ≤ c := e
    have p1 := inside e
    have ix : ixN (cells.map V.int).length pl = some pl.toNat := by
      unfold ixN
      rw [if_pos q0, if_pos (by omega)]
    refine ⟨_, rfl, _, rfl, _, _, rfl, rfl, div_draw m0 m1, _, rfl, _, _, _, _, rfl, rfl, SqL.of hp2, atI_nat (j := 0) rfl, _, rfl, _, _, _, _, rfl, rfl, hl2, ix, ?_⟩
    refine ⟨_, rfl, .inl ⟨_, rfl, _, rfl, _, _, rfl, rfl, (by omega), ?_⟩⟩
    have fm : c.fmod m = c % m := fmod_pos m0
    refine k _ _ (by rw [fm]; exact Int.emod_nonneg _ (by omega)) (by rw [fm]; exact Int.emod_lt_of_pos _ m0) (f2.trans fun b o _ h2 h => by rw [upd_ne h2]; exact h) ⟨by rw [upd_ne npl]; exact hp2, cells.set pl.toNat (c / m), by rw [upd_same, List.map_set], fun y hy => ?_, by rw [List.length_set]; exact h63⟩
    rcases List.mem_or_eq_of_mem_set hy with q | q
    · exact hc y q
    · rw [q]; exact Int.ediv_nonneg c0 (by omega)
  · refine ⟨_, rfl, .inl ⟨_, rfl, _, _, rfl, rfl, (show (2147483587 : Int) ≠ 0 by decide), _, rfl, _, _, _, _, rfl, rfl, SqL.of hp2, atI_nat (j := 1) rfl, _, _, rfl, rfl, .inl ⟨by decide, by decide⟩, _, _, rfl, rfl, _, _, rfl, rfl, ?_⟩⟩
    have fm : c.fmod 2147483587 = c % 2147483587 := fmod_pos (by decide)
    have h0 := Int.emod_nonneg c (show (2147483587 : Int) ≠ 0 by decide)
    have h1 := Int.emod_lt_of_pos c (show (0 : Int) < 2147483587 by decide)
    refine ⟨_, _, rfl, rfl, ⟨by decide, by decide, by rw [fm]; omega⟩, ?_⟩
    refine ⟨_, rfl, .inl ⟨_, rfl, _, _, rfl, rfl, (show (2147483647 : Int) ≠ 0 by decide), .inl ⟨_, rfl, _, rfl, _, _, rfl, rfl, (by omega), ?_⟩⟩⟩
    refine k _ _ ?_ ?_ f2 ⟨hp2, cells, hl2, hc, h63⟩
    · rw [fmod_pos m0]; exact Int.emod_nonneg _ (by omega)
    · rw [fmod_pos m0]; exact Int.emod_lt_of_pos _ m0
abbrev s_l_one : Stmt := topS 10
abbrev N_l_one : List Str := ["_law_deck_here", "_law_items"]
theorem sc_l_one : FnScope N_l_one ["_law_deck_here", "_law_items"] (defScope s_l_one) := ⟨rfl, rfl, rfl, by decide +kernel, rfl, by decide +kernel, by decide +kernel⟩
theorem ok_l_one (T : Txt mg) (D : Df K mg "_law_one" s_l_one ["_law_deck_here", "_law_items"]) (C_l_draw : Cal P w K mg base "_law_draw" ["_law_deck_here", "_law_many"] 1 (sp_l_draw K)) : Cal P w K mg base "_law_one" ["_law_deck_here", "_law_items"] 2 (sp_l_one K) := by
  obtain ⟨f_l_draw, fd_l_draw, G_l_draw, m_l_draw, k_l_draw, b_l_draw⟩ := C_l_draw
  refine D.cal sc_l_one (fun vs H Q E h => ?_) (fun f cdv A outer s H vs Q E hr h => ?_)
  · obtain ⟨p, l, b, n, xs, rfl, _⟩ := h
    rfl
  obtain ⟨p, l, b, n, xs, rfl, D, n0, n1, hb, bp, bl, x0, x1, k⟩ := h
  refine ⟨_, (pss_one (ps_ret (pe_ix ix_list (pv 1) (pe_call G_l_draw (hr.mono (by decide)) (by rfl) m_l_draw k_l_draw b_l_draw .nil pass0 (pa_cons (pv 0) (pa_cons (pe_callB call_len_seq (by rfl) T.n_len (by decide +kernel) (pa_cons (pv 1) pa_nil)) pa_nil))) (fun _ _ => rfl)))), ?_⟩
  refine ⟨_, rfl, _, rfl, _, rfl, _, _, rfl, .inl (SqL.of hb), p, l, n, _, rfl, D, n0, n1, (by omega), (by omega), fun r H' r0 r1 f D' => ?_⟩
  have q : r.toNat < xs.length := by omega
  refine ⟨_, _, _, _, rfl, rfl, SqL.of (f b _ bp bl hb), at_of (j := r.toNat) (by omega) (List.getElem?_eq_getElem q), ?_⟩
  exact k _ H' (List.getElem_mem q) f D'
end
end Sm

set_option Elab.async false
set_option linter.all false
set_option maxRecDepth 100000
set_option maxHeartbeats 8000000
namespace Sm
open PySem PySem.Spec PyProof.Rows L2
open C8 (pss_cut tCut)
section
variable {P : Program} {w : World} {K : PySem.W.Frag} {mg : Str → Option Value} {base : Heap}
theorem RB.div {T : List Int} {p : Nat} {r x : Int} (b : RB T p r) (o : RuleW T p r) : CDivW x (p : Int) := by
  have := b.len
  have := o.p0
  have := o.p1
  exact wide_div (b := 10) (by omega) (by omega) (by decide) (by decide)
theorem RB.mulR {T : List Int} {p : Nat} {r x : Int} (b : RB T p r) (o : RuleW T p r) : CMul x r := by
  have := b.r1
  have := o.r0
  exact .inr ⟨by omega, by omega⟩
theorem RB.mulR' {T : List Int} {p : Nat} {r x : Int} (b : RB T p r) (o : RuleW T p r) : CMul r x := by
  have := b.r1
  have := o.r0
  exact .inl ⟨by omega, by omega⟩
theorem RB.mulP {T : List Int} {p : Nat} {r x : Int} (b : RB T p r) (o : RuleW T p r) : CMul x (p : Int) := by
  have := b.len
  have := o.p1
  exact .inr ⟨by omega, by omega⟩
theorem len_int (T : List Int) : (((T.map V.int).length : Nat) : Int) = (T.length : Int) := by rw [List.length_map]
theorem turns_eq {T : List Int} {p x : Nat} (h : T.length ≤ x) : ((x : Int) - (((T.map V.int).length : Nat) : Int)) / (p : Int) + 1 = (((x - T.length) / p + 1 : Nat) : Int) := by
  rw [len_int]
  exact div_cast h
theorem index_eq {q p x : Nat} (h : q * p ≤ x) : (x : Int) - (q : Int) * (p : Int) = ((x - q * p : Nat) : Int) := by
  rw [Int.natCast_sub h, Int.natCast_mul]
abbrev s_l_value : Stmt := topS 11
abbrev N_l_value : List Str := ["_law_rule_here", "_law_x", "_law_table", "_law_period", "_law_rise", "_law_turns"]
theorem sc_l_value : FnScope N_l_value ["_law_rule_here", "_law_x"] (defScope s_l_value) := ⟨rfl, rfl, rfl, by decide +kernel, rfl, by decide +kernel, by decide +kernel⟩
theorem ok_l_value (T : Txt mg) (D : Df K mg "_law_value" s_l_value ["_law_rule_here", "_law_x"]) : Cal P w K mg base "_law_value" ["_law_rule_here", "_law_x"] 1 (sp_l_value K) := by
  refine D.cal sc_l_value (fun vs H Q E h => ?_) (fun f cdv A outer s H vs Q E hr h => ?_)
  · obtain ⟨d, T0, p, r, x, rfl, _⟩ := h
    rfl
  obtain ⟨d, T0, p, r, x, rfl, ⟨t, hd, ht⟩, o, b, k⟩ := h
  have p0 := o.p0
  have p1 := o.p1
  refine ⟨_, (pss_cons (ps_asg (pv 0) (pg_tup (by rfl) (pgs_cons (pg_name (i := 2) sc_l_value.nd rfl (Or.inl rfl)) (pgs_cons (pg_name (i := 3) sc_l_value.nd rfl (Or.inl rfl)) (pgs_cons (pg_name (i := 4) sc_l_value.nd rfl (Or.inl rfl)) pgs_nil)))))
    (pss_cons (ps_if (pt_cmpR op_lt (pv 1) (pe_callB call_len_seq (by rfl) T.n_len (by decide +kernel) (pa_cons (pv 2) pa_nil)) (nomark _)) (pss_one (ps_ret (pe_ix ix_tup (pv 2) (pv 1) (fun _ _ => rfl)))) pss_nil)
    (pss_cons (ps_set (i := 5) sc_l_value.nd rfl (Or.inl rfl) (pe_op op_add (pe_op op_fdivW (pe_op op_sub (pv 1) (pe_callB call_len_seq (by rfl) T.n_len (by decide +kernel) (pa_cons (pv 2) pa_nil))) (pv 3)) pe_int))
    (pss_one (ps_ret (pe_op op_add (pe_ix ix_tup (pv 2) (pe_op op_sub (pv 1) (pe_op op_mul (pv 5) (pv 3))) (fun _ _ => rfl)) (pe_op op_mul (pv 5) (pv 4)))))))), ?_⟩
  refine ⟨_, rfl, _, _, rfl, SqT.of hd, rfl, _, _, rfl, _, _, rfl, _, _, rfl, rfl, ?_⟩
  refine ⟨_, rfl, _, rfl, _, _, rfl, .inr (SqT.of ht), _, _, rfl, rfl, _, rfl, ite3 (fun e => ?_) (fun e => ?_)⟩
  · rw [len_int] at e
    have e : x < T0.length := by omega
    rw [vl_lt e] at k
    exact ⟨_, rfl, _, rfl, _, _, _, _, rfl, rfl, SqT.of ht, atI_nat (get_int e), k⟩
  · rw [len_int] at e
    have e : T0.length ≤ x := by omega
    have z : ∀ B : Int → Prop, B (((x - T0.length) / p + 1 : Nat) : Int) → B (((x : Int) - (((T0.map V.int).length : Nat) : Int)) / (p : Int) + 1) := fun B h => by rw [turns_eq e]; exact h
    refine ⟨_, rfl, _, rfl, _, _, rfl, .inr (SqT.of ht), _, _, rfl, rfl, _, rfl, _, _, rfl, rfl, b.div o, _, _, rfl, rfl, ?_⟩
    refine z (fun y => gName 5 (.int y) _ _ _) ?_
    clear z
    obtain ⟨a1, a2, a3⟩ := place p0 p1 e
    have kv : vl T0 p r x = T0.getD (x - ((x - T0.length) / p + 1) * p) 0 + (((x - T0.length) / p + 1 : Nat) : Int) * r := if_neg (by omega)
    rw [kv] at k
    generalize (x - T0.length) / p + 1 = q at a1 a2 a3 k ⊢
    exact ⟨_, rfl, _, rfl, _, rfl, _, rfl, _, _, rfl, rfl, b.mulP o, _, _, rfl, rfl, _, _, _, _, rfl, rfl, SqT.of ht, at_of (index_eq a1) (get_int a3), _, rfl, _, rfl, _, _, rfl, rfl, b.mulR o, _, _, rfl, rfl, k⟩
abbrev s_l_repeats : Stmt := topS 12
abbrev N_l_repeats : List Str := ["_law_rule_here", "_law_step", "_law_more", "_law_table", "_law_period", "_law_rise", "_law_x"]
theorem sc_l_repeats : FnScope N_l_repeats ["_law_rule_here", "_law_step", "_law_more"] (defScope s_l_repeats) := ⟨rfl, rfl, rfl, by decide +kernel, rfl, by decide +kernel, by decide +kernel⟩
theorem ok_l_repeats (T : Txt mg) (D : Df K mg "_law_repeats" s_l_repeats ["_law_rule_here", "_law_step", "_law_more"]) (C_l_value : Cal P w K mg base "_law_value" ["_law_rule_here", "_law_x"] 1 (sp_l_value K)) : Cal P w K mg base "_law_repeats" ["_law_rule_here", "_law_step", "_law_more"] 2 (sp_l_repeats K) := by
  obtain ⟨f_l_value, fd_l_value, G_l_value, m_l_value, k_l_value, b_l_value⟩ := C_l_value
  refine D.cal sc_l_repeats (fun vs H Q E h => ?_) (fun f cdv A outer s H vs Q E hr h => ?_)
  · obtain ⟨d, T0, p, r, s, c, rfl, _⟩ := h
    rfl
  obtain ⟨d, T0, p, r, st, c, rfl, R, o, b, k⟩ := h
  obtain ⟨t, hd, ht⟩ := id R
  have p0 := o.p0
  have p1 := o.p1
  have bl := b.len
  refine ⟨_, (pss_cons (ps_asg (pv 0) (pg_tup (by rfl) (pgs_cons (pg_name (i := 3) sc_l_repeats.nd rfl (Or.inl rfl)) (pgs_cons (pg_name (i := 4) sc_l_repeats.nd rfl (Or.inl rfl)) (pgs_cons (pg_name (i := 5) sc_l_repeats.nd rfl (Or.inl rfl)) pgs_nil)))))
    (pss_cons (ps_for PassesOwn.never rfl (pi_range2 (by rfl) T.n_range (pa_cons (pe_op op_sub (pe_callB call_len_seq (by rfl) T.n_len (by decide +kernel) (pa_cons (pv 3) pa_nil)) (pv 4)) (pa_cons (pe_callB call_len_seq (by rfl) T.n_len (by decide +kernel) (pa_cons (pv 3) pa_nil)) pa_nil))) (pg_name (i := 6) sc_l_repeats.nd rfl (Or.inl rfl))
      (pss_one (ps_if (pt_cmpR op_ne (pe_call G_l_value (hr.mono (by decide)) (by rfl) m_l_value k_l_value b_l_value .nil pass0 (pa_cons (pv 0) (pa_cons (pe_op op_add (pv 6) (pv 1)) pa_nil))) (pe_op op_add (pe_ix ix_tup (pv 3) (pv 6) (fun _ _ => rfl)) (pv 2)) (nomark _)) (pss_one (ps_ret pe_bl)) pss_nil)))
    (pss_one (ps_ret pe_bl)))), ?_⟩
  refine ⟨_, rfl, _, _, rfl, SqT.of hd, rfl, _, _, rfl, _, _, rfl, _, _, rfl, rfl, ?_⟩
  have ll := len_int T0
  refine ⟨_, rfl, _, _, rfl, .inr (SqT.of ht), _, rfl, _, _, rfl, rfl, _, rfl, _, _, rfl, .inr (SqT.of ht), _, _, rfl, ⟨by rw [ll]; omega, by rw [ll]; omega, by rw [ll]; omega, by rw [ll]; omega⟩, ?_⟩
  refine for_range (lo := _) (n := _) (fun i σ H' => ∃ v, σ = [some (.ref d), some (.int (st : Int)), some (.int c), some (.ref t), some (.int (p : Int)), some (.int r), v] ∧ H' = H ∧ ∀ j, j < i → vl T0 p r (T0.length - p + j + st) = T0.getD (T0.length - p + j) 0 + c)
    ⟨none, rfl, rfl, fun j hj => absurd hj (Nat.not_lt_zero _)⟩ ?_ ?_
  · rintro i σ H' hi ⟨v, rfl, rfl, hj⟩
    have hi : i < p := by
      rw [ll] at hi
      omega
    have e1 : (((T0.map V.int).length : Nat) : Int) - (p : Int) + (i : Int) = ((T0.length - p + i : Nat) : Int) := by rw [ll]; omega
    have e2 : (((T0.map V.int).length : Nat) : Int) - (p : Int) + (i : Int) + (st : Int) = ((T0.length - p + i + st : Nat) : Int) := by rw [ll]; omega
    have z : ∀ B : Int → Prop, B ((T0.length - p + i : Nat) : Int) → B ((((T0.map V.int).length : Nat) : Int) - (p : Int) + (i : Int)) := fun B h => by rw [e1]; exact h
    refine z (fun y => gName 6 (.int y) _ _ _) ?_
    clear z
    refine ⟨_, rfl, _, rfl, _, rfl, _, _, rfl, rfl, d, T0, p, r, T0.length - p + i + st, rfl, R, o, b, _, rfl, _, rfl, _, _, _, _, rfl, rfl, SqT.of ht, atI_nat (get_int (by omega)), _, rfl, _, _, rfl, rfl, rfl, _, rfl, ?_⟩
    by_cases e : vl T0 p r (T0.length - p + i + st) = T0.getD (T0.length - p + i) 0 + c
    · refine iteNP (congrArg V.int e) ⟨_, rfl, rfl, fun j hj' => ?_⟩
      by_cases q : j = i
      · rw [q]
        exact e
      · exact hj j (by omega)
    · exact iteNN (fun q => e (V.int.inj q)) (k false fun q => nomatch q)
  · rintro σ H' ⟨v, rfl, rfl, hj⟩
    refine k true fun _ i h1 h2 => ?_
    have := hj (i - (T0.length - p)) (by rw [ll]; omega)
    rw [show T0.length - p + (i - (T0.length - p)) = i by omega] at this
    exact this
def LeastW (d t : Addr) (T0 : List Int) (p : Nat) (r : Int) (s : Nat) (c : Int) (v : Option V) (H0 : Hp) : Nat → List (Option V) → Hp → Prop := fun m σ H =>
  σ = [some (.ref d), some (.ref t), some (.int (p : Int)), some (.int r), some (.int (s : Int)), some (.int (m : Int)), v, some (.int c)] ∧ H = H0 ∧ m ≤ T0.length - p ∧ ∀ y, m ≤ y → vl T0 p r (y + s) = vl T0 p r y + c
abbrev s_l_least : Stmt := topS 13
abbrev N_l_least : List Str := ["_law_rule_here", "_law_table", "_law_period", "_law_rise", "_law_step", "_law_start", "_law_one_here", "_law_more"]
theorem sc_l_least : FnScope N_l_least ["_law_rule_here"] (defScope s_l_least) := ⟨rfl, rfl, rfl, by decide +kernel, rfl, by decide +kernel, by decide +kernel⟩
theorem ok_l_least (T : Txt mg) (D : Df K mg "_law_least" s_l_least ["_law_rule_here"]) (C_l_value : Cal P w K mg base "_law_value" ["_law_rule_here", "_law_x"] 1 (sp_l_value K)) (C_l_repeats : Cal P w K mg base "_law_repeats" ["_law_rule_here", "_law_step", "_law_more"] 2 (sp_l_repeats K)) : Cal P w K mg base "_law_least" ["_law_rule_here"] 3 (sp_l_least K) := by
  obtain ⟨f_l_value, fd_l_value, G_l_value, m_l_value, k_l_value, b_l_value⟩ := C_l_value
  obtain ⟨f_l_repeats, fd_l_repeats, G_l_repeats, m_l_repeats, k_l_repeats, b_l_repeats⟩ := C_l_repeats
  refine D.cal sc_l_least (fun vs H Q E h => ?_) (fun f cdv A outer s H vs Q E hr h => ?_)
  · obtain ⟨d, T0, p, r, rfl, _⟩ := h
    rfl
  obtain ⟨d, T0, p, r, rfl, R, o, b, k⟩ := h
  obtain ⟨t, hd, ht⟩ := id R
  have p0 := o.p0
  have p1 := o.p1
  have bl := b.len
  have r0 := o.r0
  have ll := len_int T0
  refine ⟨_, (pss_cons (ps_asg (pv 0) (pg_tup (by rfl) (pgs_cons (pg_name (i := 1) sc_l_least.nd rfl (Or.inl rfl)) (pgs_cons (pg_name (i := 2) sc_l_least.nd rfl (Or.inl rfl)) (pgs_cons (pg_name (i := 3) sc_l_least.nd rfl (Or.inl rfl)) pgs_nil)))))
    (pss_cons (ps_par (i := 4) (j := 5) (by rfl) sc_l_least.nd rfl rfl (by decide) rfl rfl (pa_cons (pv 2) (pa_cons (pe_op op_sub (pe_callB call_len_seq (by rfl) T.n_len (by decide +kernel) (pa_cons (pv 1) pa_nil)) (pv 2)) pa_nil)) (by rfl))
    (pss_cut (ps_for PassesOwn.never rfl (pi_range2 (by rfl) T.n_range (pa_cons pe_int (pa_cons (pv 2) pa_nil))) (pg_name (i := 6) sc_l_least.nd rfl (Or.inl rfl))
      (pss_one (ps_if (PW.pt (pw_and (pt_cmpR op_eq (pv 4) (pv 2) (nomark _)) (pw_and (pt_cmpR op_eq (pe_op op_modN (pe_callTy call_int1 (by rfl) T.n_int (by decide +kernel) (pa_cons (pv 2) pa_nil)) (pv 6)) pe_int (nomark _)) (pw_and1 (pt_cmpR op_eq (pe_op op_modN (pe_callTy call_int1 (by rfl) T.n_int (by decide +kernel) (pa_cons (pe_op op_mul (pv 3) (pv 6)) pa_nil)) (pv 2)) pe_int (nomark _)))))) (pss_one (ps_if (pt_val (pe_call G_l_repeats (hr.mono (by decide)) (by rfl) m_l_repeats k_l_repeats b_l_repeats .nil pass0 (pa_cons (pv 0) (pa_cons (pv 6) (pa_cons (pe_op op_fdivW (pe_op op_mul (pv 3) (pv 6)) (pv 2)) pa_nil))))) (pss_one (ps_set (i := 4) sc_l_least.nd rfl (Or.inl rfl) (pv 6))) pss_nil)) pss_nil)))
    (pss_cons (ps_set (i := 7) sc_l_least.nd rfl (Or.inl rfl) (pe_op op_fdivW (pe_op op_mul (pv 3) (pv 4)) (pv 2)))
    (pss_cons (ps_while PassesOwn.never (PW.pt (pw_and (pt_cmpR op_gt (pv 5) pe_int (nomark _)) (pw_and1 (pt_cmpR op_eq (pe_call G_l_value (hr.mono (by decide)) (by rfl) m_l_value k_l_value b_l_value .nil pass0 (pa_cons (pv 0) (pa_cons (pe_op op_add (pe_op op_sub (pv 5) pe_int) (pv 4)) pa_nil))) (pe_op op_add (pe_ix ix_tup (pv 1) (pe_op op_sub (pv 5) pe_int) (fun _ _ => rfl)) (pv 7)) (nomark _)))))
      (pss_one (ps_set (i := 5) sc_l_least.nd rfl (Or.inl rfl) (pe_op op_sub (pv 5) pe_int))))
    (pss_one (ps_ret (pe_tup (pa_cons (pe_callTy call_tupleT (by rfl) T.n_tuple (by decide +kernel) (pa_cons (pe_slice sl_tupA (pv 1) po_none (po_some (pe_op op_add (pv 5) (pv 4)))) pa_nil)) (pa_cons (pv 4) (pa_cons (pv 7) pa_nil))))))))))), ?_⟩
  refine ⟨_, rfl, _, _, rfl, SqT.of hd, rfl, _, _, rfl, _, _, rfl, _, _, rfl, rfl, ?_⟩
  have z : ∀ B : Int → Prop, B ((T0.length - p : Nat) : Int) → B ((((T0.map V.int).length : Nat) : Int) - (p : Int)) := fun B h => by
    rw [ll, ← Int.natCast_sub p1]
    exact h
  refine ⟨_, rfl, _, rfl, _, _, rfl, .inr (SqT.of ht), _, rfl, _, _, rfl, rfl, _, _, rfl, ?_⟩
  refine z (fun y => tCut _ _ _ (List.set (List.set _ 4 (some (.int (p : Int)))) 5 (some (.int y))) H) ?_
  clear z
  refine ⟨fun σ H' => H' = H ∧ ∃ (s : Nat) (v : Option V), σ = [some (.ref d), some (.ref t), some (.int (p : Int)), some (.int r), some (.int (s : Int)), some (.int ((T0.length - p : Nat) : Int)), v, none] ∧ 1 ≤ s ∧ s ≤ p ∧ Rep T0 p r s (r * (s : Int) / (p : Int)), ?_, ?_⟩
  · refine ⟨_, rfl, _, _, rfl, ⟨by omega, by omega, by omega, by omega⟩, for_range (lo := _) (n := _) (fun i σ H' => H' = H ∧ ∃ (s : Nat) (v : Option V), σ = [some (.ref d), some (.ref t), some (.int (p : Int)), some (.int r), some (.int (s : Int)), some (.int ((T0.length - p : Nat) : Int)), v, none] ∧ 1 ≤ s ∧ s ≤ p ∧ Rep T0 p r s (r * (s : Int) / (p : Int)))
      ⟨rfl, p, none, rfl, p0, Nat.le_refl _, ?_⟩ ?_ ?_⟩
    · rw [Int.mul_ediv_cancel _ (by omega)]
      exact rep_selfW o
    · rintro i σ H' hi ⟨rfl, s, v, rfl, s0, s1, hs⟩
      have hi : i < p - 1 := by omega
      have one : (1 : Int) + (i : Int) = ((1 + i : Nat) : Int) := rfl
      refine ⟨_, rfl, _, rfl, rfl, _, rfl, ite3 (fun e => ?_) (fun e => ?_)⟩
      · refine ⟨_, rfl, .inl ⟨_, rfl, _, rfl, _, _, rfl, rfl, (by omega), rfl, _, rfl, ite3 (fun e2 => ?_) (fun e2 => ?_)⟩⟩
        · refine ⟨_, rfl, _, rfl, _, _, rfl, rfl, b.mulR' o, .inl ⟨_, rfl, _, rfl, _, _, rfl, rfl, (by omega), rfl, _, rfl, ite3 (fun e3 => ?_) (fun e3 => ?_)⟩⟩
          · refine ⟨_, rfl, _, rfl, _, rfl, _, rfl, _, _, rfl, rfl, b.mulR' o, _, rfl, _, _, rfl, rfl, b.div o, d, T0, p, r, 1 + i, _, rfl, R, o, b, fun bb hb => ⟨_, rfl, ?_⟩⟩
            cases bb with
            | true => exact iteT ⟨_, rfl, rfl, 1 + i, _, rfl, by omega, by omega, hb rfl⟩
            | false => exact iteF ⟨rfl, s, _, rfl, s0, s1, hs⟩
          · exact ⟨rfl, s, _, rfl, s0, s1, hs⟩
        · exact iteF ⟨rfl, s, _, rfl, s0, s1, hs⟩
      · exact iteF ⟨rfl, s, _, rfl, s0, s1, hs⟩
    · rintro σ H' ⟨rfl, s, v, rfl, s0, s1, hs⟩
      exact ⟨rfl, s, v, rfl, s0, s1, hs⟩
  · rintro σ H' ⟨rfl, s, v, rfl, s0, s1, hs⟩
    have c0 : 0 ≤ r * (s : Int) / (p : Int) := Int.ediv_nonneg (Int.mul_nonneg r0 (by omega)) (by omega)
    have c1 : r * (s : Int) / (p : Int) ≤ r := by
      have h1 : r * (s : Int) ≤ r * (p : Int) := Int.mul_le_mul_of_nonneg_left (by omega) r0
      have h2 := Int.ediv_le_ediv (show (0 : Int) < (p : Int) by omega) h1
      rw [Int.mul_ediv_cancel _ (by omega)] at h2
      exact h2
    refine ⟨_, rfl, _, rfl, _, _, rfl, rfl, b.mulR' o, _, rfl, _, _, rfl, rfl, b.div o, ?_⟩
    have all := rep_allW o hs
    obtain ⟨c, ec⟩ : ∃ c, c = r * (s : Int) / (p : Int) := ⟨_, rfl⟩
    rw [← ec] at c0 c1 all
    refine ⟨LeastW d t T0 p r s c v H', ⟨T0.length - p, by rw [ec]; rfl, rfl, Nat.le_refl _, all⟩, ?_⟩
    rintro m σ H'' ⟨rfl, rfl, al, ha⟩
    -- the end, from any start
    have fin : ∀ (H2 : Hp) (t' : Addr), Same H'' H2 → H2 t' = some (.tup ((T0.take (m + s)).map V.int)) → ∀ q, H2 q = none → Q (.ref q) (upd H2 q (.tup [.ref t', .int (s : Int), .int c])) := by
      intro H2 t' sm h2 q nq
      have sq := same_upd (o := .tup [.ref t', .int (s : Int), .int c]) nq
      refine k _ q (T0.take (m + s)) s c (sm.trans sq) ⟨t', upd_same, sq _ _ h2⟩ ⟨s0, by rw [List.length_take]; omega, c0⟩ ⟨?_, by have := b.r1; omega, fun i hi => ?_⟩ c1 s1 ⟨_, rfl⟩ (fun ok => cut_ok ok s0 (by omega) c0 ha) (cut_vl s0 (by omega) ha)
      · rw [List.length_take]
        omega
      · rw [List.length_take] at hi
        rw [getD_take (by omega)]
        exact b.top i (by omega)
    refine ⟨_, rfl, _, _, rfl, rfl, _, rfl, ?_⟩
    by_cases e : (0 : Int) < (m : Int)
    · have e1 : (m : Int) - 1 = ((m - 1 : Nat) : Int) := by omega
      have e2 : (m : Int) - 1 + (s : Int) = ((m - 1 + s : Nat) : Int) := by omega
      refine iteP e ⟨_, rfl, _, rfl, _, _, rfl, rfl, _, rfl, _, _, rfl, rfl, d, T0, p, r, m - 1 + s, congrArg (fun z => [V.ref d, V.int z]) e2, R, o, b, _, rfl, _, rfl, _, _, rfl, rfl, _, _, _, _, rfl, rfl, SqT.of ht, at_of e1 (get_int (by omega)), _, rfl, _, _, rfl, rfl, rfl, _, rfl, ?_⟩
      by_cases e3 : vl T0 p r (m - 1 + s) = T0.getD (m - 1) 0 + c
      · refine iteP (congrArg V.int e3) ⟨LeastW d t T0 p r s c v H'' (m - 1), fun σ' H3 hw => ⟨m - 1, by omega, hw⟩, _, rfl, _, _, rfl, rfl, ?_⟩
        refine ⟨by rw [← e1]; rfl, rfl, by omega, fun y hy => ?_⟩
        by_cases q : y = m - 1
        · rw [q, e3, vl_lt (by omega)]
        · exact ha y (by omega)
      · refine iteN (fun q => e3 (V.int.inj q)) ?_
        refine ⟨_, rfl, _, rfl, _, rfl, _, _, rfl, rfl, _, rfl, _, _, rfl, SqT.of ht, fun wh => ?_, fun _ p' np' => ?_⟩
        · have w2 : min (m + s) (T0.map V.int).length = (T0.map V.int).length := (HT.sIx_nat _ _ (m + s)).symm.trans wh.2
          rw [List.length_map] at w2
          exact ⟨_, _, rfl, SqT.of ht, _, rfl, _, rfl, (by show 3 ≤ sizeLine; decide), fun q nq => fin _ t (Same.refl _) (by rw [List.take_of_length_le (by omega)]; exact ht) q nq⟩
        · exact ⟨_, _, rfl, SqT.of upd_same, _, rfl, _, rfl, (by show 3 ≤ sizeLine; decide), fun q nq => fin _ p' (same_upd np') (by rw [upd_same, show cutV (T0.map V.int) none (some ((m : Int) + (s : Int))) = cutV (T0.map V.int) none (some ((m + s : Nat) : Int)) from rfl, cut_all, List.map_take]) q nq⟩
    · refine iteN e (iteF ?_)
      refine ⟨_, rfl, _, rfl, _, rfl, _, _, rfl, rfl, _, rfl, _, _, rfl, SqT.of ht, fun wh => ?_, fun _ p' np' => ?_⟩
      · have w2 : min (m + s) (T0.map V.int).length = (T0.map V.int).length := (HT.sIx_nat _ _ (m + s)).symm.trans wh.2
        rw [List.length_map] at w2
        exact ⟨_, _, rfl, SqT.of ht, _, rfl, _, rfl, (by show 3 ≤ sizeLine; decide), fun q nq => fin _ t (Same.refl _) (by rw [List.take_of_length_le (by omega)]; exact ht) q nq⟩
      · exact ⟨_, _, rfl, SqT.of upd_same, _, rfl, _, rfl, (by show 3 ≤ sizeLine; decide), fun q nq => fin _ p' (same_upd np') (by rw [upd_same, show cutV (T0.map V.int) none (some ((m : Int) + (s : Int))) = cutV (T0.map V.int) none (some ((m + s : Nat) : Int)) from rfl, cut_all, List.map_take]) q nq⟩
end
end Sm

set_option Elab.async false
set_option linter.all false
set_option maxRecDepth 100000
set_option maxHeartbeats 16000000
namespace Sm
open PySem PySem.Spec PyProof.Rows L2
section
variable {P : Program} {w : World} {K : PySem.W.Frag} {mg : Str → Option Value} {base : Heap}
theorem pre_len {T T' : List Int} (h : ∃ n, T' = T.take n) (hl : T.length ≤ 240 := by omega) : T'.length ≤ 240 := by
  obtain ⟨n, rfl⟩ := h
  rw [List.length_take]
  omega
theorem pre_top {T T' : List Int} (h : ∃ n, T' = T.take n) (tb : Tb T) (hl : T.length ≤ 240) : ∀ i, i < T'.length → T'.getD i 0 ≤ 10000000000000 := by
  obtain ⟨n, rfl⟩ := h
  intro i hi
  rw [List.length_take] at hi
  rw [getD_take (by omega)]
  have := tb.top i (by omega)
  omega
abbrev s_l_rule : Stmt := topS 14
abbrev N_l_rule : List Str := ["_law_deck_here", "_law_long", "_law_wide", "_law_tall", "_law_start", "_law_period", "_law_table", "_law_k", "_law_rise"]
theorem sc_l_rule : FnScope N_l_rule ["_law_deck_here", "_law_long", "_law_wide", "_law_tall"] (defScope s_l_rule) := ⟨rfl, rfl, rfl, by decide +kernel, rfl, by decide +kernel, by decide +kernel⟩
/-- what a draw needs of the deck, and an item of a list of four -/
theorem list_ne {H : Hp} {p l b : Addr} {n : Int} {xs : List V} (D : Deck H p l n) (h : H b = none) : b ≠ p ∧ b ≠ l := D.lne h
theorem ok_l_rule (T : Txt mg) (D : Df K mg "_law_rule" s_l_rule ["_law_deck_here", "_law_long", "_law_wide", "_law_tall"]) (C_l_least : Cal P w K mg base "_law_least" ["_law_rule_here"] 3 (sp_l_least K)) (C_l_draw : Cal P w K mg base "_law_draw" ["_law_deck_here", "_law_many"] 1 (sp_l_draw K)) : Cal P w K mg base "_law_rule" ["_law_deck_here", "_law_long", "_law_wide", "_law_tall"] 4 (sp_l_rule K) := by
  obtain ⟨f_l_least, fd_l_least, G_l_least, m_l_least, k_l_least, b_l_least⟩ := C_l_least
  obtain ⟨f_l_draw, fd_l_draw, G_l_draw, m_l_draw, k_l_draw, b_l_draw⟩ := C_l_draw
  refine D.cal sc_l_rule (fun vs H Q E h => ?_) (fun f cdv A outer s H vs Q E hr h => ?_)
  · obtain ⟨p, l, n, long, wide, tall, rfl, _⟩ := h
    rfl
  obtain ⟨p, l, n, long, wide, tall, rfl, D0, n0, n1, lo0, lo1, wi0, wi1, ta0, ta1, k⟩ := h
  refine ⟨_, (pss_cons (ps_par (i := 4) (j := 5) (by rfl) sc_l_rule.nd rfl rfl (by decide) rfl rfl (pa_cons (pe_call G_l_draw (hr.mono (by decide)) (by rfl) m_l_draw k_l_draw b_l_draw .nil pass0 (pa_cons (pv 0) (pa_cons (pe_op op_add (pv 1) pe_int) pa_nil))) (pa_cons (pe_op op_add pe_int (pe_call G_l_draw (hr.mono (by decide)) (by rfl) m_l_draw k_l_draw b_l_draw .nil pass0 (pa_cons (pv 0) (pa_cons (pv 2) pa_nil)))) pa_nil)) (by rfl))
    (pss_cons (ps_set (i := 6) sc_l_rule.nd rfl (Or.inl rfl) (pe_lst (pa_cons (pe_ix ix_list (pe_lst (pa_cons pe_int (pa_cons pe_int (pa_cons pe_int (pa_cons (pe_call G_l_draw (hr.mono (by decide)) (by rfl) m_l_draw k_l_draw b_l_draw .nil pass0 (pa_cons (pv 0) (pa_cons (pe_op op_add (pv 3) pe_int) pa_nil))) pa_nil))))) (pe_call G_l_draw (hr.mono (by decide)) (by rfl) m_l_draw k_l_draw b_l_draw .nil pass0 (pa_cons (pv 0) (pa_cons pe_int pa_nil))) (fun _ _ => rfl)) pa_nil)))
    (pss_cons (ps_for PassesOwn.never rfl (pi_range1 (by rfl) T.n_range (pa_cons (pe_op op_sub (pe_op op_add (pv 4) (pv 5)) pe_int) pa_nil)) (pg_name (i := 7) sc_l_rule.nd rfl (Or.inl rfl))
      (pss_one (ps_expr (pe_bm PySem.F.plainAttrs_list PySem.F.slot_list_append PySem.F.type_list_append mt_append (pv 6) (pa_cons (pe_op op_add (pe_ix ix_list (pv 6) (pe_un un_neg pe_int) (fun _ _ => rfl)) (pe_ix ix_list (pe_lst (pa_cons pe_int (pa_cons pe_int (pa_cons pe_int (pa_cons (pe_call G_l_draw (hr.mono (by decide)) (by rfl) m_l_draw k_l_draw b_l_draw .nil pass0 (pa_cons (pv 0) (pa_cons (pe_op op_add (pv 3) pe_int) pa_nil))) pa_nil))))) (pe_call G_l_draw (hr.mono (by decide)) (by rfl) m_l_draw k_l_draw b_l_draw .nil pass0 (pa_cons (pv 0) (pa_cons pe_int pa_nil))) (fun _ _ => rfl))) pa_nil)))))
    (pss_cons (ps_if (pt_cmpR op_eq (pe_call G_l_draw (hr.mono (by decide)) (by rfl) m_l_draw k_l_draw b_l_draw .nil pass0 (pa_cons (pv 0) (pa_cons pe_int pa_nil))) pe_int (nomark _)) (pss_one (ps_ret (pe_call G_l_least (hr.mono (by decide)) (by rfl) m_l_least k_l_least b_l_least .nil pass0 (pa_cons (pe_tup (pa_cons (pe_callTy call_tuple_of (by rfl) T.n_tuple (by decide +kernel) (pa_cons (pv 6) pa_nil)) (pa_cons pe_int (pa_cons pe_int pa_nil)))) pa_nil)))) pss_nil)
    (pss_cons (ps_set (i := 8) sc_l_rule.nd rfl (Or.inl rfl) (pe_op op_add (pe_op op_sub (pe_ix ix_list (pv 6) (pe_un un_neg pe_int) (fun _ _ => rfl)) (pe_ix ix_list (pv 6) (pv 4) (fun _ _ => rfl))) (pe_ix ix_list (pe_lst (pa_cons pe_int (pa_cons pe_int (pa_cons pe_int (pa_cons (pe_call G_l_draw (hr.mono (by decide)) (by rfl) m_l_draw k_l_draw b_l_draw .nil pass0 (pa_cons (pv 0) (pa_cons (pe_op op_add (pv 3) pe_int) pa_nil))) pa_nil))))) (pe_call G_l_draw (hr.mono (by decide)) (by rfl) m_l_draw k_l_draw b_l_draw .nil pass0 (pa_cons (pv 0) (pa_cons pe_int pa_nil))) (fun _ _ => rfl))))
    (pss_one (ps_ret (pe_call G_l_least (hr.mono (by decide)) (by rfl) m_l_least k_l_least b_l_least .nil pass0 (pa_cons (pe_tup (pa_cons (pe_callTy call_tuple_of (by rfl) T.n_tuple (by decide +kernel) (pa_cons (pv 6) pa_nil)) (pa_cons (pv 5) (pa_cons (pv 8) pa_nil)))) pa_nil))))))))), ?_⟩
  -- start, period
  refine ⟨_, rfl, _, rfl, _, _, rfl, rfl, p, l, n, _, rfl, D0, n0, by omega, by omega, by omega, fun rs H1 rs0 rs1 f1 D1 => ?_⟩
  refine ⟨_, rfl, _, rfl, p, l, n + 1, _, rfl, D1, by omega, by omega, by omega, by omega, fun rp H2 rp0 rp1 f2 D2 => ?_⟩
  refine ⟨_, _, rfl, rfl, _, _, rfl, ?_⟩
  -- the table's first item
  refine ⟨_, rfl, _, rfl, _, _, rfl, rfl, p, l, n + 1 + 1, _, rfl, D2, by omega, by omega, by omega, by omega, fun a H3 a0 a1 f3 D3 => ?_⟩
  refine ⟨(by show 4 ≤ sizeLine; decide), fun b nb => ?_⟩
  have sb := same_upd (o := .lst [.int 0, .int 0, .int 0, .int a]) nb
  obtain ⟨bp, bl⟩ := D3.lne nb
  refine ⟨_, rfl, p, l, n + 1 + 1 + 1, 4, rfl, D3.same sb, by omega, by omega, by omega, by omega, fun i4 H4 i40 i41 f4 D4 => ?_⟩
  obtain ⟨z, hz, zz⟩ := pick4 (a := 0) (b := 0) (c := 0) (d := a) i40 i41
  have z0 : 0 ≤ z := by omega
  have z1 : z ≤ 1000000000 := by omega
  refine ⟨_, _, _, _, rfl, rfl, SqL.of (f4 b _ bp bl upd_same), at_of (j := i4.toNat) (by omega) hz, ?_⟩
  refine ⟨(by show 1 ≤ sizeLine; decide), fun L nL => ?_⟩
  obtain ⟨Lp, Ll⟩ := D4.lne nL
  have sL := same_upd (o := .lst [.int z]) nL
  have fr : Fr p l H (upd H4 L (.lst [.int z])) := (f1.trans (f2.trans (f3.trans ((Same.fr sb).trans f4)))).trans (Same.fr sL)
  have D5 := D4.same sL
  have hn : ∀ b o, H b = some o → b ≠ L := by
    intro b o hb e
    subst e
    by_cases q1 : b = p
    · exact Lp q1
    · by_cases q2 : b = l
      · exact Ll q2
      · have := (f1.trans (f2.trans (f3.trans ((Same.fr sb).trans f4)))) b o q1 q2 hb
        rw [nL] at this
        cases this
  -- the loop
  refine ⟨_, rfl, _, rfl, _, _, rfl, rfl, _, _, rfl, rfl, _, rfl, (by omega), (by omega), ?_⟩
  refine for_range (lo := 0) (n := _) (fun i σ H' => ∃ (n' : Int) (T0 : List Int) (v : Option V), σ = [some (.ref p), some (.int long), some (.int wide), some (.int tall), some (.int rs), some (.int (1 + rp)), some (.ref L), v, none] ∧
      Deck H' p l n' ∧ n ≤ n' ∧ n' ≤ n + 4 + 2 * (i : Int) ∧ Fr p l H H' ∧ H' L = some (.lst (T0.map V.int)) ∧ T0.length = i + 1 ∧ Tb T0)
    ⟨_, [z], none, rfl, D5, by omega, by omega, fr, upd_same, rfl, ⟨by show 0 < 1; decide, fun i hi => ?_, fun i hi => ?_, fun i hi => ?_⟩⟩ ?_ ?_
  · have hi : i < 1 := hi
    rw [show i = 0 by omega]
    exact z0
  · have hi : i + 1 < 1 := hi
    omega
  · have hi : i < 1 := hi
    rw [show i = 0 by omega]
    show z ≤ 10000000000 * (((0 : Nat) : Int) + 1)
    omega
  · rintro i σ H' hi ⟨n', T0, v, rfl, D', m0, m1, f', hL, hT, tb⟩
    have hi : i < (rs + (1 + rp) - 1).toNat := hi
    refine ⟨_, rfl, .inl ⟨rfl, _, SqL.of hL⟩, ?_⟩
    refine ⟨_, rfl, _, rfl, _, _, _, _, rfl, rfl, SqL.of hL, last_int tb.ne, ?_⟩
    refine ⟨_, rfl, _, rfl, _, _, rfl, rfl, p, l, n', _, rfl, D', by omega, by omega, by omega, by omega, fun a' H6 a0' a1' f6 D6 => ?_⟩
    refine ⟨(by show 4 ≤ sizeLine; decide), fun b' nb' => ?_⟩
    have sb' := same_upd (o := .lst [.int 0, .int 0, .int 1, .int a']) nb'
    obtain ⟨bp', bl'⟩ := D6.lne nb'
    refine ⟨_, rfl, p, l, n' + 1, 4, rfl, D6.same sb', by omega, by omega, by omega, by omega, fun i5 H7 i50 i51 f7 D7 => ?_⟩
    obtain ⟨c, hc, cc⟩ := pick4 (a := 0) (b := 0) (c := 1) (d := a') i50 i51
    have c0 : 0 ≤ c := by omega
    have c1 : c ≤ 1000000000 := by omega
    have hL7 : H7 L = some (.lst (T0.map V.int)) := f7 L _ Lp Ll (sb' _ _ (f6 L _ Lp Ll hL))
    refine ⟨_, _, _, _, rfl, rfl, SqL.of (f7 b' _ bp' bl' upd_same), at_of (j := i5.toNat) (by omega) hc, _, _, rfl, rfl, L, _, _, rfl, rfl, hL7, ?_, ?_⟩
    · rw [List.length_map, hT]
      exact small1000 (by omega)
    · have fL : Fr p l H (upd H7 L (.lst ((T0 ++ [T0.getD (T0.length - 1) 0 + c]).map V.int))) := by
        intro b o h1 h2 hb
        rw [upd_ne (hn b o hb)]
        exact (f'.trans (f6.trans ((Same.fr sb').trans f7))) b o h1 h2 hb
      refine ⟨n' + 1 + 1, T0 ++ [T0.getD (T0.length - 1) 0 + c], _, rfl, ⟨by rw [upd_ne Lp.symm]; exact D7.hp, ?_⟩, by omega, by omega, ?_, ?_, ?_, tb.more c0 c1⟩
      · obtain ⟨cells, q1, q2⟩ := D7.hl
        exact ⟨cells, by rw [upd_ne Ll.symm]; exact q1, q2⟩
      · rw [List.map_append] at fL
        exact fL
      · rw [upd_same, List.map_append]
        rfl
      · rw [List.length_append, List.length_singleton, hT]
  · rintro σ H' ⟨n', T0, v, rfl, D', m0, m1, f', hL, hT, tb⟩
    have hlen : (T0.length : Int) = rs + (1 + rp) := by omega
    have small : T0.length ≤ 300 := by omega
    have line : T0.length ≤ sizeLine := Nat.le_trans small (by decide)
    have topI := tb.top
    refine ⟨_, rfl, p, l, n', 5, rfl, D', by omega, by omega, by omega, by omega, fun r5 H6 r50 r51 f6 D6 => ?_⟩
    have hL6 := f6 L _ Lp Ll hL
    refine ⟨rfl, _, rfl, ite3 (fun e => ?_) (fun e => ?_)⟩
    · -- a level rule
      refine ⟨_, rfl, L, _, rfl, .inl ⟨SqL.of hL6, fun t nt => ?_⟩⟩
      have st := same_upd (o := .tup (T0.map V.int)) nt
      refine ⟨(by show 3 ≤ sizeLine; decide), fun d nd => ?_⟩
      have sd := same_upd (o := .tup [.ref t, .int 1, .int 0]) nd
      refine ⟨d, T0, 1, 0, rfl, ⟨t, upd_same, sd _ _ upd_same⟩, tb.level.w, tb.rb small (by decide), fun H9 d' T' p' r' s9 hr' hw hb hr2 hp2 hpre ho hv => ?_⟩
      have s := st.trans (sd.trans s9)
      exact k H9 d' T' p' r' (n' + 1) (f'.trans (f6.trans (Same.fr s))) (D6.same s) (by omega) (by omega) hr' (ho tb.level) hb (by omega) (pre_len hpre) (by omega) (pre_top hpre tb (by omega))
    · -- a rising rule
      have gs : (T0.map V.int)[rs.toNat]? = some (.int (T0.getD rs.toNat 0)) := get_int (by omega)
      refine ⟨_, rfl, _, rfl, _, _, _, _, rfl, rfl, SqL.of hL6, last_int tb.ne, _, rfl, _, rfl, _, _, _, _, rfl, rfl, SqL.of hL6, at_of (j := rs.toNat) (by omega) gs, _, _, rfl, rfl, ?_⟩
      refine ⟨_, rfl, _, rfl, _, _, rfl, rfl, p, l, n' + 1, _, rfl, D6, by omega, by omega, by omega, by omega, fun a' H7 a0' a1' f7 D7 => ?_⟩
      refine ⟨(by show 4 ≤ sizeLine; decide), fun b' nb' => ?_⟩
      have sb' := same_upd (o := .lst [.int 0, .int 0, .int 1, .int a']) nb'
      obtain ⟨bp', bl'⟩ := D7.lne nb'
      refine ⟨_, rfl, p, l, n' + 1 + 1, 4, rfl, D7.same sb', by omega, by omega, by omega, by omega, fun i5 H8 i50 i51 f8 D8 => ?_⟩
      obtain ⟨c, hc, cc⟩ := pick4 (a := 0) (b := 0) (c := 1) (d := a') i50 i51
      have c0 : 0 ≤ c := by omega
      have c1 : c ≤ 1000000000 := by omega
      have hL8 : H8 L = some (.lst (T0.map V.int)) := f8 L _ Lp Ll (sb' _ _ (f7 L _ Lp Ll hL6))
      refine ⟨_, _, _, _, rfl, rfl, SqL.of (f8 b' _ bp' bl' upd_same), at_of (j := i5.toNat) (by omega) hc, _, _, rfl, rfl, ?_⟩
      refine ⟨_, rfl, L, _, rfl, .inl ⟨SqL.of hL8, fun t nt => ?_⟩⟩
      have st := same_upd (o := .tup (T0.map V.int)) nt
      refine ⟨_, rfl, _, rfl, (by show 3 ≤ sizeLine; decide), fun d nd => ?_⟩
      have ep : (1 : Int) + rp = (((1 + rp).toNat : Nat) : Int) := by omega
      have er : T0.length - (1 + rp).toNat = rs.toNat := by omega
      have ok := tb.rising (p := (1 + rp).toNat) (c := c) (by omega) (by omega) c0
      rw [er] at ok
      have t1 := tb.top (T0.length - 1) (by omega)
      have t2 := tb.nn rs.toNat (by omega)
      have sd := same_upd (o := .tup [.ref t, .int (1 + rp), .int (T0.getD (T0.length - 1) 0 - T0.getD rs.toNat 0 + c)]) nd
      refine ⟨d, T0, (1 + rp).toNat, T0.getD (T0.length - 1) 0 - T0.getD rs.toNat 0 + c, rfl, ⟨t, by rw [← ep]; exact upd_same, sd _ _ upd_same⟩, ok.w, tb.rb small (by omega), fun H9 d' T' p' r' s9 hr' hw hb hr2 hp2 hpre ho hv => ?_⟩
      have s := st.trans (sd.trans s9)
      exact k H9 d' T' p' r' (n' + 1 + 1 + 1) (f'.trans (f6.trans (f7.trans ((Same.fr sb').trans (f8.trans (Same.fr s)))))) (D8.same s) (by omega) (by omega) hr' (ho ok) hb (by omega) (pre_len hpre) (by omega) (pre_top hpre tb (by omega))
end
end Sm

set_option Elab.async false
set_option linter.all false
set_option maxRecDepth 100000
set_option maxHeartbeats 16000000
namespace Sm
open PySem PySem.Spec PyProof.Rows L2
open C8 (pss_cut tCut)
def optV : Option Nat → V
  | none => .non
  | some x => .int (x : Int)
theorem vl_topW {T : List Int} {p : Nat} {r : Int} (o : RuleOk T p r) (b : RB T p r) : ∀ x : Nat, vl T p r x ≤ 1000000000000000 * ((x : Int) + 2) := by
  intro x
  induction x using Nat.strongRecOn with
  | _ x ih =>
    have p0 := o.p0
    have p1 := o.p1
    have r1 := b.r1
    by_cases q : x < T.length
    · rw [vl_lt q]
      have := b.top x q
      omega
    · rw [vl_step p0 o.p1 (by omega)]
      have := ih (x - p) (by have := o.p1; omega)
      omega
def vals (T : List Int) (p : Nat) (r : Int) (n : Nat) : List Int := (List.range n).map (vl T p r)
def sp_begin_of (_ : PySem.W.Frag) : Sp := fun vs H Q _ => ∃ (d : Addr) (T : List Int) (p : Nat) (r : Int), vs = [.ref d] ∧ RuleAt H d T p r ∧ p ≤ T.length ∧ Q (.int ((T.length - p : Nat) : Int)) H
def sp_rise_in (_ : PySem.W.Frag) : Sp := fun vs H Q _ => ∃ (d : Addr) (T : List Int) (p : Nat) (r : Int) (t : Nat), vs = [.ref d, .int (t : Int)] ∧ RuleAt H d T p r ∧ RuleW T p r ∧ RB T p r ∧ Q (.int (r * ((t / p : Nat) : Int))) H
def sp_common_turn (_ : PySem.W.Frag) : Sp := fun vs H Q _ => ∃ (d1 d2 : Addr) (T1 T2 : List Int) (p1 p2 : Nat) (r1 r2 : Int), vs = [.ref d1, .ref d2] ∧ RuleAt H d1 T1 p1 r1 ∧ RuleAt H d2 T2 p2 r2 ∧ p1 ≤ T1.length ∧ p2 ≤ T2.length ∧ p1 ≤ 40 ∧ p2 ≤ 40 ∧
  ∀ H' q, Same H H' → H' q = some (.tup [.int ((max (T1.length - p1) (T2.length - p2) : Nat) : Int), .int ((Nat.lcm p1 p2 : Nat) : Int)]) → Q (.ref q) H'
def sp_values_to (_ : PySem.W.Frag) : Sp := fun vs H Q _ => ∃ (d : Addr) (T : List Int) (p : Nat) (r : Int) (n : Nat), vs = [.ref d, .int (n : Int)] ∧ RuleAt H d T p r ∧ RuleW T p r ∧ RB T p r ∧ n ≤ 5000 ∧
  ∀ H' q, Same H H' → (∀ b o, H b = some o → b ≠ q) → H' q = some (.lst ((vals T p r n).map V.int)) → Q (.ref q) H'
def sp_first_above (_ : PySem.W.Frag) : Sp := fun vs H Q _ => ∃ (d1 d2 : Addr) (T1 T2 : List Int) (p1 p2 : Nat) (r1 r2 : Int), vs = [.ref d1, .ref d2] ∧ RuleAt H d1 T1 p1 r1 ∧ RuleAt H d2 T2 p2 r2 ∧ RuleOk T1 p1 r1 ∧ RuleOk T2 p2 r2 ∧ RB T1 p1 r1 ∧ RB T2 p2 r2 ∧ p1 ≤ 40 ∧ p2 ≤ 40 ∧
  ∀ H' o, Same H H' → IsFst T1 p1 r1 T2 p2 r2 o → (∀ x, o = some x → x ≤ 1000000000000000000000000000000) → Q (optV o) H'
section
variable {X : Cx}
theorem cr_lcm : CallR X (.builtin "math.lcm") (fun vs H Q => ∃ a b : Nat, vs = [.int (a : Int), .int (b : Int)] ∧ a < 1000000 ∧ b < 1000000 ∧ Q (.int ((Nat.lcm a b : Nat) : Int)) H) := by
  intro pins s σ H vs us Q I r h
  obtain ⟨a, b, rfl, ha, hb, q⟩ := h
  obtain ⟨t, u, rfl⟩ := Vals.int2 r
  refine PySem.W.mc_lcm (by omega) (by omega) fun _ => ?_
  rw [Int.natAbs_natCast, Int.natAbs_natCast]
  exact ⟨.int _, H, I.tok _, ⟨_, rfl⟩, q⟩
end
theorem vals_len (T : List Int) (p : Nat) (r : Int) (n : Nat) : (vals T p r n).length = n := by unfold vals; rw [List.length_map, List.length_range]
theorem vals_get {T : List Int} {p : Nat} {r : Int} {n i : Nat} (h : i < n) : ((vals T p r n).map V.int)[i]? = some (.int (vl T p r i)) := by
  unfold vals
  rw [List.getElem?_map, List.getElem?_map, List.getElem?_range h]
  rfl
theorem vals_take {T : List Int} {p : Nat} {r : Int} {n : Nat} (h : n ≤ T.length) : T.take n = vals T p r n := by
  refine List.ext_getElem? fun i => ?_
  unfold vals
  by_cases q : i < n
  · rw [List.getElem?_take_of_lt q, List.getElem?_map, List.getElem?_range q, List.getElem?_eq_getElem (by omega)]
    show some _ = some (vl T p r i)
    rw [vl_lt (by omega), List.getD_eq_getElem?_getD, List.getElem?_eq_getElem (by omega)]
    rfl
  · rw [List.getElem?_eq_none (by rw [List.length_take]; omega), List.getElem?_eq_none (by rw [List.length_map, List.length_range]; omega)]
theorem vals_succ {T : List Int} {p : Nat} {r : Int} {n : Nat} : vals T p r (n + 1) = vals T p r n ++ [vl T p r n] := by
  unfold vals
  rw [List.range_succ, List.map_append]
  rfl
section
variable {P : Program} {w : World} {K : PySem.W.Frag} {mg : Str → Option Value} {base : Heap}
abbrev s_begin_of : Stmt := topS 4
abbrev N_begin_of : List Str := ["rule"]
theorem sc_begin_of : FnScope N_begin_of ["rule"] (defScope s_begin_of) := ⟨rfl, rfl, rfl, by decide +kernel, rfl, by decide +kernel, by decide +kernel⟩
theorem ok_begin_of (T : Txt mg) (D : Df K mg "begin_of" s_begin_of ["rule"]) : Cal P w K mg base "begin_of" ["rule"] 1 (sp_begin_of K) := by
  refine D.cal sc_begin_of (fun vs H Q E h => ?_) (fun f cdv A outer s H vs Q E hr h => ?_)
  · obtain ⟨d, T0, p, r, rfl, _⟩ := h
    rfl
  obtain ⟨d, T0, p, r, rfl, ⟨t, hd, ht⟩, p1, k⟩ := h
  refine ⟨_, (pss_one (ps_ret (pe_op op_sub (pe_callB call_len_seq (by rfl) T.n_len (by decide +kernel) (pa_cons (pe_ix ix_tup (pv 0) pe_int (fun _ _ => rfl)) pa_nil)) (pe_ix ix_tup (pv 0) pe_int (fun _ _ => rfl))))), ?_⟩
  refine ⟨_, rfl, _, _, _, _, rfl, rfl, SqT.of hd, atI_nat (j := 0) rfl, _, _, rfl, .inr (SqT.of ht), _, rfl, _, _, _, _, rfl, rfl, SqT.of hd, atI_nat (j := 1) rfl, _, _, rfl, rfl, ?_⟩
  have e : (((T0.map V.int).length : Nat) : Int) - (p : Int) = ((T0.length - p : Nat) : Int) := by rw [len_int]; omega
  have k := k
  rw [← e] at k
  exact k
abbrev s_rise_in : Stmt := topS 5
abbrev N_rise_in : List Str := ["rule", "turn"]
theorem sc_rise_in : FnScope N_rise_in ["rule", "turn"] (defScope s_rise_in) := ⟨rfl, rfl, rfl, by decide +kernel, rfl, by decide +kernel, by decide +kernel⟩
theorem ok_rise_in (T : Txt mg) (D : Df K mg "rise_in" s_rise_in ["rule", "turn"]) : Cal P w K mg base "rise_in" ["rule", "turn"] 1 (sp_rise_in K) := by
  refine D.cal sc_rise_in (fun vs H Q E h => ?_) (fun f cdv A outer s H vs Q E hr h => ?_)
  · obtain ⟨d, T0, p, r, t, rfl, _⟩ := h
    rfl
  obtain ⟨d, T0, p, r, n, rfl, ⟨t, hd, ht⟩, o, b, k⟩ := h
  refine ⟨_, (pss_one (ps_ret (pe_op op_mul (pe_ix ix_tup (pv 0) pe_int (fun _ _ => rfl)) (pe_op op_fdivW (pv 1) (pe_ix ix_tup (pv 0) pe_int (fun _ _ => rfl)))))), ?_⟩
  exact ⟨_, rfl, _, _, _, _, rfl, rfl, SqT.of hd, atI_nat (j := 2) rfl, _, rfl, _, rfl, _, _, _, _, rfl, rfl, SqT.of hd, atI_nat (j := 1) rfl, _, _, rfl, rfl, b.div o, _, _, rfl, rfl, b.mulR' o, k⟩
abbrev s_common_turn : Stmt := topS 6
abbrev N_common_turn : List Str := ["one", "other"]
theorem sc_common_turn : FnScope N_common_turn ["one", "other"] (defScope s_common_turn) := ⟨rfl, rfl, rfl, by decide +kernel, rfl, by decide +kernel, by decide +kernel⟩
theorem ok_common_turn (T : Txt mg) (D : Df K mg "common_turn" s_common_turn ["one", "other"]) (C_begin_of : Cal P w K mg base "begin_of" ["rule"] 1 (sp_begin_of K)) : Cal P w K mg base "common_turn" ["one", "other"] 2 (sp_common_turn K) := by
  obtain ⟨f_begin_of, fd_begin_of, G_begin_of, m_begin_of, k_begin_of, b_begin_of⟩ := C_begin_of
  refine D.cal sc_common_turn (fun vs H Q E h => ?_) (fun f cdv A outer s H vs Q E hr h => ?_)
  · obtain ⟨d1, d2, T1, T2, p1, p2, r1, r2, rfl, _⟩ := h
    rfl
  obtain ⟨d1, d2, T1, T2, p1, p2, r1, r2, rfl, R1, R2, l1, l2, b1, b2, k⟩ := h
  obtain ⟨t1, hd1, ht1⟩ := id R1
  obtain ⟨t2, hd2, ht2⟩ := id R2
  refine ⟨_, (pss_one (ps_ret (pe_tup (pa_cons (pe_callB (call_max2 rfl) (by rfl) T.n_max (by decide +kernel) (pa_cons (pe_call G_begin_of (hr.mono (by decide)) (by rfl) m_begin_of k_begin_of b_begin_of .nil pass0 (pa_cons (pv 0) pa_nil)) (pa_cons (pe_call G_begin_of (hr.mono (by decide)) (by rfl) m_begin_of k_begin_of b_begin_of .nil pass0 (pa_cons (pv 1) pa_nil)) pa_nil))) (pa_cons (pe_callBfun cr_lcm (by rfl) T.g_lcm (pa_cons (pe_ix ix_tup (pv 0) pe_int (fun _ _ => rfl)) (pa_cons (pe_ix ix_tup (pv 1) pe_int (fun _ _ => rfl)) pa_nil))) pa_nil))))), ?_⟩
  refine ⟨_, rfl, d1, T1, p1, r1, rfl, R1, l1, _, rfl, d2, T2, p2, r2, rfl, R2, l2, _, _, rfl, ?_⟩
  refine ⟨_, rfl, _, _, _, _, rfl, rfl, SqT.of hd1, atI_nat (j := 1) rfl, _, rfl, _, _, _, _, rfl, rfl, SqT.of hd2, atI_nat (j := 1) rfl, p1, p2, rfl, by omega, by omega, (by show 2 ≤ sizeLine; decide), fun q nq => ?_⟩
  have e : (if ((T2.length - p2 : Nat) : Int) > ((T1.length - p1 : Nat) : Int) then ((T2.length - p2 : Nat) : Int) else ((T1.length - p1 : Nat) : Int)) = ((max (T1.length - p1) (T2.length - p2) : Nat) : Int) := by
    split <;> omega
  refine k _ q (same_upd nq) ?_
  rw [← e]
  exact upd_same
abbrev s_values_to : Stmt := topS 2
abbrev N_values_to : List Str := ["rule", "count", "table", "period", "rise", "values", "x"]
theorem sc_values_to : FnScope N_values_to ["rule", "count"] (defScope s_values_to) := ⟨rfl, rfl, rfl, by decide +kernel, rfl, by decide +kernel, by decide +kernel⟩
theorem ok_values_to (T : Txt mg) (D : Df K mg "values_to" s_values_to ["rule", "count"]) : Cal P w K mg base "values_to" ["rule", "count"] 1 (sp_values_to K) := by
  refine D.cal sc_values_to (fun vs H Q E h => ?_) (fun f cdv A outer s H vs Q E hr h => ?_)
  · obtain ⟨d, T0, p, r, n, rfl, _⟩ := h
    rfl
  obtain ⟨d, T0, p, r, n, rfl, ⟨t, hd, ht⟩, o, b, nb, k⟩ := h
  have p0 := o.p0
  have p1 := o.p1
  have bl := b.len
  have ll := len_int T0
  have lm : (T0.map V.int).length = T0.length := List.length_map ..
  refine ⟨_, (pss_cons (ps_asg (pv 0) (pg_tup (by rfl) (pgs_cons (pg_name (i := 2) sc_values_to.nd rfl (Or.inl rfl)) (pgs_cons (pg_name (i := 3) sc_values_to.nd rfl (Or.inl rfl)) (pgs_cons (pg_name (i := 4) sc_values_to.nd rfl (Or.inl rfl)) pgs_nil)))))
    (pss_cut (ps_set (i := 5) sc_values_to.nd rfl (Or.inl rfl) (pe_callTy call_list_of (by rfl) T.n_list (by decide +kernel) (pa_cons (pe_slice sl_tupA (pv 2) po_none (po_some (pv 1))) pa_nil)))
    (pss_cons (ps_for PassesOwn.never rfl (pi_range2 (by rfl) T.n_range (pa_cons (pe_callB call_len_seq (by rfl) T.n_len (by decide +kernel) (pa_cons (pv 2) pa_nil)) (pa_cons (pv 1) pa_nil))) (pg_name (i := 6) sc_values_to.nd rfl (Or.inl rfl))
      (pss_one (ps_expr (pe_bm PySem.F.plainAttrs_list PySem.F.slot_list_append PySem.F.type_list_append mt_append (pv 5) (pa_cons (pe_op op_add (pe_ix ix_list (pv 5) (pe_op op_sub (pv 6) (pv 3)) (fun _ _ => rfl)) (pv 4)) pa_nil)))))
    (pss_one (ps_ret (pv 5)))))), ?_⟩
  refine ⟨_, rfl, _, _, rfl, SqT.of hd, rfl, _, _, rfl, _, _, rfl, _, _, rfl, rfl, ?_⟩
  refine ⟨fun σ H1 => ∃ q, σ = [some (.ref d), some (.int (n : Int)), some (.ref t), some (.int (p : Int)), some (.int r), some (.ref q), none] ∧ Same H H1 ∧ (∀ b o, H b = some o → b ≠ q) ∧ H1 q = some (.lst ((vals T0 p r (min n T0.length)).map V.int)), ?_, ?_⟩
  · have tk : (T0.map V.int).take n = (vals T0 p r (min n T0.length)).map V.int := by
      rw [← vals_take (Nat.min_le_right ..), ← List.map_take]
      congr 1
      rcases Nat.le_total n T0.length with h | h
      · rw [Nat.min_eq_left h]
      · rw [Nat.min_eq_right h, List.take_length, List.take_of_length_le h]
    refine ⟨_, rfl, _, rfl, _, rfl, _, _, rfl, SqT.of ht, fun wh => ?_, fun _ q1 nq1 => ?_⟩
    · have w2 : (T0.map V.int).take n = T0.map V.int := by
        have := wh.2
        rw [HT.sIx_nat] at this
        exact List.take_of_length_le (by omega)
      refine ⟨_, _, rfl, .inr (SqT.of ht), fun q nq => ⟨q, rfl, same_upd nq, fun b o h => ne_of_none h nq, ?_⟩⟩
      rw [upd_same, ← w2, tk]
    · have s1 := same_upd (o := .tup (cutV (T0.map V.int) none (some (n : Int)))) nq1
      refine ⟨_, _, rfl, .inr (SqT.of upd_same), fun q nq => ⟨q, rfl, s1.trans (same_upd nq), fun b o h => ne_of_none (s1 _ _ h) nq, ?_⟩⟩
      rw [upd_same, cut_all, tk]
  · rintro σ H1 ⟨q, rfl, s1, ne, hq⟩
    have ht1 := s1 _ _ ht
    refine ⟨_, rfl, _, _, rfl, .inr (SqT.of ht1), _, rfl, _, _, rfl, ⟨by rw [ll]; omega, by rw [ll]; omega, by omega, by omega⟩, ?_⟩
    refine for_range (lo := _) (n := _) (fun i σ H2 => ∃ v, σ = [some (.ref d), some (.int (n : Int)), some (.ref t), some (.int (p : Int)), some (.int r), some (.ref q), v] ∧ Same H H2 ∧ H2 q = some (.lst ((vals T0 p r (min n T0.length + i)).map V.int)))
      ⟨none, rfl, s1, hq⟩ ?_ ?_
    · rintro i σ H2 hi ⟨v, rfl, s2, hq2⟩
      rw [ll] at hi
      have hi : T0.length + i < n := by omega
      have em : min n T0.length = T0.length := by omega
      rw [em] at hq2 ⊢
      have e1 : (((T0.map V.int).length : Nat) : Int) + (i : Int) - (p : Int) = ((T0.length + i - p : Nat) : Int) := by rw [ll]; omega
      refine ⟨_, rfl, .inl ⟨rfl, _, SqL.of hq2⟩, _, rfl, _, rfl, _, rfl, _, _, rfl, rfl, _, _, _, _, rfl, rfl, SqL.of hq2, at_of e1 (vals_get (by omega)), _, rfl, _, _, rfl, rfl, q, _, _, rfl, rfl, hq2, ?_, _, rfl, fun b o h => ?_, ?_⟩
      · rw [List.length_map, vals_len]
        exact Nat.lt_of_le_of_lt (show T0.length + i ≤ 5000 by omega) (by decide)
      · rw [upd_ne (ne b o h)]
        exact s2 _ _ h
      · rw [upd_same, ← Nat.add_assoc, vals_succ, List.map_append, vl_step (x := T0.length + i) p0 p1 (by omega)]
        rfl
    · rintro σ H2 ⟨v, rfl, s2, hq2⟩
      refine ⟨_, rfl, k H2 q s2 ne ?_⟩
      rw [hq2, ll]
      congr 4
      omega
end
end Sm

set_option Elab.async false
set_option linter.all false
set_option maxRecDepth 100000
set_option maxHeartbeats 16000000
namespace Sm
open PySem PySem.Spec PyProof.Rows L2
section
variable {P : Program} {w : World} {K : PySem.W.Frag} {mg : Str → Option Value} {base : Heap}
abbrev s_first_above : Stmt := topS 3
abbrev N_first_above : List Str := ["one", "other", "begin", "turn", "left", "right", "x", "gain"]
theorem sc_first_above : FnScope N_first_above ["one", "other"] (defScope s_first_above) := ⟨rfl, rfl, rfl, by decide +kernel, rfl, by decide +kernel, by decide +kernel⟩
theorem ok_first_above (T : Txt mg) (D : Df K mg "first_above" s_first_above ["one", "other"]) (C_rise_in : Cal P w K mg base "rise_in" ["rule", "turn"] 1 (sp_rise_in K)) (C_values_to : Cal P w K mg base "values_to" ["rule", "count"] 1 (sp_values_to K)) (C_common_turn : Cal P w K mg base "common_turn" ["one", "other"] 2 (sp_common_turn K)) : Cal P w K mg base "first_above" ["one", "other"] 3 (sp_first_above K) := by
  obtain ⟨f_rise_in, fd_rise_in, G_rise_in, m_rise_in, k_rise_in, b_rise_in⟩ := C_rise_in
  obtain ⟨f_values_to, fd_values_to, G_values_to, m_values_to, k_values_to, b_values_to⟩ := C_values_to
  obtain ⟨f_common_turn, fd_common_turn, G_common_turn, m_common_turn, k_common_turn, b_common_turn⟩ := C_common_turn
  refine D.cal sc_first_above (fun vs H Q E h => ?_) (fun f cdv A outer s H vs Q E hr h => ?_)
  · obtain ⟨d1, d2, T1, T2, p1, p2, r1, r2, rfl, _⟩ := h
    rfl
  obtain ⟨d1, d2, T1, T2, p1, p2, r1, r2, rfl, R1, R2, o1, o2, b1, b2, c1, c2, k⟩ := h
  have w1 := o1.w
  have w2 := o2.w
  have l1 := w1.p1
  have l2 := w2.p1
  have z1 := w1.p0
  have z2 := w2.p0
  have bl1 := b1.len
  have bl2 := b2.len
  -- the common turn
  obtain ⟨ka, hka⟩ := Nat.dvd_lcm_left p1 p2
  obtain ⟨kb, hkb⟩ := Nat.dvd_lcm_right p1 p2
  have lcm0 : 0 < Nat.lcm p1 p2 := Nat.lcm_pos z1 z2
  have lcm1 : Nat.lcm p1 p2 ≤ 1600 := by
    have h1 : Nat.lcm p1 p2 ≤ p1 * p2 := PySem.W.mc_lcm_le p1 p2
    have h2 : p1 * p2 ≤ 40 * 40 := Nat.mul_le_mul c1 c2
    omega
  have da : Nat.lcm p1 p2 / p1 = ka := by rw [hka]; exact Nat.mul_div_cancel_left ka z1
  have db : Nat.lcm p1 p2 / p2 = kb := by rw [hkb]; exact Nat.mul_div_cancel_left kb z2
  have ea : ka * p1 = Nat.lcm p1 p2 := by rw [Nat.mul_comm]; exact hka.symm
  have eb : kb * p2 = Nat.lcm p1 p2 := by rw [Nat.mul_comm]; exact hkb.symm
  have ka1 : ka ≤ 1600 := Nat.le_trans (by rw [← da]; exact Nat.div_le_self _ _) lcm1
  have kb1 : kb ≤ 1600 := Nat.le_trans (by rw [← db]; exact Nat.div_le_self _ _) lcm1
  have turn0 : ∀ x, max (T1.length - p1) (T2.length - p2) ≤ x → gp T1 p1 r1 T2 p2 r2 (x + ka * p1) = gp T1 p1 r1 T2 p2 r2 x + ((ka : Int) * r1 - (kb : Int) * r2) := fun x hx => gp_turn w1 w2 (by omega) (by omega) (ea.trans eb.symm) hx
  rw [ea] at turn0
  refine ⟨_, (pss_cons (ps_asg (pe_call G_common_turn (hr.mono (by decide)) (by rfl) m_common_turn k_common_turn b_common_turn .nil pass0 (pa_cons (pv 0) (pa_cons (pv 1) pa_nil))) (pg_tup (by rfl) (pgs_cons (pg_name (i := 2) sc_first_above.nd rfl (Or.inl rfl)) (pgs_cons (pg_name (i := 3) sc_first_above.nd rfl (Or.inr rfl)) pgs_nil))))
    (pss_cons (ps_set (i := 4) sc_first_above.nd rfl (Or.inr rfl) (pe_call G_values_to (hr.mono (by decide)) (by rfl) m_values_to k_values_to b_values_to .nil pass0 (pa_cons (pv 0) (pa_cons (pe_op op_add (pv 2) (pv 3)) pa_nil))))
    (pss_cons (ps_set (i := 5) sc_first_above.nd rfl (Or.inr rfl) (pe_call G_values_to (hr.mono (by decide)) (by rfl) m_values_to k_values_to b_values_to .nil pass0 (pa_cons (pv 1) (pa_cons (pe_op op_add (pv 2) (pv 3)) pa_nil))))
    (pss_cons (ps_for PassesOwn.never rfl (pi_range1 (by rfl) T.n_range (pa_cons (pe_op op_add (pv 2) (pv 3)) pa_nil)) (pg_name (i := 6) sc_first_above.nd rfl (Or.inl rfl))
      (pss_one (ps_if (pt_cmpR op_gt (pe_ix ix_list (pv 4) (pv 6) (fun _ _ => rfl)) (pe_ix ix_list (pv 5) (pv 6) (fun _ _ => rfl)) (nomark _)) (pss_one (ps_ret (pv 6))) pss_nil)))
    (pss_cons (ps_set (i := 7) sc_first_above.nd rfl (Or.inr rfl) (pe_op op_sub (pe_call G_rise_in (hr.mono (by decide)) (by rfl) m_rise_in k_rise_in b_rise_in .nil pass0 (pa_cons (pv 0) (pa_cons (pv 3) pa_nil))) (pe_call G_rise_in (hr.mono (by decide)) (by rfl) m_rise_in k_rise_in b_rise_in .nil pass0 (pa_cons (pv 1) (pa_cons (pv 3) pa_nil)))))
    (pss_cons (ps_if (pt_cmpR op_le (pv 7) pe_int (nomark _)) (pss_one (ps_ret pe_non)) pss_nil)
    (pss_one (ps_ret (pe_callB (cr_min rfl) (by rfl) T.n_min (by decide +kernel) (pa_cons (pe_lc (own := [("x", 6)]) (g := gName 6) (tt := tYes) rfl sc_first_above.nd (pi_range2 (by rfl) T.n_range (pa_cons (pv 2) (pa_cons (pe_op op_add (pv 2) (pv 3)) pa_nil))) (blkOk_by (own := [("x", 6)]) (N := N_first_above) (sc := defScope s_first_above) (by decide +kernel)) (fun _ _ _ _ _ => pg_name (i := 6) sc_first_above.nd rfl (Or.inl rfl)) (fun _ _ _ _ _ => pts_nil) (fun _ _ _ _ _ => (pe_op op_add (pv 6) (pe_op op_mul (pv 3) (pe_op op_add (pe_op op_fdivW (pe_op op_sub (pe_ix (show IxR _ (rIxL K) from ix_list) (pv 5) (pv 6) (fun _ _ => rfl)) (pe_ix (show IxR _ (rIxL K) from ix_list) (pv 4) (pv 6) (fun _ _ => rfl))) (pv 7)) pe_int))))) pa_nil)))))))))), ?_⟩
  refine ⟨_, rfl, _, rfl, d1, d2, T1, T2, p1, p2, r1, r2, rfl, R1, R2, l1, l2, c1, c2, fun H1 q1 s1 hq1 => ?_⟩
  refine ⟨_, _, rfl, SqT.of hq1, rfl, _, _, rfl, _, _, rfl, rfl, ?_⟩
  generalize hB : max (T1.length - p1) (T2.length - p2) = B at turn0
  generalize hL : Nat.lcm p1 p2 = t at lcm0 lcm1 turn0 da db
  have Bb : B ≤ 300 := by omega
  -- left, right
  refine ⟨_, rfl, _, rfl, _, rfl, _, _, rfl, rfl, d1, T1, p1, r1, B + t, rfl, R1.same s1, w1, b1, by omega, fun H2 L s2 nL hL2 => ?_⟩
  refine ⟨_, rfl, _, rfl, _, rfl, _, _, rfl, rfl, d2, T2, p2, r2, B + t, rfl, (R2.same s1).same s2, w2, b2, by omega, fun H3 M s3 nM hM => ?_⟩
  have hL3 := s3 _ _ hL2
  have s := s1.trans (s2.trans s3)
  have gx : ∀ x : Nat, vl T1 p1 r1 x - vl T2 p2 r2 x = gp T1 p1 r1 T2 p2 r2 x := fun _ => rfl
  -- the first amounts
  refine ⟨_, rfl, _, rfl, _, _, rfl, rfl, _, rfl, (by omega), (by omega), ?_⟩
  refine for_range (lo := 0) (n := _) (fun i σ H' => H' = H3 ∧ ∃ v, σ = [some (.ref d1), some (.ref d2), some (.int (B : Int)), some (.int (t : Int)), some (.ref L), some (.ref M), v, none] ∧ ∀ x, x < i → gp T1 p1 r1 T2 p2 r2 x ≤ 0)
    ⟨rfl, none, rfl, fun x hx => absurd hx (Nat.not_lt_zero _)⟩ ?_ ?_
  · rintro i σ H' hi ⟨rfl, v, rfl, early⟩
    have hi : i < B + t := by omega
    refine ⟨_, rfl, _, rfl, _, _, _, _, rfl, rfl, SqL.of hL3, at_of (Int.zero_add _) (vals_get hi), _, rfl, _, rfl, _, _, _, _, rfl, rfl, SqL.of hM, at_of (Int.zero_add _) (vals_get hi), _, _, rfl, rfl, _, rfl, ite3 (fun e => ?_) (fun e => ?_)⟩
    · have q := k H' (some i) s ⟨by unfold gp; omega, early⟩ (fun x hx => by have := Option.some.inj hx; omega)
      have zi : (0 : Int) + (i : Int) = (i : Int) := Int.zero_add _
      refine ⟨_, rfl, ?_⟩
      rw [zi]
      exact q
    · refine ⟨rfl, _, rfl, fun x hx => ?_⟩
      by_cases q : x = i
      · rw [q]
        unfold gp
        omega
      · exact early x (by omega)
  rintro σ H' ⟨rfl, v, rfl, early⟩
  have early : ∀ x, x < B + t → gp T1 p1 r1 T2 p2 r2 x ≤ 0 := fun x hx => early x (by omega)
  have R1' := R1.same s
  have R2' := R2.same s
  -- gain
  refine ⟨_, rfl, _, rfl, d1, T1, p1, r1, t, rfl, R1', w1, b1, ?_⟩
  refine ⟨_, rfl, _, rfl, d2, T2, p2, r2, t, rfl, R2', w2, b2, _, _, rfl, rfl, ?_⟩
  rw [da, db]
  have gg : r1 * (ka : Int) - r2 * (kb : Int) = (ka : Int) * r1 - (kb : Int) * r2 := by rw [Int.mul_comm r1, Int.mul_comm r2]
  have gtop : (ka : Int) * r1 ≤ 1600 * 1000000000000000 := Int.mul_le_mul (by omega) b1.r1 w1.r0 (by decide)
  have gbot : 0 ≤ (kb : Int) * r2 := Int.mul_nonneg (by omega) w2.r0
  generalize hg : (ka : Int) * r1 - (kb : Int) * r2 = g at turn0 gg
  have gb : g < 10000000000000000000 := by omega
  refine ⟨_, rfl, _, _, rfl, rfl, _, rfl, ite3 (fun e => ?_) (fun e => ?_)⟩
  · have e : r1 * (ka : Int) - r2 * (kb : Int) ≤ 0 := e
    exact k H' none s (none_of lcm0 turn0 (by omega) early) (fun x hx => nomatch hx)
  · have e : ¬ r1 * (ka : Int) - r2 * (kb : Int) ≤ 0 := e
    have g0 : 0 < g := by omega
    refine ⟨_, rfl, _, rfl, _, rfl, _, _, rfl, rfl, _, _, rfl, ⟨by omega, by omega, by omega, by omega⟩, fun U nU => ?_⟩
    have sU := same_upd (o := .lst []) nU
    have cnt : ((B : Int) + (t : Int) - (B : Int)).toNat = t := by omega
    rw [cnt]
    refine lc_range (lo := (B : Int)) (n := t) (fun j H2 => Same H' H2 ∧ H2 U = some (.lst (((List.range j).map fun i => ((B + i : Nat) : Int) + (t : Int) * ((-gp T1 p1 r1 T2 p2 r2 (B + i)) / g + 1)).map V.int))) ⟨sU, upd_same⟩ ?_ ?_
    · rintro j H2 hj ⟨sm', hU⟩
      refine ⟨rfl, ?_⟩
      unfold tYes
      refine iteT ?_
      have nn : vl T2 p2 r2 (B + j) - vl T1 p1 r1 (B + j) = -gp T1 p1 r1 T2 p2 r2 (B + j) := by unfold gp; omega
      refine ⟨_, rfl, _, rfl, _, rfl, _, rfl, _, _, _, _, rfl, rfl, SqL.of (sm' _ _ hM), at_of (j := B + j) rfl (vals_get (by omega)), _, rfl, _, rfl, _, _, _, _, rfl, rfl, SqL.of (sm' _ _ hL3), at_of (j := B + j) rfl (vals_get (by omega)), _, _, rfl, rfl, _, rfl, _, _, rfl, rfl, wide_div (b := 64) (by rw [gg]; exact g0) (by rw [gg]; omega) (by decide) (by decide), _, _, rfl, rfl, _, _, rfl, rfl, .inl ⟨by omega, by omega⟩, _, _, rfl, rfl, _, hU, ?_, fun b o e => ?_, ?_⟩
      · rw [List.length_map, List.length_map, List.length_range]
        exact Nat.lt_of_le_of_lt (show j ≤ 1600 by omega) (by decide)
      · rw [upd_ne (ne_of_none e nU)]
        exact sm' _ _ e
      · rw [upd_same, List.range_succ, List.map_append, List.map_append]
        show some (HO.lst (_ ++ [V.int ((B : Int) + (j : Int) + (t : Int) * ((vl T2 p2 r2 (B + j) - vl T1 p1 r1 (B + j)) / (r1 * (ka : Int) - r2 * (kb : Int)) + 1))])) = _
        rw [gg, nn]
        rfl
    · rintro H2 ⟨s2', hU⟩
      refine ⟨_, _, rfl, SqL.of hU, by rw [List.length_map, List.length_range]; exact lcm0, fun m hm hle => ?_⟩
      obtain ⟨i, hi, rfl⟩ := List.mem_map.mp hm
      have hi := List.mem_range.mp hi
      have q0 : 0 ≤ (-gp T1 p1 r1 T2 p2 r2 (B + i)) / g := Int.ediv_nonneg (by have := early (B + i) (by omega); omega) (by omega)
      have m0 : 0 ≤ ((B + i : Nat) : Int) + (t : Int) * ((-gp T1 p1 r1 T2 p2 r2 (B + i)) / g + 1) := Int.add_nonneg (by omega) (Int.mul_nonneg (by omega) (by omega))
      obtain ⟨m, em⟩ : ∃ m : Nat, ((B + i : Nat) : Int) + (t : Int) * ((-gp T1 p1 r1 T2 p2 r2 (B + i)) / g + 1) = (m : Int) := ⟨_, (Int.toNat_of_nonneg m0).symm⟩
      rw [em] at hle ⊢
      refine k H2 (some m) (s.trans s2') (some_of lcm0 turn0 g0 early ⟨B + i, by omega, by omega, em.symm⟩ fun x h1 h2 => ?_) (fun x hx => ?_)
      rotate_left
      · have hx := Option.some.inj hx
        have g1 : -gp T1 p1 r1 T2 p2 r2 (B + i) ≤ 1000000000000000 * 2000 := by
          unfold gp
          have := vl_topW o2 b2 (B + i)
          have := o1.pos (B + i)
          omega
        have g2 : (-gp T1 p1 r1 T2 p2 r2 (B + i)) / g ≤ 1000000000000000 * 2000 := Int.le_trans (Int.ediv_le_self _ (by have := early (B + i) (by omega); omega)) g1
        have g3 : (t : Int) * ((-gp T1 p1 r1 T2 p2 r2 (B + i)) / g + 1) ≤ 1600 * (1000000000000000 * 2000 + 1) := Int.mul_le_mul (by omega) (by omega) (by omega) (by decide)
        omega
      have := hle _ (List.mem_map.mpr ⟨x - B, List.mem_range.mpr (by omega), rfl⟩)
      rw [show B + (x - B) = x by omega] at this
      exact this
end
end Sm

set_option Elab.async false
set_option linter.all false
set_option maxRecDepth 100000
set_option maxHeartbeats 16000000
namespace Sm
open PySem PySem.Spec PyProof.Rows L2
def sp_l_gap (_ : PySem.W.Frag) : Sp := fun vs H Q _ => ∃ (d1 d2 : Addr) (T1 T2 : List Int) (p1 p2 : Nat) (r1 r2 : Int) (x : Nat), vs = [.ref d1, .ref d2, .int (x : Int)] ∧ RuleAt H d1 T1 p1 r1 ∧ RuleAt H d2 T2 p2 r2 ∧ RuleW T1 p1 r1 ∧ RuleW T2 p2 r2 ∧ RB T1 p1 r1 ∧ RB T2 p2 r2 ∧
  Q (.int (gp T1 p1 r1 T2 p2 r2 x)) H
def sp_l_is_first (_ : PySem.W.Frag) : Sp := fun vs H Q _ => ∃ (d1 d2 : Addr) (T1 T2 : List Int) (p1 p2 : Nat) (r1 r2 : Int) (o : Option Nat), vs = [.ref d1, .ref d2, optV o] ∧ RuleAt H d1 T1 p1 r1 ∧ RuleAt H d2 T2 p2 r2 ∧ RuleW T1 p1 r1 ∧ RuleW T2 p2 r2 ∧ RB T1 p1 r1 ∧ RB T2 p2 r2 ∧ p1 ≤ 40 ∧ p2 ≤ 40 ∧
  IsFst T1 p1 r1 T2 p2 r2 o ∧ ∀ H', Same H H' → Q (.bl true) H'
theorem slope {T1 T2 : List Int} {p1 p2 : Nat} {r1 r2 : Int} (w1 : RuleW T1 p1 r1) (w2 : RuleW T2 p2 r2) (h : ∀ x, gp T1 p1 r1 T2 p2 r2 x ≤ 0) : r1 * (p2 : Int) - r2 * (p1 : Int) ≤ 0 := by
  rcases Int.lt_or_le 0 (r1 * (p2 : Int) - r2 * (p1 : Int)) with q | q
  · exfalso
    have t0 := fun x hx => gp_turn (B := max (T1.length - p1) (T2.length - p2)) (a := p2) (b := p1) (x := x) w1 w2 (by omega) (by omega) (Nat.mul_comm _ _) hx
    rw [show (p2 : Int) * r1 - (p1 : Int) * r2 = r1 * (p2 : Int) - r2 * (p1 : Int) by rw [Int.mul_comm, Int.mul_comm (p1 : Int)]] at t0
    have t1 := gp_turns (t := p2 * p1) t0 (Nat.le_refl _) ((-gp T1 p1 r1 T2 p2 r2 (max (T1.length - p1) (T2.length - p2))).toNat + 1)
    have e := h (max (T1.length - p1) (T2.length - p2) + ((-gp T1 p1 r1 T2 p2 r2 (max (T1.length - p1) (T2.length - p2))).toNat + 1) * (p2 * p1))
    rw [t1] at e
    have m : (((-gp T1 p1 r1 T2 p2 r2 (max (T1.length - p1) (T2.length - p2))).toNat + 1 : Nat) : Int) * 1 ≤ (((-gp T1 p1 r1 T2 p2 r2 (max (T1.length - p1) (T2.length - p2))).toNat + 1 : Nat) : Int) * (r1 * (p2 : Int) - r2 * (p1 : Int)) := Int.mul_le_mul_of_nonneg_left (by omega) (by omega)
    omega
  · exact q
section
variable {P : Program} {w : World} {K : PySem.W.Frag} {mg : Str → Option Value} {base : Heap}
abbrev s_l_gap : Stmt := topS 15
abbrev N_l_gap : List Str := ["_law_one_here", "_law_other", "_law_x"]
theorem sc_l_gap : FnScope N_l_gap ["_law_one_here", "_law_other", "_law_x"] (defScope s_l_gap) := ⟨rfl, rfl, rfl, by decide +kernel, rfl, by decide +kernel, by decide +kernel⟩
theorem ok_l_gap (T : Txt mg) (D : Df K mg "_law_gap" s_l_gap ["_law_one_here", "_law_other", "_law_x"]) (C_l_value : Cal P w K mg base "_law_value" ["_law_rule_here", "_law_x"] 1 (sp_l_value K)) : Cal P w K mg base "_law_gap" ["_law_one_here", "_law_other", "_law_x"] 2 (sp_l_gap K) := by
  obtain ⟨f_l_value, fd_l_value, G_l_value, m_l_value, k_l_value, b_l_value⟩ := C_l_value
  refine D.cal sc_l_gap (fun vs H Q E h => ?_) (fun f cdv A outer s H vs Q E hr h => ?_)
  · obtain ⟨d1, d2, T1, T2, p1, p2, r1, r2, x, rfl, _⟩ := h
    rfl
  obtain ⟨d1, d2, T1, T2, p1, p2, r1, r2, x, rfl, R1, R2, w1, w2, b1, b2, k⟩ := h
  refine ⟨_, (pss_one (ps_ret (pe_op op_sub (pe_call G_l_value (hr.mono (by decide)) (by rfl) m_l_value k_l_value b_l_value .nil pass0 (pa_cons (pv 0) (pa_cons (pv 2) pa_nil))) (pe_call G_l_value (hr.mono (by decide)) (by rfl) m_l_value k_l_value b_l_value .nil pass0 (pa_cons (pv 1) (pa_cons (pv 2) pa_nil)))))), ?_⟩
  exact ⟨_, rfl, _, rfl, d1, T1, p1, r1, x, rfl, R1, w1, b1, _, rfl, _, rfl, d2, T2, p2, r2, x, rfl, R2, w2, b2, _, _, rfl, rfl, k⟩
abbrev s_l_is_first : Stmt := topS 16
abbrev N_l_is_first : List Str := ["_law_one_here", "_law_other", "_law_told", "_law_begin", "_law_period", "_law_more", "_law_early", "_law_near", "_law_last", "_law_x"]
theorem sc_l_is_first : FnScope N_l_is_first ["_law_one_here", "_law_other", "_law_told"] (defScope s_l_is_first) := ⟨rfl, rfl, rfl, by decide +kernel, rfl, by decide +kernel, by decide +kernel⟩
theorem ok_l_is_first (T : Txt mg) (D : Df K mg "_law_is_first" s_l_is_first ["_law_one_here", "_law_other", "_law_told"]) (C_l_gap : Cal P w K mg base "_law_gap" ["_law_one_here", "_law_other", "_law_x"] 2 (sp_l_gap K)) : Cal P w K mg base "_law_is_first" ["_law_one_here", "_law_other", "_law_told"] 3 (sp_l_is_first K) := by
  obtain ⟨f_l_gap, fd_l_gap, G_l_gap, m_l_gap, k_l_gap, b_l_gap⟩ := C_l_gap
  refine D.cal sc_l_is_first (fun vs H Q E h => ?_) (fun f cdv A outer s H vs Q E hr h => ?_)
  · obtain ⟨d1, d2, T1, T2, p1, p2, r1, r2, o, rfl, _⟩ := h
    rfl
  obtain ⟨d1, d2, T1, T2, p1, p2, r1, r2, oo, rfl, R1, R2, w1, w2, b1, b2, c1, c2, fst, k⟩ := h
  obtain ⟨t1, hd1, ht1⟩ := id R1
  obtain ⟨t2, hd2, ht2⟩ := id R2
  have bl1 := b1.len
  have bl2 := b2.len
  have ll1 := len_int T1
  have ll2 := len_int T2
  have z1 := w1.p0
  have z2 := w2.p0
  have pp : ((p1 : Int) * (p2 : Int)) ≤ 40 * 40 := Int.mul_le_mul (by omega) (by omega) (by omega) (by decide)
  have pp0 : 0 ≤ (p1 : Int) * (p2 : Int) := Int.mul_nonneg (by omega) (by omega)
  refine ⟨_, (pss_cons (ps_par (i := 3) (j := 4) (by rfl) sc_l_is_first.nd rfl rfl (by decide) rfl rfl (pa_cons (pe_callB (call_max2 rfl) (by rfl) T.n_max (by decide +kernel) (pa_cons (pe_callB call_len_seq (by rfl) T.n_len (by decide +kernel) (pa_cons (pe_ix ix_tup (pv 0) pe_int (fun _ _ => rfl)) pa_nil)) (pa_cons (pe_callB call_len_seq (by rfl) T.n_len (by decide +kernel) (pa_cons (pe_ix ix_tup (pv 1) pe_int (fun _ _ => rfl)) pa_nil)) pa_nil))) (pa_cons (pe_op op_mul (pe_ix ix_tup (pv 0) pe_int (fun _ _ => rfl)) (pe_ix ix_tup (pv 1) pe_int (fun _ _ => rfl))) pa_nil)) (by rfl))
    (pss_cons (ps_set (i := 5) sc_l_is_first.nd rfl (Or.inl rfl) (pe_op op_sub (pe_op op_mul (pe_ix ix_tup (pv 0) pe_int (fun _ _ => rfl)) (pe_ix ix_tup (pv 1) pe_int (fun _ _ => rfl))) (pe_op op_mul (pe_ix ix_tup (pv 1) pe_int (fun _ _ => rfl)) (pe_ix ix_tup (pv 0) pe_int (fun _ _ => rfl)))))
    (pss_cons (ps_if (pt_cmpR op_isN (pv 2) pe_non (nomark _)) (pss_cons (ps_setLc (i := 6) (own := [("_law_x", 9)]) (g := gName 9) (tt := _) rfl sc_l_is_first.nd rfl rfl (sw_true rfl rfl rfl (by decide +kernel)) (pi_range1 (by rfl) T.n_range (pa_cons (pe_op op_add (pv 3) (pv 4)) pa_nil)) (blkOk_by (own := [("_law_x", 9)]) (N := N_l_is_first) (sc := defScope s_l_is_first) (by decide +kernel)) (fun _ _ _ _ _ => pg_name (i := 9) sc_l_is_first.nd rfl (Or.inl rfl)) (fun _ _ _ _ _ => pts_one (pt_cmpR op_gt (pe_call G_l_gap (hr.mono (by decide)) (by rfl) m_l_gap k_l_gap b_l_gap .nil pass0 (pa_cons (pv 0) (pa_cons (pv 1) (pa_cons (pv 9) pa_nil)))) pe_int (nomark _))) (fun _ _ _ _ _ => (pv 9)))
    (pss_one (ps_ret (pe_and (pe_cmpR op_le (pv 5) pe_int (nomark _)) (pe_one (pe_cmpR (op_eqD hr.units) (pv 6) (pe_lst pa_nil) (nomark _))))))) pss_nil)
    (pss_cons (ps_if (PW.pt (pw_or (pt_not (pt_val (pe_callB call_isi (by rfl) T.n_isinstance (by decide +kernel) (pa_cons (pv 2) (pa_cons (pe_bltn (v := .ty "int") (by rfl) T.n_int (by decide +kernel) rfl) pa_nil))))) (pw_or (pt_val (pe_callB call_isi (by rfl) T.n_isinstance (by decide +kernel) (pa_cons (pv 2) (pa_cons (pe_bltn (v := .ty "bool") (by rfl) T.n_bool (by decide +kernel) rfl) pa_nil)))) (pw_or (pt_cmpR op_lt (pv 2) pe_int (nomark _)) (pw_or1 (pt_cmpR op_le (pe_call G_l_gap (hr.mono (by decide)) (by rfl) m_l_gap k_l_gap b_l_gap .nil pass0 (pa_cons (pv 0) (pa_cons (pv 1) (pa_cons (pv 2) pa_nil)))) pe_int (nomark _))))))) (pss_one (ps_ret pe_bl)) pss_nil)
    (pss_cons (ps_setLc (i := 7) (own := [("_law_x", 9)]) (g := gName 9) (tt := _) rfl sc_l_is_first.nd rfl rfl (sw_true rfl rfl rfl (by decide +kernel)) (pi_range1 (by rfl) T.n_range (pa_cons (pe_callB (call_min2 rfl) (by rfl) T.n_min (by decide +kernel) (pa_cons (pv 2) (pa_cons (pe_op op_add (pv 3) (pv 4)) pa_nil))) pa_nil)) (blkOk_by (own := [("_law_x", 9)]) (N := N_l_is_first) (sc := defScope s_l_is_first) (by decide +kernel)) (fun _ _ _ _ _ => pg_name (i := 9) sc_l_is_first.nd rfl (Or.inl rfl)) (fun _ _ _ _ _ => pts_one (pt_cmpR op_gt (pe_call G_l_gap (hr.mono (by decide)) (by rfl) m_l_gap k_l_gap b_l_gap .nil pass0 (pa_cons (pv 0) (pa_cons (pv 1) (pa_cons (pv 9) pa_nil)))) pe_int (nomark _))) (fun _ _ _ _ _ => (pv 9)))
    (pss_cons (ps_setLc (i := 8) (own := [("_law_x", 9)]) (g := gName 9) (tt := _) rfl sc_l_is_first.nd rfl rfl (sw_true rfl rfl rfl (by decide +kernel)) (pi_range2W (by rfl) T.n_range (pa_cons (pe_callB (call_max2 rfl) (by rfl) T.n_max (by decide +kernel) (pa_cons pe_int (pa_cons (pe_op op_sub (pv 2) (pv 4)) pa_nil))) (pa_cons (pv 2) pa_nil))) (blkOk_by (own := [("_law_x", 9)]) (N := N_l_is_first) (sc := defScope s_l_is_first) (by decide +kernel)) (fun _ _ _ _ _ => pg_name (i := 9) sc_l_is_first.nd rfl (Or.inl rfl)) (fun _ _ _ _ _ => pts_one (pt_cmpR op_gt (pe_call G_l_gap (hr.mono (by decide)) (by rfl) m_l_gap k_l_gap b_l_gap .nil pass0 (pa_cons (pv 0) (pa_cons (pv 1) (pa_cons (pv 9) pa_nil)))) pe_int (nomark _))) (fun _ _ _ _ _ => (pv 9)))
    (pss_one (ps_ret (pe_and (pe_cmpR (op_eqD hr.units) (pv 7) (pe_lst pa_nil) (nomark _)) (pe_one (pe_cmpR (op_eqD hr.units) (pv 8) (pe_lst pa_nil) (nomark _)))))))))))), ?_⟩
  refine ⟨_, rfl, _, _, _, _, rfl, rfl, SqT.of hd1, atI_nat (j := 0) rfl, _, _, rfl, .inr (SqT.of ht1), _, rfl, _, _, _, _, rfl, rfl, SqT.of hd2, atI_nat (j := 0) rfl, _, _, rfl, .inr (SqT.of ht2), _, _, rfl, _, rfl, _, _, _, _, rfl, rfl, SqT.of hd1, atI_nat (j := 1) rfl, _, rfl, _, _, _, _, rfl, rfl, SqT.of hd2, atI_nat (j := 1) rfl, _, _, rfl, rfl, .inl ⟨by omega, by omega⟩, _, _, rfl, ?_⟩
  refine ⟨_, rfl, _, _, _, _, rfl, rfl, SqT.of hd1, atI_nat (j := 2) rfl, _, rfl, _, _, _, _, rfl, rfl, SqT.of hd2, atI_nat (j := 1) rfl, _, _, rfl, rfl, b1.mulR' w1, _, rfl, _, _, _, _, rfl, rfl, SqT.of hd2, atI_nat (j := 2) rfl, _, rfl, _, _, _, _, rfl, rfl, SqT.of hd1, atI_nat (j := 1) rfl, _, _, rfl, rfl, b2.mulR' w2, _, _, rfl, rfl, ?_⟩
  -- begin
  obtain ⟨bg, hbg, bgb⟩ : ∃ bg : Nat, (if (((T2.map V.int).length : Nat) : Int) > (((T1.map V.int).length : Nat) : Int) then (((T2.map V.int).length : Nat) : Int) else (((T1.map V.int).length : Nat) : Int)) = (bg : Int) ∧ bg ≤ 300 := by
    rw [ll1, ll2]
    split
    · exact ⟨_, rfl, bl2⟩
    · exact ⟨_, rfl, bl1⟩
  have dEmpty : ∀ (H' : Hp) (D E : Addr), H' D = some (.lst []) → H' E = some (.lst []) → Dp K H' (.ref D) (.list []) ∧ Dp K H' (.ref E) (.list []) := fun H' D E h1 h2 => ⟨.lst (SqL.of h1) .nil, .lst (SqL.of h2) .nil⟩
  cases oo with
  | none =>
    refine ⟨_, rfl, rfl, _, rfl, iteP rfl ?_⟩
    refine ⟨_, rfl, _, rfl, _, _, rfl, rfl, _, rfl, (by rw [hbg]; omega), (by rw [hbg]; omega), fun D nD => ?_⟩
    have sD := same_upd (o := .lst []) nD
    refine lc_range (lo := 0) (n := _) (fun j H' => Same H H' ∧ H' D = some (.lst [])) ⟨sD, upd_same⟩ ?_ ?_
    · rintro j H' hj ⟨s', hD⟩
      refine ⟨rfl, ?_⟩
      refine ⟨_, rfl, _, rfl, _, rfl, d1, d2, T1, T2, p1, p2, r1, r2, j, congrArg (fun z => [V.ref d1, V.ref d2, V.int z]) (Int.zero_add _), R1.same s', R2.same s', w1, w2, b1, b2, _, _, rfl, rfl, _, rfl, iteN (by have := fst j; omega) ⟨s', hD⟩⟩
    · rintro H1 ⟨s1, hD⟩
      refine ⟨_, rfl, _, _, rfl, rfl, _, rfl, iteP (slope w1 w2 fst) ?_⟩
      refine ⟨_, rfl, Nat.zero_le _, fun E nE => ?_⟩
      have sE := same_upd (o := .lst []) nE
      obtain ⟨e1, e2⟩ := dEmpty _ D E (sE _ _ hD) upd_same
      exact ⟨_, _, e1, e2, rfl, rfl, k _ (s1.trans sE)⟩
  | some m =>
    obtain ⟨f1, f2⟩ := fst
    refine ⟨_, rfl, rfl, _, rfl, iteN (fun q => nomatch q) ?_⟩
    refine ⟨_, rfl, _, _, _, _, _, rfl, .ty "int", .base (.int _), kit_ty (b := "int") (r := true) (by decide +kernel), _, rfl, ?_⟩
    refine iteF ⟨_, rfl, _, _, _, _, _, rfl, .ty "bool", .base (.int _), kit_ty (b := "bool") (r := false) (by decide +kernel), _, rfl, iteF ?_⟩
    refine ⟨_, rfl, _, _, rfl, rfl, _, rfl, iteN (by omega) ?_⟩
    refine ⟨_, rfl, _, rfl, _, rfl, d1, d2, T1, T2, p1, p2, r1, r2, m, rfl, R1, R2, w1, w2, b1, b2, _, _, rfl, rfl, _, rfl, iteN (by omega) ?_⟩
    -- near
    refine ⟨_, rfl, _, rfl, _, rfl, _, _, rfl, rfl, _, _, rfl, _, rfl, (by rw [hbg]; split <;> omega), (by rw [hbg]; split <;> omega), fun D nD => ?_⟩
    have sD := same_upd (o := .lst []) nD
    refine lc_range (lo := 0) (n := _) (fun j H' => Same H H' ∧ H' D = some (.lst [])) ⟨sD, upd_same⟩ ?_ ?_
    · rintro j H' hj ⟨s', hD⟩
      rw [hbg] at hj
      have hj : j < m := by
        split at hj <;> omega
      refine ⟨rfl, ?_⟩
      refine ⟨_, rfl, _, rfl, _, rfl, d1, d2, T1, T2, p1, p2, r1, r2, j, congrArg (fun z => [V.ref d1, V.ref d2, V.int z]) (Int.zero_add _), R1.same s', R2.same s', w1, w2, b1, b2, _, _, rfl, rfl, _, rfl, iteN (by have := f2 j hj; omega) ⟨s', hD⟩⟩
    rintro H1 ⟨s1, hD⟩
    -- last
    refine ⟨_, rfl, _, rfl, _, _, rfl, rfl, _, _, rfl, _, rfl, _, _, rfl, fun E nE => ?_⟩
    have sE := same_upd (o := .lst []) nE
    refine lc_range (lo := _) (n := _) (fun j H' => Same H1 H' ∧ H' E = some (.lst [])) ⟨sE, upd_same⟩ ?_ ?_
    · rintro j H' hj ⟨s', hE⟩
      obtain ⟨x, hx, xm⟩ : ∃ x : Nat, (if (m : Int) - (p1 : Int) * (p2 : Int) > 0 then (m : Int) - (p1 : Int) * (p2 : Int) else 0) + (j : Int) = (x : Int) ∧ x < m := by
        refine ⟨((if (m : Int) - (p1 : Int) * (p2 : Int) > 0 then (m : Int) - (p1 : Int) * (p2 : Int) else 0) + (j : Int)).toNat, ?_, ?_⟩
        · split <;> omega
        · split at hj <;> split <;> omega
      refine ⟨rfl, ?_⟩
      refine ⟨_, rfl, _, rfl, _, rfl, d1, d2, T1, T2, p1, p2, r1, r2, x, congrArg (fun z => [V.ref d1, V.ref d2, V.int z]) hx, (R1.same s1).same s', (R2.same s1).same s', w1, w2, b1, b2, _, _, rfl, rfl, _, rfl, iteN (by have := f2 x xm; omega) ⟨s', hE⟩⟩
    rintro H2 ⟨s2, hE⟩
    have hD2 := s2 _ _ hD
    refine ⟨_, rfl, Nat.zero_le _, fun F nF => ?_⟩
    have sF := same_upd (o := .lst []) nF
    obtain ⟨e1, e2⟩ := dEmpty _ D F (sF _ _ hD2) upd_same
    refine ⟨_, _, e1, e2, rfl, rfl, _, rfl, iteT ?_⟩
    refine ⟨_, rfl, Nat.zero_le _, fun G nG => ?_⟩
    have sG := same_upd (o := .lst []) nG
    obtain ⟨e3, e4⟩ := dEmpty _ E G (sG _ _ (sF _ _ hE)) upd_same
    exact ⟨_, _, e3, e4, rfl, rfl, k _ (s1.trans (s2.trans (sF.trans sG)))⟩
end
end Sm

set_option Elab.async false
set_option linter.all false
set_option maxRecDepth 100000
set_option maxHeartbeats 32000000
namespace Sm
open PySem PySem.Spec PyProof.Rows L2
open C8 (pss_cut tCut)
def RK (H : Hp) (d : Addr) : Prop := ∃ (T : List Int) (p : Nat) (r : Int), RuleAt H d T p r ∧ RuleOk T p r ∧ RB T p r ∧ p ≤ 40
theorem RK.same {H H' : Hp} {d : Addr} (h : RK H d) (s : Same H H') : RK H' d := by
  obtain ⟨T, p, r, R, q⟩ := h
  exact ⟨T, p, r, R.same s, q⟩
theorem RK.fr {H H' : Hp} {d a l : Addr} {n : Int} (h : RK H d) (f : Fr a l H H') (D : Deck H a l n) : RK H' d := by
  obtain ⟨T, p, r, R, q⟩ := h
  exact ⟨T, p, r, R.fr f D, q⟩
def Pair (H : Hp) (v : V) : Prop := ∃ (t d1 d2 : Addr), v = .ref t ∧ H t = some (.tup [.ref d1, .ref d2]) ∧ RK H d1 ∧ RK H d2
theorem Pair.same {H H' : Hp} {v : V} (h : Pair H v) (s : Same H H') : Pair H' v := by
  obtain ⟨t, d1, d2, e, ht, r1, r2⟩ := h
  exact ⟨t, d1, d2, e, s _ _ ht, r1.same s, r2.same s⟩
theorem Pair.fr {H H' : Hp} {v : V} {a l : Addr} {n : Int} (h : Pair H v) (f : Fr a l H H') (D : Deck H a l n) : Pair H' v := by
  obtain ⟨t, d1, d2, e, ht, r1, r2⟩ := h
  exact ⟨t, d1, d2, e, f.tup D ht, r1.fr f D, r2.fr f D⟩
def sp_l_pairs (_ : PySem.W.Frag) : Sp := fun vs H Q _ => ∃ (p l : Addr) (n : Int) (i : Nat), vs = [.ref p, .int (i : Int)] ∧ i < 5 ∧ Deck H p l n ∧ 0 ≤ n ∧ n ≤ 800000 ∧
  ∀ H' q n' xs, Fr p l H H' → Deck H' p l n' → n ≤ n' → n' ≤ n + 5000 → H' q = some (.lst xs) → q ≠ p → q ≠ l → xs.length ≤ 10 → (∀ v ∈ xs, Pair H' v) → Q (.ref q) H'
theorem sizes5 {H : Hp} {t1 t2 t3 t4 t5 : Addr} {i : Nat} (hi : i < 5) (h1 : H t1 = some (.tup [.int 4, .int 4, .int 2])) (h2 : H t2 = some (.tup [.int 0, .int 12, .int 3])) (h3 : H t3 = some (.tup [.int 20, .int 6, .int 1000]))
    (h4 : H t4 = some (.tup [.int 8, .int 30, .int 1])) (h5 : H t5 = some (.tup [.int 40, .int 20, .int (10 ^ 9)])) :
    ∃ (tv : Addr) (lo wi ta : Int), [V.ref t1, V.ref t2, V.ref t3, V.ref t4, V.ref t5][i]? = some (.ref tv) ∧ H tv = some (.tup [.int lo, .int wi, .int ta]) ∧ 0 ≤ lo ∧ lo ≤ 200 ∧ 1 ≤ wi ∧ wi ≤ 40 ∧ 0 ≤ ta ∧ ta ≤ 1000000000 := by
  obtain rfl | rfl | rfl | rfl | rfl : i = 0 ∨ i = 1 ∨ i = 2 ∨ i = 3 ∨ i = 4 := by omega
  · exact ⟨t1, 4, 4, 2, rfl, h1, by decide, by decide, by decide, by decide, by decide, by decide⟩
  · exact ⟨t2, 0, 12, 3, rfl, h2, by decide, by decide, by decide, by decide, by decide, by decide⟩
  · exact ⟨t3, 20, 6, 1000, rfl, h3, by decide, by decide, by decide, by decide, by decide, by decide⟩
  · exact ⟨t4, 8, 30, 1, rfl, h4, by decide, by decide, by decide, by decide, by decide, by decide⟩
  · exact ⟨t5, 40, 20, 10 ^ 9, rfl, h5, by decide, by decide, by decide, by decide, by decide, by decide⟩
theorem no_part {σ : L2.St} {H : Hp} {Q : Option Int → Hp → Prop} (h : Q none H) : tNoPart σ H Q := h
section
variable {P : Program} {w : World} {K : PySem.W.Frag} {mg : Str → Option Value} {base : Heap}
abbrev s_l_pairs : Stmt := topS 17
abbrev N_l_pairs : List Str := ["_law_deck_here", "_law_turn", "_law_long", "_law_wide", "_law_tall", "_law_one_here", "_law_other", "_law_table", "_law_period", "_law_rise", "_law_more", "_law_at", "_law_late", "_law_size", "_law_slow", "_law_fast", "_law_found", "_law_p", "_law_q", "_law_rest", "_law_even", "_law_rare", "_law_x", "_law_item"]
theorem sc_l_pairs : FnScope N_l_pairs ["_law_deck_here", "_law_turn"] (defScope s_l_pairs) := ⟨rfl, rfl, rfl, by decide +kernel, rfl, by decide +kernel, by decide +kernel⟩
theorem ok_l_pairs (T : Txt mg) (D : Df K mg "_law_pairs" s_l_pairs ["_law_deck_here", "_law_turn"]) (C_l_least : Cal P w K mg base "_law_least" ["_law_rule_here"] 3 (sp_l_least K)) (C_l_draw : Cal P w K mg base "_law_draw" ["_law_deck_here", "_law_many"] 1 (sp_l_draw K)) (C_l_value : Cal P w K mg base "_law_value" ["_law_rule_here", "_law_x"] 1 (sp_l_value K)) (C_l_rule : Cal P w K mg base "_law_rule" ["_law_deck_here", "_law_long", "_law_wide", "_law_tall"] 4 (sp_l_rule K)) : Cal P w K mg base "_law_pairs" ["_law_deck_here", "_law_turn"] 5 (sp_l_pairs K) := by
  obtain ⟨f_l_least, fd_l_least, G_l_least, m_l_least, k_l_least, b_l_least⟩ := C_l_least
  obtain ⟨f_l_draw, fd_l_draw, G_l_draw, m_l_draw, k_l_draw, b_l_draw⟩ := C_l_draw
  obtain ⟨f_l_value, fd_l_value, G_l_value, m_l_value, k_l_value, b_l_value⟩ := C_l_value
  obtain ⟨f_l_rule, fd_l_rule, G_l_rule, m_l_rule, k_l_rule, b_l_rule⟩ := C_l_rule
  refine D.cal sc_l_pairs (fun vs H Q E h => ?_) (fun f cdv A outer s H vs Q E hr h => ?_)
  · obtain ⟨p, l, n, i, rfl, _⟩ := h
    rfl
  obtain ⟨p, l, n, i, rfl, hi, D0, n0, n1, k⟩ := h
  refine ⟨_, (pss_cons (ps_asg (pe_ix ix_list (pe_lst (pa_cons (pe_tup (pa_cons pe_int (pa_cons pe_int (pa_cons pe_int pa_nil)))) (pa_cons (pe_tup (pa_cons pe_int (pa_cons pe_int (pa_cons pe_int pa_nil)))) (pa_cons (pe_tup (pa_cons pe_int (pa_cons pe_int (pa_cons pe_int pa_nil)))) (pa_cons (pe_tup (pa_cons pe_int (pa_cons pe_int (pa_cons pe_int pa_nil)))) (pa_cons (pe_tup (pa_cons pe_int (pa_cons pe_int (pa_cons (pe_op op_pow pe_int pe_int) pa_nil)))) pa_nil)))))) (pv 1) (fun _ _ => rfl)) (pg_tup (by rfl) (pgs_cons (pg_name (i := 2) sc_l_pairs.nd rfl (Or.inl rfl)) (pgs_cons (pg_name (i := 3) sc_l_pairs.nd rfl (Or.inl rfl)) (pgs_cons (pg_name (i := 4) sc_l_pairs.nd rfl (Or.inl rfl)) pgs_nil)))))
    (pss_cons (ps_par (i := 5) (j := 6) (by rfl) sc_l_pairs.nd rfl rfl (by decide) rfl rfl (pa_cons (pe_call G_l_rule (hr.mono (by decide)) (by rfl) m_l_rule k_l_rule b_l_rule .nil pass0 (pa_cons (pv 0) (pa_cons (pv 2) (pa_cons (pv 3) (pa_cons (pv 4) pa_nil))))) (pa_cons (pe_call G_l_rule (hr.mono (by decide)) (by rfl) m_l_rule k_l_rule b_l_rule .nil pass0 (pa_cons (pv 0) (pa_cons (pv 2) (pa_cons (pv 3) (pa_cons (pv 4) pa_nil))))) pa_nil)) (by rfl))
    (pss_cons (ps_asg (pv 5) (pg_tup (by rfl) (pgs_cons (pg_name (i := 7) sc_l_pairs.nd rfl (Or.inl rfl)) (pgs_cons (pg_name (i := 8) sc_l_pairs.nd rfl (Or.inl rfl)) (pgs_cons (pg_name (i := 9) sc_l_pairs.nd rfl (Or.inl rfl)) pgs_nil)))))
    (pss_cons (ps_set (i := 10) sc_l_pairs.nd rfl (Or.inl rfl) (pe_tup (pa_cons (pe_callTy call_tuple_of (by rfl) T.n_tuple (by decide +kernel) (pa_cons (pe_lc (own := [("_law_item", 23)]) (g := gName 23) (tt := tYes) rfl sc_l_pairs.nd (pi_tup (pv 7)) (blkOk_by (own := [("_law_item", 23)]) (N := N_l_pairs) (sc := defScope s_l_pairs) (by decide +kernel)) (fun _ _ _ _ _ => pg_name (i := 23) sc_l_pairs.nd rfl (Or.inl rfl)) (fun _ _ _ _ _ => pts_nil) (fun _ _ _ _ _ => (pe_op op_add (pv 23) pe_int))) pa_nil)) (pa_cons (pv 8) (pa_cons (pv 9) pa_nil)))))
    (pss_cons (ps_set (i := 11) sc_l_pairs.nd rfl (Or.inl rfl) (pe_callB (call_max2 rfl) (by rfl) T.n_max (by decide +kernel) (pa_cons (pe_call G_l_draw (hr.mono (by decide)) (by rfl) m_l_draw k_l_draw b_l_draw .nil pass0 (pa_cons (pv 0) (pa_cons (pe_callB call_len_seq (by rfl) T.n_len (by decide +kernel) (pa_cons (pv 7) pa_nil)) pa_nil))) (pa_cons (pe_op op_sub (pe_callB call_len_seq (by rfl) T.n_len (by decide +kernel) (pa_cons (pv 7) pa_nil)) pe_int) pa_nil))))
    (pss_cut (ps_set (i := 12) sc_l_pairs.nd rfl (Or.inr rfl) (pe_call G_l_least (hr.mono (by decide)) (by rfl) m_l_least k_l_least b_l_least .nil pass0 (pa_cons (pe_tup (pa_cons (pe_op op_catA (pe_slice sl_tupA (pv 7) po_none (po_some (pv 11))) (pe_callTy call_tuple_of (by rfl) T.n_tuple (by decide +kernel) (pa_cons (pe_lc (own := [("_law_item", 23)]) (g := gName 23) (tt := tYes) rfl sc_l_pairs.nd (pi_tup (pe_slice sl_tupA (pv 7) (po_some (pv 11)) po_none)) (blkOk_by (own := [("_law_item", 23)]) (N := N_l_pairs) (sc := defScope s_l_pairs) (by decide +kernel)) (fun _ _ _ _ _ => pg_name (i := 23) sc_l_pairs.nd rfl (Or.inl rfl)) (fun _ _ _ _ _ => pts_nil) (fun _ _ _ _ _ => (pe_op op_add (pv 23) pe_int))) pa_nil))) (pa_cons (pe_op op_sub (pe_callB call_len_seq (by rfl) T.n_len (by decide +kernel) (pa_cons (pv 7) pa_nil)) (pv 11)) (pa_cons (pe_op op_add (pe_op op_mul (pv 9) pe_int) pe_int) pa_nil)))) pa_nil)))
    (pss_cut (ps_if (pt_cmpR (op_neD hr.units) (pe_lc (own := [("_law_x", 22)]) (g := gName 22) (tt := _) rfl sc_l_pairs.nd (pi_range1 (by rfl) T.n_range (pa_cons (pe_callB call_len_seq (by rfl) T.n_len (by decide +kernel) (pa_cons (pe_ix ix_tup (pv 12) pe_int (fun _ _ => rfl)) pa_nil)) pa_nil)) (blkOk_by (own := [("_law_x", 22)]) (N := N_l_pairs) (sc := defScope s_l_pairs) (by decide +kernel)) (fun _ _ _ _ _ => pg_name (i := 22) sc_l_pairs.nd rfl (Or.inl rfl)) (fun _ _ _ _ _ => pts_one (pt_cmpR op_lt (pe_call G_l_value (hr.mono (by decide)) (by rfl) m_l_value k_l_value b_l_value .nil pass0 (pa_cons (pv 12) (pa_cons (pe_op op_add (pv 22) pe_int) pa_nil))) (pe_ix (show IxR _ (rIxT K) from ix_tup) (pe_ix (show IxR _ (rIxT K) from ix_tup) (pv 12) pe_int (fun _ _ => rfl)) (pv 22) (fun _ _ => rfl)) (nomark _))) (fun _ _ _ _ _ => (pv 22))) (pe_lst pa_nil) (nomark _)) (pss_one (ps_set (i := 12) sc_l_pairs.nd rfl (Or.inr rfl) (pv 6))) pss_nil)
    (pss_cons (ps_par (i := 13) (j := 4) (by rfl) sc_l_pairs.nd rfl rfl (by decide) rfl rfl (pa_cons (pe_op op_add pe_int (pe_call G_l_draw (hr.mono (by decide)) (by rfl) m_l_draw k_l_draw b_l_draw .nil pass0 (pa_cons (pv 0) (pa_cons pe_int pa_nil)))) (pa_cons (pe_op op_add pe_int (pe_call G_l_draw (hr.mono (by decide)) (by rfl) m_l_draw k_l_draw b_l_draw .nil pass0 (pa_cons (pv 0) (pa_cons (pe_op op_pow pe_int pe_int) pa_nil)))) pa_nil)) (by rfl))
    (pss_cons (ps_par (i := 14) (j := 15) (by rfl) sc_l_pairs.nd rfl rfl (by decide) rfl rfl (pa_cons (pe_tup (pa_cons (pe_tup (pa_cons (pv 4) pa_nil)) (pa_cons pe_int (pa_cons (pe_op op_pow pe_int pe_int) pa_nil)))) (pa_cons (pe_tup (pa_cons (pe_op op_rep0 (pe_tup (pa_cons pe_int pa_nil)) (pv 13)) (pa_cons (pv 13) (pa_cons (pe_op op_add (pe_op op_mul (pv 13) (pe_op op_pow pe_int pe_int)) pe_int) pa_nil)))) pa_nil)) (by rfl))
    (pss_cons (ps_set (i := 16) sc_l_pairs.nd rfl (Or.inl rfl) (pe_lst (pa_cons (pe_tup (pa_cons (pv 5) (pa_cons (pv 6) pa_nil))) (pa_cons (pe_tup (pa_cons (pv 5) (pa_cons (pv 5) pa_nil))) (pa_cons (pe_tup (pa_cons (pv 10) (pa_cons (pv 5) pa_nil))) (pa_cons (pe_tup (pa_cons (pv 5) (pa_cons (pv 12) pa_nil))) pa_nil))))))
    (pss_cons (ps_par (i := 17) (j := 18) (by rfl) sc_l_pairs.nd rfl rfl (by decide) rfl rfl (pa_cons (pe_op op_add pe_int (pe_call G_l_draw (hr.mono (by decide)) (by rfl) m_l_draw k_l_draw b_l_draw .nil pass0 (pa_cons (pv 0) (pa_cons pe_int pa_nil)))) (pa_cons (pe_op op_add pe_int (pe_call G_l_draw (hr.mono (by decide)) (by rfl) m_l_draw k_l_draw b_l_draw .nil pass0 (pa_cons (pv 0) (pa_cons pe_int pa_nil)))) pa_nil)) (by rfl))
    (pss_cons (ps_set (i := 18) sc_l_pairs.nd rfl (Or.inl rfl) (pe_op op_add (pv 18) (pe_callTy call_int1 (by rfl) T.n_int (by decide +kernel) (pa_cons (pe_cmpR op_ge (pv 18) (pv 17) (nomark _)) pa_nil))))
    (pss_cons (ps_set (i := 19) sc_l_pairs.nd rfl (Or.inl rfl) (pe_op op_add pe_int (pe_call G_l_draw (hr.mono (by decide)) (by rfl) m_l_draw k_l_draw b_l_draw .nil pass0 (pa_cons (pv 0) (pa_cons (pe_op op_sub (pv 18) pe_int) pa_nil)))))
    (pss_cons (ps_par (i := 20) (j := 21) (by rfl) sc_l_pairs.nd rfl rfl (by decide) rfl rfl (pa_cons (pe_tup (pa_cons (pe_op op_rep0 (pe_tup (pa_cons pe_int pa_nil)) (pv 17)) (pa_cons (pv 17) (pa_cons (pv 17) pa_nil)))) (pa_cons (pe_call G_l_least (hr.mono (by decide)) (by rfl) m_l_least k_l_least b_l_least .nil pass0 (pa_cons (pe_tup (pa_cons (pe_op op_catA (pe_op op_rep0 (pe_tup (pa_cons (pe_op op_sub (pv 19) pe_int) pa_nil)) (pe_op op_add (pv 19) pe_int)) (pe_op op_rep0 (pe_tup (pa_cons (pe_op op_sub (pe_op op_add (pv 19) (pv 18)) pe_int) pa_nil)) (pe_op op_sub (pe_op op_sub (pv 18) (pv 19)) pe_int))) (pa_cons (pv 18) (pa_cons (pv 18) pa_nil)))) pa_nil)) pa_nil)) (by rfl))
    (pss_one (ps_ret (pe_op op_cat (pv 16) (pe_lst (pa_cons (pe_tup (pa_cons (pv 15) (pa_cons (pv 14) pa_nil))) (pa_cons (pe_tup (pa_cons (pv 20) (pa_cons (pv 21) pa_nil))) pa_nil)))))))))))))))))))), ?_⟩
  refine ⟨(by show 3 ≤ sizeLine; decide), fun t1 nt1 => ⟨(by show 3 ≤ sizeLine; decide), fun t2 nt2 => ⟨(by show 3 ≤ sizeLine; decide), fun t3 nt3 => ⟨(by show 3 ≤ sizeLine; decide), fun t4 nt4 =>
      ⟨_, _, rfl, rfl, ⟨by decide, by decide, by decide⟩, (by show 3 ≤ sizeLine; decide), fun t5 nt5 => ⟨(by show 5 ≤ sizeLine; decide), fun tb ntb => ?_⟩⟩⟩⟩⟩⟩
  have u1 := same_upd (o := .tup [.int 4, .int 4, .int 2]) nt1
  have u2 := same_upd (o := .tup [.int 0, .int 12, .int 3]) nt2
  have u3 := same_upd (o := .tup [.int 20, .int 6, .int 1000]) nt3
  have u4 := same_upd (o := .tup [.int 8, .int 30, .int 1]) nt4
  have u5 := same_upd (o := .tup [.int 40, .int 20, .int (10 ^ 9)]) nt5
  have ub := same_upd (o := .lst [.ref t1, .ref t2, .ref t3, .ref t4, .ref t5]) ntb
  obtain ⟨tv, lo, wi, ta, hget, htv, lo0, lo1, wi0, wi1, ta0, ta1⟩ := sizes5 hi ((u2.trans (u3.trans (u4.trans (u5.trans ub)))) _ _ upd_same) ((u3.trans (u4.trans (u5.trans ub))) _ _ upd_same) ((u4.trans (u5.trans ub)) _ _ upd_same) ((u5.trans ub) _ _ upd_same) (ub _ _ upd_same)
  have sA := u1.trans (u2.trans (u3.trans (u4.trans (u5.trans ub))))
  have DA := D0.same sA
  refine ⟨_, rfl, _, _, _, _, rfl, rfl, SqL.of upd_same, at_of (j := i) rfl hget, _, _, rfl, SqT.of htv, rfl, _, _, rfl, _, _, rfl, _, _, rfl, rfl, ?_⟩
  generalize upd (upd (upd (upd (upd (upd H t1 _) t2 _) t3 _) t4 _) t5 _) tb _ = HA at sA DA htv ⊢
  clear u1 u2 u3 u4 u5 ub nt1 nt2 nt3 nt4 nt5 ntb
  -- one, other
  refine ⟨_, rfl, _, rfl, _, rfl, _, rfl, p, l, n, lo, wi, ta, rfl, DA, n0, by omega, lo0, lo1, wi0, wi1, ta0, ta1, fun HB d1 T1 p1 r1 nB fB DB mB0 mB1 RB1 o1 b1 c1 l1 q1 top1 => ?_⟩
  refine ⟨_, rfl, _, rfl, _, rfl, _, rfl, p, l, nB, lo, wi, ta, rfl, DB, by omega, by omega, lo0, lo1, wi0, wi1, ta0, ta1, fun HC d2 T2 p2 r2 nC fC DC mC0 mC1 RC2 o2 b2 c2 l2 q2 top2 => ?_⟩
  refine ⟨_, _, rfl, ?_⟩
  have R1 := RB1.fr fC DB
  have fr := (Same.fr sA).trans (fB.trans fC)
  obtain ⟨tt, hd, ht⟩ := id R1
  have ll := len_int T1
  have p10 := o1.p0
  have p11 := o1.p1
  have r10 := o1.r0
  refine ⟨_, rfl, _, _, rfl, SqT.of hd, rfl, _, _, rfl, _, _, rfl, _, _, rfl, rfl, ?_⟩
  -- more
  refine ⟨_, rfl, tt, rfl, ⟨_, SqT.of ht⟩, fun U nU => ?_⟩
  have sU := same_upd (o := .lst []) nU
  refine lc_tup (K := K) (a := tt) (xs := T1.map V.int) (fun j H' => Same HC H' ∧ H' U = some (.lst (((T1.take j).map (· + 1)).map V.int))) ⟨sU, upd_same⟩ (fun j H' _ h => SqT.of (h.1 _ _ ht)) ?_ ?_
  · rintro j x H' hx ⟨sm, hU⟩
    obtain ⟨y, rfl, g1, g2, g3⟩ := lc_turn1 (by omega) nU hx sm hU
    refine ⟨rfl, ?_⟩
    unfold tYes
    refine iteT ?_
    exact ⟨_, rfl, _, _, rfl, rfl, _, hU, g1, g2, g3⟩
  rintro HD ⟨sD, hU⟩
  rw [List.length_map, List.take_length] at hU
  refine ⟨_, _, rfl, .inl ⟨SqL.of hU, fun um num => ?_⟩⟩
  refine ⟨_, rfl, _, rfl, (by show 3 ≤ sizeLine; decide), fun dm ndm => ?_⟩
  have e1 := same_upd (o := .tup ((T1.map (· + 1)).map V.int)) num
  have e2 := same_upd (o := .tup [.ref um, .int (p1 : Int), .int r1]) ndm
  have km : RK (upd (upd HD um (.tup ((T1.map (· + 1)).map V.int))) dm (.tup [.ref um, .int (p1 : Int), .int r1])) dm := by
    refine ⟨T1.map (· + 1), p1, r1, ⟨um, upd_same, e2 _ _ upd_same⟩, plus_ok o1, ⟨by rw [List.length_map]; omega, by omega, fun i h => ?_⟩, c1⟩
    rw [List.length_map] at h
    rw [getD_map1 h]
    have := top1 i h
    omega
  have sE := sD.trans (e1.trans e2)
  generalize upd (upd HD um (.tup ((T1.map (· + 1)).map V.int))) dm (.tup [.ref um, .int (p1 : Int), .int r1]) = HE at km sE ⊢
  clear e1 e2 num ndm hU
  -- at
  have htE := sE _ _ ht
  refine ⟨_, rfl, _, rfl, _, _, rfl, .inr (SqT.of htE), p, l, nC, _, rfl, DC.same sE, by omega, by omega, by omega, by omega, fun a HF a0 a1 fF DF => ?_⟩
  have htF := fF.tup (DC.same sE) htE
  refine ⟨_, rfl, _, _, rfl, .inr (SqT.of htF), _, _, rfl, rfl, _, _, rfl, ?_⟩
  obtain ⟨at_, hat, at1, at2⟩ : ∃ at_ : Nat, (if (((T1.map V.int).length : Nat) : Int) - 40 > a then (((T1.map V.int).length : Nat) : Int) - 40 else a) = (at_ : Int) ∧ at_ < T1.length ∧ T1.length ≤ at_ + 40 := by
    rw [ll] at a1 ⊢
    split
    · exact ⟨T1.length - 40, by omega, by omega, by omega⟩
    · exact ⟨a.toNat, by omega, by omega, by omega⟩
  rw [hat]
  -- late
  refine ⟨fun σ H1 => ∃ (dl : Addr) (v2 v3 v4 v7 v8 v9 v11 v22 v23 : Option V) (T3 : List Int) (p3 : Nat) (r3 : Int), σ = [some (.ref p), some (.int (i : Int)), v2, v3, v4, some (.ref d1), some (.ref d2), v7, v8, v9, some (.ref dm), v11, some (.ref dl), none, none, none, none, none, none, none, none, none, v22, v23] ∧ Same HF H1 ∧ RuleAt H1 dl T3 p3 r3 ∧ RuleW T3 p3 r3 ∧ RB T3 p3 r3 ∧ p3 ≤ 40 ∧ ∀ i, i < T3.length → 0 ≤ T3.getD i 0, ?_, ?_⟩
  · clear k
    refine ⟨_, rfl, _, rfl, _, rfl, sl_uni htF fun v1 HG sG hv1 => ?_⟩
    rw [cut_all, ← List.map_take] at hv1
    refine ⟨_, rfl, _, rfl, _, rfl, no_part ?_⟩
    refine sl_uni (sG _ _ htF) fun v2 HH sH hv2 => ?_
    rw [cut_from, ← List.map_drop] at hv2
    refine ⟨v2, rfl, ⟨_, SqT.of hv2⟩, fun U2 nU2 => ?_⟩
    have sU2 := same_upd (o := .lst []) nU2
    refine lc_tup (K := K) (a := v2) (xs := (T1.drop at_).map V.int) (fun j H' => Same HH H' ∧ H' U2 = some (.lst ((((T1.drop at_).take j).map (· + 1)).map V.int))) ⟨sU2, upd_same⟩ (fun j H' _ h => SqT.of (h.1 _ _ hv2)) ?_ ?_
    · rintro j x H' hx ⟨sm, hU⟩
      obtain ⟨y, rfl, g1, g2, g3⟩ := lc_turn1 (by rw [List.length_drop]; omega) nU2 hx sm hU
      refine ⟨rfl, ?_⟩
      unfold tYes
      refine iteT ?_
      exact ⟨_, rfl, _, _, rfl, rfl, _, hU, g1, g2, g3⟩
    rintro HI ⟨sI, hU⟩
    rw [List.length_map, List.take_length] at hU
    refine ⟨_, _, rfl, .inl ⟨SqL.of hU, fun u3 nu3 => ?_⟩⟩
    have sJ := same_upd (o := .tup (((T1.drop at_).map (· + 1)).map V.int)) nu3
    refine cat_uni ((sH.trans (sI.trans sJ)) _ _ hv1) upd_same (by rw [List.length_map, List.length_map, List.length_map, List.length_take, List.length_drop]; exact Nat.le_trans (by omega : _ ≤ 1000) (by decide)) fun v4 HK sK hv4 => ?_
    rw [← List.map_append] at hv4
    have sFK := sG.trans (sH.trans (sI.trans (sJ.trans sK)))
    refine ⟨_, rfl, _, _, rfl, .inr (SqT.of (sFK _ _ htF)), _, rfl, _, _, rfl, rfl, ?_⟩
    refine ⟨_, rfl, _, _, rfl, rfl, .inl ⟨by omega, by omega⟩, _, _, rfl, rfl, (by show 3 ≤ sizeLine; decide), fun dt ndt => ?_⟩
    have sL := same_upd (o := .tup [.ref v4, .int ((((T1.map V.int).length : Nat) : Int) - (at_ : Int)), .int (r1 * 2 + 1)]) ndt
    have hdt : upd HK dt (.tup [.ref v4, .int ((((T1.map V.int).length : Nat) : Int) - (at_ : Int)), .int (r1 * 2 + 1)]) dt = some (.tup [.ref v4, .int ((T1.length - at_ : Nat) : Int), .int (r1 * 2 + 1)]) := by
      rw [upd_same, ll, show (T1.length : Int) - (at_ : Int) = ((T1.length - at_ : Nat) : Int) by omega]
    have LL := late_len (T := T1) (a := at_) (by omega)
    have LG := fun i hi => late_get (T := T1) (a := at_) (i := i) (by omega) hi
    refine ⟨dt, T1.take at_ ++ (T1.drop at_).map (· + 1), T1.length - at_, r1 * 2 + 1, rfl, ⟨v4, hdt, sL _ _ hv4⟩, ⟨by omega, by rw [LL]; omega, by omega⟩, ⟨by rw [LL]; omega, by omega, fun i h => ?_⟩, fun HL dl T3 p3 r3 sL' R3 w3 b3 q3 c3 pre3 ho3 _ => ?_⟩
    · rw [LL] at h
      rw [LG i h]
      have := top1 i h
      split <;> omega
    have nn3 : ∀ i, i < T3.length → 0 ≤ T3.getD i 0 := by
      obtain ⟨m, rfl⟩ := pre3
      intro i h
      rw [List.length_take, LL] at h
      rw [getD_take (by omega), LG i (by omega)]
      have := o1.nn i (by omega)
      split <;> omega
    exact ⟨dl, _, _, _, _, _, _, _, _, _, T3, p3, r3, rfl, sFK.trans (sL.trans sL'), R3, w3, b3, by omega, nn3⟩
  rintro σ HL ⟨dl, v2, v3, v4, v7, v8, v9, v11, v22, v23, T3, p3, r3, rfl, sFL, R3, w3, b3, cc3, nn3⟩
  have frL : Fr p l H HL := fr.trans ((Same.fr sE).trans (fF.trans (Same.fr sFL)))
  have DL := DF.same sFL
  have kmL : RK HL dm := (km.fr fF (DC.same sE)).same sFL
  have k1L : RK HL d1 := ((RK.same ⟨T1, p1, r1, R1, o1, b1, c1⟩ sE).fr fF (DC.same sE)).same sFL
  have k2L : RK HL d2 := ((RK.same ⟨T2, p2, r2, RC2, o2, b2, c2⟩ sE).fr fF (DC.same sE)).same sFL
  -- the cut
  refine ⟨fun σ H1 => ∃ (dl : Addr) (v2 v3 v4 v7 v8 v9 v11 v22 v23 : Option V), σ = [some (.ref p), some (.int (i : Int)), v2, v3, v4, some (.ref d1), some (.ref d2), v7, v8, v9, some (.ref dm), v11, some (.ref dl), none, none, none, none, none, none, none, none, none, v22, v23] ∧ Same HL H1 ∧ RK H1 dl, ?_, ?_⟩
  · obtain ⟨tl, hdl, htl⟩ := id R3
    have l3 := len_int T3
    have bl3 := b3.len
    refine ⟨_, rfl, _, _, _, _, rfl, rfl, SqT.of hdl, atI_nat (j := 0) rfl, _, _, rfl, .inr (SqT.of htl), _, rfl, (by rw [l3]; omega), (by rw [l3]; omega), fun Z nZ => ?_⟩
    have sZ := same_upd (o := .lst []) nZ
    refine lc_range (lo := 0) (n := _) (fun j H' => Same HL H' ∧ ∃ acc : List Int, H' Z = some (.lst (acc.map V.int)) ∧ acc.length ≤ j ∧ (acc = [] → ∀ x, x < j → T3.getD x 0 ≤ vl T3 p3 r3 (x + 1))) ⟨sZ, [], upd_same, Nat.zero_le _, fun _ x hx => absurd hx (Nat.not_lt_zero _)⟩ ?_ ?_
    · rintro j H' hj ⟨s', acc, hZ, hl, ha⟩
      have hj : j < T3.length := by omega
      refine ⟨rfl, ?_⟩
      refine ⟨_, rfl, _, rfl, _, _, rfl, rfl, dl, T3, p3, r3, j + 1, congrArg (fun z => [V.ref dl, V.int z]) (show (0 : Int) + (j : Int) + 1 = ((j + 1 : Nat) : Int) by omega), R3.same s', w3, b3, ?_⟩
      refine ⟨_, rfl, _, _, _, _, rfl, rfl, SqT.of (s' _ _ hdl), atI_nat (j := 0) rfl, _, rfl, _, _, _, _, rfl, rfl, SqT.of (s' _ _ htl), at_of (j := j) (Int.zero_add _) (get_int hj), _, _, rfl, rfl, _, rfl, ite3 (fun e => ?_) (fun e => ?_)⟩
      · refine ⟨_, rfl, _, hZ, ?_, fun b o e => ?_, acc ++ [0 + (j : Int)], ?_, ?_, fun q => ?_⟩
        · rw [List.length_map]
          exact Nat.lt_of_le_of_lt (show acc.length ≤ 300 by omega) (by decide)
        · rw [upd_ne (ne_of_none e nZ)]
          exact s' _ _ e
        · rw [upd_same, List.map_append]
          rfl
        · rw [List.length_append, List.length_singleton]
          omega
        · exact absurd (congrArg List.length q) (by rw [List.length_append, List.length_singleton]; exact Nat.succ_ne_zero _)
      · refine ⟨s', acc, hZ, by omega, fun q x hx => ?_⟩
        by_cases z : x = j
        · rw [z]
          omega
        · exact ha q x (by omega)
    · rintro HM ⟨sM, acc, hZ, hl, ha⟩
      refine ⟨Nat.zero_le _, fun Z2 nZ2 => ?_⟩
      have sZ2 := same_upd (o := .lst []) nZ2
      refine ⟨dataI acc, .list [], .lst (SqL.of (sZ2 _ _ hZ)) (dp_ints acc), .lst (SqL.of upd_same) .nil, shaped_ints acc, rfl, ?_⟩
      rw [ne_nil_ints]
      refine ⟨_, rfl, ite3 (fun e => ?_) (fun e => ?_)⟩
      · exact ⟨_, rfl, d2, _, _, _, _, _, _, _, _, _, rfl, sM.trans sZ2, k2L.same (sM.trans sZ2)⟩
      · refine ⟨dl, _, _, _, _, _, _, _, _, _, rfl, sM.trans sZ2, RK.same ⟨T3, p3, r3, R3, W_ok w3 nn3 fun x hx => ha (by simpa using e) x (by omega), b3, cc3⟩ (sM.trans sZ2)⟩
  rintro σ HM ⟨dl, v2, v3, v4, v7, v8, v9, v11, v22, v23, rfl, sM, k3⟩
  have frM : Fr p l H HM := frL.trans (Same.fr sM)
  have DM := DL.same sM
  have kmM := kmL.same sM
  have k1M := k1L.same sM
  have k2M := k2L.same sM
  clear kmL k1L k2L DL sM frL
  -- size, tall
  refine ⟨_, rfl, p, l, nC + 1, 39, rfl, DM, by omega, by omega, by decide, by decide, fun sz HN sz0 sz1 fN DN => ?_⟩
  refine ⟨_, _, rfl, rfl, _, rfl, _, _, rfl, rfl, ⟨by decide, by decide, by decide⟩, p, l, nC + 1 + 1, 10 ^ 11, rfl, DN, by omega, by omega, by decide, by decide, fun tw HO tw0 tw1 fO DO => ?_⟩
  refine ⟨_, _, rfl, rfl, _, _, rfl, ?_⟩
  have fMO := fN.trans fO
  have kmO := kmM.fr fMO DM
  have k1O := k1M.fr fMO DM
  have k2O := k2M.fr fMO DM
  have k3O := k3.fr fMO DM
  have frO := frM.trans fMO
  have tw1 : tw < 100000000000 := tw1
  clear kmM k1M k2M k3 fMO frM DM fN fO DN
  -- slow, fast
  refine ⟨_, rfl, (by show 1 ≤ sizeLine; decide), fun a1 na1 => ?_⟩
  have s1 := same_upd (o := .tup [.int (1 + tw)]) na1
  refine ⟨_, _, rfl, rfl, ⟨by decide, by decide, by decide⟩, (by show 3 ≤ sizeLine; decide), fun ds nds => ?_⟩
  have s2 := same_upd (o := .tup [.ref a1, .int 1, .int (10 ^ Int.toNat 9)]) nds
  have kslow : RK (upd (upd HO a1 (.tup [.int (1 + tw)])) ds (.tup [.ref a1, .int 1, .int (10 ^ Int.toNat 9)])) ds := by
    refine ⟨[1 + tw], 1, 10 ^ Int.toNat 9, ⟨a1, upd_same, s2 _ _ upd_same⟩, one_ok (by omega) (by decide), ⟨show 1 ≤ 300 by decide, by decide, fun i h => ?_⟩, by decide⟩
    have h : i < 1 := h
    rw [show i = 0 by omega]
    show 1 + tw ≤ _
    omega
  refine ⟨(by show 1 ≤ sizeLine; decide), fun z1 nz1 => ?_⟩
  have s3 := same_upd (o := .tup [.int 0]) nz1
  refine ⟨_, rfl, z1, _, [.int 0], rfl, rfl, upd_same, List.cons_ne_nil _ _, by omega, by omega, by decide, fun HP z2 s4 hz2 => ?_⟩
  rw [flat_one, rep_int] at hz2
  refine ⟨_, rfl, _, rfl, _, _, rfl, rfl, ⟨by decide, by decide, by decide⟩, _, _, rfl, rfl, .inl ⟨by omega, by omega⟩, _, _, rfl, rfl, (by show 3 ≤ sizeLine; decide), fun df ndf => ?_⟩
  have s5 := same_upd (o := .tup [.ref z2, .int (1 + sz), .int ((1 + sz) * 10 ^ Int.toNat 9 + 1)]) ndf
  have kfast : RK (upd HP df (.tup [.ref z2, .int (1 + sz), .int ((1 + sz) * 10 ^ Int.toNat 9 + 1)])) df := by
    have e : (((1 + sz).toNat : Nat) : Int) = 1 + sz := by omega
    have e9 : (10 : Int) ^ Int.toNat 9 = 1000000000 := by decide
    refine ⟨List.replicate (1 + sz).toNat 0, (1 + sz).toNat, (1 + sz) * 10 ^ Int.toNat 9 + 1, ⟨z2, by rw [e]; exact upd_same, s5 _ _ hz2⟩, zero_ok (by omega) (by rw [e9]; omega), ⟨by rw [List.length_replicate]; omega, by rw [e9]; omega, fun i h => ?_⟩, by omega⟩
    rw [List.length_replicate] at h
    rw [getD_rep h]
    decide
  have sOQ := s1.trans (s2.trans (s3.trans (s4.trans s5)))
  have kslow := kslow.same (s3.trans (s4.trans s5))
  refine ⟨_, _, rfl, ?_⟩
  have DQ := DO.same sOQ
  have frQ := frO.trans (Same.fr sOQ)
  have kmQ := kmO.same sOQ
  have k1Q := k1O.same sOQ
  have k2Q := k2O.same sOQ
  have k3Q := k3O.same sOQ
  generalize upd HP df (.tup [.ref z2, .int (1 + sz), .int ((1 + sz) * 10 ^ Int.toNat 9 + 1)]) = HQ at DQ frQ kmQ k1Q k2Q k3Q kfast kslow ⊢
  clear kmO k1O k2O k3O sOQ s1 s2 s3 s4 s5 na1 nds nz1 ndf hz2 DO frO
  -- found
  refine ⟨_, rfl, _, rfl, (by show 2 ≤ sizeLine; decide), fun g1 ng1 => ⟨_, rfl, _, rfl, (by show 2 ≤ sizeLine; decide), fun g2 ng2 => ⟨_, rfl, _, rfl, (by show 2 ≤ sizeLine; decide), fun g3 ng3 => ⟨_, rfl, _, rfl, (by show 2 ≤ sizeLine; decide), fun g4 ng4 => ⟨(by show 4 ≤ sizeLine; decide), fun L nL => ?_⟩⟩⟩⟩⟩
  have s1 := same_upd (o := .tup [.ref d1, .ref d2]) ng1
  have s2 := same_upd (o := .tup [.ref d1, .ref d1]) ng2
  have s3 := same_upd (o := .tup [.ref dm, .ref d1]) ng3
  have s4 := same_upd (o := .tup [.ref d1, .ref dl]) ng4
  have s5 := same_upd (o := .lst [.ref g1, .ref g2, .ref g3, .ref g4]) nL
  have a1 := s2.trans (s3.trans (s4.trans s5))
  have a2 := s3.trans (s4.trans s5)
  have a3 := s4.trans s5
  have sR := s1.trans a1
  have prs : ∀ v ∈ [V.ref g1, V.ref g2, V.ref g3, V.ref g4], Pair (upd (upd (upd (upd (upd HQ g1 (.tup [.ref d1, .ref d2])) g2 (.tup [.ref d1, .ref d1])) g3 (.tup [.ref dm, .ref d1])) g4 (.tup [.ref d1, .ref dl])) L (.lst [.ref g1, .ref g2, .ref g3, .ref g4])) v := by
    intro v hv
    rcases List.mem_cons.mp hv with q | hv
    · exact ⟨g1, d1, d2, q, a1 _ _ upd_same, k1Q.same sR, k2Q.same sR⟩
    rcases List.mem_cons.mp hv with q | hv
    · exact ⟨g2, d1, d1, q, a2 _ _ upd_same, k1Q.same sR, k1Q.same sR⟩
    rcases List.mem_cons.mp hv with q | hv
    · exact ⟨g3, dm, d1, q, a3 _ _ upd_same, kmQ.same sR, k1Q.same sR⟩
    · exact ⟨g4, d1, dl, List.mem_singleton.mp hv, s5 _ _ upd_same, k1Q.same sR, k3Q.same sR⟩
  have hL : upd (upd (upd (upd (upd HQ g1 (.tup [.ref d1, .ref d2])) g2 (.tup [.ref d1, .ref d1])) g3 (.tup [.ref dm, .ref d1])) g4 (.tup [.ref d1, .ref dl])) L (.lst [.ref g1, .ref g2, .ref g3, .ref g4]) L = some (.lst [.ref g1, .ref g2, .ref g3, .ref g4]) := upd_same
  obtain ⟨Lp, Ll⟩ := (DQ.same (s1.trans (s2.trans (s3.trans s4)))).lne nL
  have DR := DQ.same sR
  have frR := frQ.trans (Same.fr sR)
  have kfastR := kfast.same sR
  have kslowR := kslow.same sR
  generalize upd (upd (upd (upd (upd HQ g1 (.tup [.ref d1, .ref d2])) g2 (.tup [.ref d1, .ref d1])) g3 (.tup [.ref dm, .ref d1])) g4 (.tup [.ref d1, .ref dl])) L (.lst [.ref g1, .ref g2, .ref g3, .ref g4]) = HR at prs hL DR frR kfastR kslowR ⊢
  clear s1 s2 s3 s4 s5 a1 a2 a3 sR DQ frQ kmQ k1Q k2Q k3Q kfast kslow ng1 ng2 ng3 ng4 nL
  -- p, q
  refine ⟨_, rfl, p, l, nC + 1 + 1 + 1, 10, rfl, DR, by omega, by omega, by decide, by decide, fun ra HS ra0 ra1 fS DS => ?_⟩
  refine ⟨_, _, rfl, rfl, _, rfl, p, l, nC + 1 + 1 + 1 + 1, 9, rfl, DS, by omega, by omega, by decide, by decide, fun rb HT_ rb0 rb1 fT DT => ?_⟩
  refine ⟨_, _, rfl, rfl, _, _, rfl, ?_⟩
  refine ⟨_, rfl, _, rfl, _, rfl, _, _, rfl, rfl, .inr ⟨_, rfl, _, _, rfl, rfl, ?_⟩⟩
  obtain ⟨qn, hqn, qn0, qn1⟩ : ∃ qn : Nat, 31 + rb + (if decide (31 + ra ≤ 31 + rb) = true then 1 else 0) = (qn : Int) ∧ 31 ≤ qn ∧ qn ≤ 40 := by
    refine ⟨(31 + rb + (if decide (31 + ra ≤ 31 + rb) = true then 1 else 0)).toNat, ?_, ?_, ?_⟩
    all_goals split <;> omega
  show gName 18 (V.int (31 + rb + (if decide (31 + ra ≤ 31 + rb) = true then 1 else 0))) _ _ _
  rw [hqn]
  -- rest
  refine ⟨_, rfl, _, rfl, _, _, rfl, rfl, p, l, nC + 1 + 1 + 1 + 1 + 1, _, rfl, DT, by omega, by omega, by omega, by omega, fun rc HU rc0 rc1 fU DU => ?_⟩
  refine ⟨_, _, rfl, rfl, ?_⟩
  have fRU := fS.trans (fT.trans fU)
  have hLU := fRU L _ Lp Ll hL
  have prsU : ∀ v ∈ [V.ref g1, V.ref g2, V.ref g3, V.ref g4], Pair HU v := fun v hv => (prs v hv).fr fRU DR
  have frU := frR.trans fRU
  have kfastU := kfastR.fr fRU DR
  have kslowU := kslowR.fr fRU DR
  obtain ⟨rn, hrn⟩ : ∃ rn : Nat, 1 + rc = (rn : Int) := ⟨(1 + rc).toNat, by omega⟩
  show gName 19 (V.int (1 + rc)) _ _ _
  rw [hrn]
  have epn : (((31 + ra).toNat : Nat) : Int) = 31 + ra := by omega
  clear prs hL DR frR kfastR kslowR fS fT fU DS DT fRU
  -- even
  refine ⟨(by show 1 ≤ sizeLine; decide), fun z1 nz1 => ?_⟩
  have s1 := same_upd (o := .tup [.int 0]) nz1
  refine ⟨_, rfl, z1, _, [.int 0], rfl, rfl, upd_same, List.cons_ne_nil _ _, by omega, by omega, by decide, fun HV z2 s2 hz2 => ?_⟩
  rw [flat_one, rep_int] at hz2
  refine ⟨_, rfl, _, rfl, (by show 3 ≤ sizeLine; decide), fun de nde => ?_⟩
  have s3 := same_upd (o := .tup [.ref z2, .int (31 + ra), .int (31 + ra)]) nde
  have keven : RK (upd HV de (.tup [.ref z2, .int (31 + ra), .int (31 + ra)])) de := by
    refine ⟨List.replicate (31 + ra).toNat 0, (31 + ra).toNat, 31 + ra, ⟨z2, by rw [epn]; exact upd_same, s3 _ _ hz2⟩, zero_ok (by omega) (by omega), ⟨by rw [List.length_replicate]; omega, by omega, fun i h => ?_⟩, by omega⟩
    rw [List.length_replicate] at h
    rw [getD_rep h]
    decide
  have sW := s1.trans (s2.trans s3)
  generalize upd HV de (.tup [.ref z2, .int (31 + ra), .int (31 + ra)]) = HW at keven sW ⊢
  -- rare
  refine ⟨_, rfl, _, _, rfl, rfl, (by show 1 ≤ sizeLine; decide), fun y1 ny1 => ?_⟩
  have t1 := same_upd (o := .tup [.int ((rn : Int) - 1)]) ny1
  refine ⟨_, rfl, _, _, rfl, rfl, y1, _, [.int ((rn : Int) - 1)], rfl, rfl, upd_same, List.cons_ne_nil _ _, by omega, by omega, by show 1 ≤ 1000; decide, fun HX y2 t2 hy2 => ?_⟩
  rw [flat_one, rep_int, show ((rn : Int) + 1).toNat = rn + 1 by omega] at hy2
  refine ⟨_, rfl, _, rfl, _, _, rfl, rfl, _, _, rfl, rfl, (by show 1 ≤ sizeLine; decide), fun y3 ny3 => ?_⟩
  have t3 := same_upd (o := .tup [.int ((rn : Int) + (qn : Int) - 1)]) ny3
  refine ⟨_, rfl, _, rfl, _, _, rfl, rfl, _, _, rfl, rfl, y3, _, [.int ((rn : Int) + (qn : Int) - 1)], rfl, rfl, upd_same, List.cons_ne_nil _ _, by omega, by omega, by show 1 ≤ 1000; decide, fun HY y4 t4 hy4 => ?_⟩
  rw [flat_one, rep_int, show ((qn : Int) - (rn : Int) - 1).toNat = qn - rn - 1 by omega] at hy4
  refine cat_uni ((t3.trans t4) _ _ hy2) hy4 (by rw [List.length_map, List.length_map, List.length_replicate, List.length_replicate]; exact Nat.le_trans (by omega : rn + 1 + (qn - rn - 1) ≤ 1000) (by decide)) fun y5 HZ t5 hy5 => ?_
  rw [← List.map_append] at hy5
  refine ⟨_, rfl, _, rfl, (by show 3 ≤ sizeLine; decide), fun dr ndr => ?_⟩
  have t6 := same_upd (o := .tup [.ref y5, .int (qn : Int), .int (qn : Int)]) ndr
  have rl := rare_len (q := qn) (s := rn) (by omega)
  have ro := rare_ok (q := qn) (s := rn) (by omega) (by omega)
  refine ⟨dr, rareT qn rn, qn, qn, rfl, ⟨y5, upd_same, t6 _ _ hy5⟩, ro.w, ⟨by rw [rl]; omega, by omega, fun i h => ?_⟩, fun HE2 dq T5 p5 r5 t7 R5 w5 b5 q5 c5 _ ho5 _ => ?_⟩
  · rw [rl] at h
    rw [rare_get (by omega) h]
    split <;> omega
  refine ⟨_, _, rfl, ?_⟩
  have krare : RK HE2 dq := ⟨T5, p5, r5, R5, ho5 ro, b5, by omega⟩
  have sV := t1.trans (t2.trans (t3.trans (t4.trans (t5.trans (t6.trans t7)))))
  have sU := sW.trans sV
  have keven := keven.same sV
  have kfastV := kfastU.same sU
  have kslowV := kslowU.same sU
  -- all
  refine ⟨_, rfl, _, rfl, _, rfl, (by show 2 ≤ sizeLine; decide), fun h1 nh1 => ⟨_, rfl, _, rfl, (by show 2 ≤ sizeLine; decide), fun h2 nh2 => ⟨(by show 2 ≤ sizeLine; decide), fun M nM => ?_⟩⟩⟩
  have w1 := same_upd (o := .tup [.ref df, .ref ds]) nh1
  have w2 := same_upd (o := .tup [.ref de, .ref dq]) nh2
  have w3 := same_upd (o := .lst [.ref h1, .ref h2]) nM
  refine ⟨_, _, _, _, rfl, rfl, (sU.trans (w1.trans (w2.trans w3))) _ _ hLU, upd_same, (by show 4 + 2 ≤ sizeLine; decide), fun q nq => ?_⟩
  have w4 := same_upd (o := .lst [.ref g1, .ref g2, .ref g3, .ref g4, .ref h1, .ref h2]) nq
  have sT := sU.trans (w1.trans (w2.trans (w3.trans w4)))
  have sw := w1.trans (w2.trans (w3.trans w4))
  obtain ⟨qp, ql⟩ := (DU.same (sU.trans (w1.trans (w2.trans w3)))).lne nq
  refine k _ q _ _ (frU.trans (Same.fr sT)) (DU.same sT) (by omega) (by omega) upd_same qp ql (by show 6 ≤ 10; decide) fun v hv => ?_
  rcases List.mem_append.mp hv with hv | hv
  · exact (prsU v hv).same sT
  rcases List.mem_cons.mp hv with e | hv
  · exact ⟨h1, df, ds, e, (w2.trans (w3.trans w4)) _ _ upd_same, kfastV.same sw, kslowV.same sw⟩
  · exact ⟨h2, de, dq, List.mem_singleton.mp hv, (w3.trans w4) _ _ upd_same, keven.same sw, krare.same sw⟩
end
end Sm

set_option Elab.async false
set_option linter.all false
set_option maxRecDepth 100000
set_option maxHeartbeats 32000000
namespace Sm
open PySem PySem.Spec PyProof.Rows L2
def sp_law (K : PySem.W.Frag) : Sp := fun vs H Q _ => ∃ (a : Addr) (ns : List Int), vs = [.ref a] ∧ SqL K H a (ns.map V.int) ∧ ns.length ≤ 63 ∧ ∀ H', Q (.bl true) H'
/-- the two rules of the last question -/
theorem last_fst : IsFst (List.replicate 40 0) 40 1 [10 ^ 12 - 1] 1 0 (some 40000000000000) := by
  have g : ∀ x, gp (List.replicate 40 0) 40 1 [10 ^ 12 - 1] 1 0 x = ((x / 40 : Nat) : Int) - (10 ^ 12 - 1) := by
    intro x
    have a : vl [10 ^ 12 - 1] 1 0 x = 10 ^ 12 - 1 := by
      induction x with
      | zero => rfl
      | succ x ih =>
        rw [vl_step (by decide) (Nat.le_refl 1) (show 1 ≤ x + 1 by omega), Nat.add_sub_cancel, ih]
        omega
    have b : ∀ x, vl (List.replicate 40 0) 40 1 x = ((x / 40 : Nat) : Int) := by
      intro x
      induction x using Nat.strongRecOn with
      | _ x ih =>
        by_cases q : x < 40
        · rw [vl_lt (by rw [List.length_replicate]; exact q), getD_rep q, Nat.div_eq_of_lt q]
          rfl
        · rw [vl_step (by decide) (by rw [List.length_replicate]; exact Nat.le_refl _) (by rw [List.length_replicate]; omega), ih (x - 40) (by omega)]
          omega
    unfold gp
    rw [a, b]
  refine ⟨?_, fun z hz => ?_⟩
  · rw [g]
    omega
  · rw [g]
    omega
section
variable {P : Program} {w : World} {K : PySem.W.Frag} {mg : Str → Option Value} {base : Heap}
abbrev s_law : Stmt := topS 18
abbrev N_law : List Str := ["_law_script", "_law_deck_here", "_law_turn", "_law_one_here", "_law_other", "_law_first", "_law_second", "_law_told"]
theorem sc_law : FnScope N_law ["_law_script"] (defScope s_law) := ⟨rfl, rfl, rfl, by decide +kernel, rfl, by decide +kernel, by decide +kernel⟩
theorem ok_lawG {f : Addr} {fd : FuncData} (T : Txt mg) (F : Fun K "law" "law" s_law f fd) (C_first_above : Cal P w K mg base "first_above" ["one", "other"] 3 (sp_first_above K)) (C_l_pairs : Cal P w K mg base "_law_pairs" ["_law_deck_here", "_law_turn"] 5 (sp_l_pairs K)) (C_l_is_first : Cal P w K mg base "_law_is_first" ["_law_one_here", "_law_other", "_law_told"] 3 (sp_l_is_first K)) (C_l_deck : Cal P w K mg base "_law_deck" ["_law_script"] 1 (sp_l_deck K)) : FnG P w K mg base 6 f fd ["_law_script"] (sp_law K) := by
  obtain ⟨f_first_above, fd_first_above, G_first_above, m_first_above, k_first_above, b_first_above⟩ := C_first_above
  obtain ⟨f_l_pairs, fd_l_pairs, G_l_pairs, m_l_pairs, k_l_pairs, b_l_pairs⟩ := C_l_pairs
  obtain ⟨f_l_is_first, fd_l_is_first, G_l_is_first, m_l_is_first, k_l_is_first, b_l_is_first⟩ := C_l_is_first
  obtain ⟨f_l_deck, fd_l_deck, G_l_deck, m_l_deck, k_l_deck, b_l_deck⟩ := C_l_deck
  refine FnG.body F sc_law (fun vs H Q E h => ?_) (fun cdv A outer s H vs Q E gu hr h => ?_)
  · obtain ⟨a, ns, rfl, _⟩ := h
    rfl
  obtain ⟨a, ns, rfl, hS, hlen, kk⟩ := h
  refine ⟨_, (pss_cons (ps_set (i := 1) sc_law.nd rfl (Or.inl rfl) (pe_call G_l_deck (hr.mono (by decide)) (by rfl) m_l_deck k_l_deck b_l_deck .nil pass0 (pa_cons (pv 0) pa_nil)))
    (pss_cons (ps_for PassesOwn.never rfl (pi_range1 (by rfl) T.n_range (pa_cons pe_int pa_nil)) (pg_name (i := 2) sc_law.nd rfl (Or.inl rfl))
      (pss_one (ps_for PassesOwn.never rfl (pi_list (pe_call G_l_pairs (hr.mono (by decide)) (by rfl) m_l_pairs k_l_pairs b_l_pairs .nil pass0 (pa_cons (pv 1) (pa_cons (pv 2) pa_nil)))) (pg_tup (by rfl) (pgs_cons (pg_name (i := 3) sc_law.nd rfl (Or.inl rfl)) (pgs_cons (pg_name (i := 4) sc_law.nd rfl (Or.inl rfl)) pgs_nil)))
      (pss_one (ps_for PassesOwn.never rfl (pi_list (pe_lst (pa_cons (pe_tup (pa_cons (pv 3) (pa_cons (pv 4) pa_nil))) (pa_cons (pe_tup (pa_cons (pv 4) (pa_cons (pv 3) pa_nil))) pa_nil)))) (pg_tup (by rfl) (pgs_cons (pg_name (i := 5) sc_law.nd rfl (Or.inl rfl)) (pgs_cons (pg_name (i := 6) sc_law.nd rfl (Or.inl rfl)) pgs_nil)))
      (pss_cons (ps_set (i := 7) sc_law.nd rfl (Or.inl rfl) (pe_call G_first_above (hr.mono (by decide)) (by rfl) m_first_above k_first_above b_first_above .nil pass0 (pa_cons (pv 5) (pa_cons (pv 6) pa_nil))))
    (pss_one (ps_if (PW.pt (pw_or (pt_not (pt_val (pe_call G_l_is_first (hr.mono (by decide)) (by rfl) m_l_is_first k_l_is_first b_l_is_first .nil pass0 (pa_cons (pv 5) (pa_cons (pv 6) (pa_cons (pv 7) pa_nil)))))) (pw_or1 (pt_cmpR op_ne (pe_callB call_repr_some (by rfl) T.n_repr (by decide +kernel) (pa_cons (pe_call G_first_above (hr.mono (by decide)) (by rfl) m_first_above k_first_above b_first_above .nil pass0 (pa_cons (pv 5) (pa_cons (pv 6) pa_nil))) pa_nil)) (pe_callB call_repr_some (by rfl) T.n_repr (by decide +kernel) (pa_cons (pv 7) pa_nil)) (nomark _))))) (pss_one (ps_ret pe_bl)) pss_nil))))))))
    (pss_one (ps_ret (pe_cmpR op_eq (pe_call G_first_above (hr.mono (by decide)) (by rfl) m_first_above k_first_above b_first_above .nil pass0 (pa_cons (pe_tup (pa_cons (pe_op op_rep0 (pe_tup (pa_cons pe_int pa_nil)) pe_int) (pa_cons pe_int (pa_cons pe_int pa_nil)))) (pa_cons (pe_tup (pa_cons (pe_tup (pa_cons (pe_op op_sub (pe_op op_pow pe_int pe_int) pe_int) pa_nil)) (pa_cons pe_int (pa_cons pe_int pa_nil)))) pa_nil))) (pe_op op_mul pe_int (pe_op op_pow pe_int pe_int)) (nomark _)))))), ?_⟩
  refine ⟨_, rfl, a, ns, rfl, hS, hlen, fun H1 p l s1 D1 => ?_⟩
  refine ⟨5, rfl, (by decide), (by decide), for_range (lo := 0) (n := 5) (fun i σ H' => ∃ (n : Int) (v2 v3 v4 v5 v6 v7 : Option V), σ = [some (.ref a), some (.ref p), v2, v3, v4, v5, v6, v7] ∧ Deck H' p l n ∧ 0 ≤ n ∧ n ≤ 5000 * (i : Int))
    ⟨0, none, none, none, none, none, none, rfl, D1, by omega, by omega⟩ ?_ ?_⟩
  · rintro i σ H2 hi ⟨n, v2, v3, v4, v5, v6, v7, rfl, D2, n0, n1⟩
    refine ⟨_, rfl, _, rfl, p, l, n, i, congrArg (fun z => [V.ref p, V.int z]) (Int.zero_add _), hi, D2, n0, by omega, fun H3 L n' xs f3 D3 m0 m1 hL Lp Ll _ prs => ?_⟩
    refine ⟨L, rfl, ⟨_, SqL.of hL⟩, for_list (K := K) (a := L) (xs := xs) (fun j σ H' => Same H3 H' ∧ ∃ (w3 w4 w5 w6 w7 : Option V), σ = [some (.ref a), some (.ref p), some (.int (0 + (i : Int))), w3, w4, w5, w6, w7])
      ⟨Same.refl _, _, _, _, _, _, rfl⟩ (fun j σ H' _ h => SqL.of (h.1 _ _ hL)) ?_ ?_⟩
    · rintro j x σ H' hx ⟨s', w3, w4, w5, w6, w7, rfl⟩
      obtain ⟨t, e1, e2, rfl, ht, k1, k2⟩ := (prs x (List.mem_of_getElem? hx)).same s'
      refine ⟨_, _, rfl, SqT.of ht, rfl, _, _, rfl, _, _, rfl, rfl, ?_⟩
      refine ⟨_, rfl, _, rfl, (by show 2 ≤ sizeLine; decide), fun g1 ng1 => ⟨_, rfl, _, rfl, (by show 2 ≤ sizeLine; decide), fun g2 ng2 => ⟨(by show 2 ≤ sizeLine; decide), fun M nM => ?_⟩⟩⟩
      have z1 := same_upd (o := .tup [.ref e1, .ref e2]) ng1
      have z2 := same_upd (o := .tup [.ref e2, .ref e1]) ng2
      have z3 := same_upd (o := .lst [.ref g1, .ref g2]) nM
      have hM : upd (upd (upd H' g1 (.tup [.ref e1, .ref e2])) g2 (.tup [.ref e2, .ref e1])) M (.lst [.ref g1, .ref g2]) M = some (.lst [.ref g1, .ref g2]) := upd_same
      have zz := z1.trans (z2.trans z3)
      have both : ∀ v ∈ [V.ref g1, V.ref g2], Pair (upd (upd (upd H' g1 (.tup [.ref e1, .ref e2])) g2 (.tup [.ref e2, .ref e1])) M (.lst [.ref g1, .ref g2])) v := by
        intro v hv
        rcases List.mem_cons.mp hv with q | hv
        · exact ⟨g1, e1, e2, q, (z2.trans z3) _ _ upd_same, k1.same zz, k2.same zz⟩
        · exact ⟨g2, e2, e1, List.mem_singleton.mp hv, z3 _ _ upd_same, k2.same zz, k1.same zz⟩
      generalize upd (upd (upd H' g1 (.tup [.ref e1, .ref e2])) g2 (.tup [.ref e2, .ref e1])) M (.lst [.ref g1, .ref g2]) = HM at hM zz both ⊢
      refine ⟨M, rfl, ⟨_, SqL.of hM⟩, for_list (K := K) (a := M) (xs := [V.ref g1, V.ref g2]) (fun j σ H' => Same HM H' ∧ ∃ (w5 w6 w7 : Option V), σ = [some (.ref a), some (.ref p), some (.int (0 + (i : Int))), some (.ref e1), some (.ref e2), w5, w6, w7])
        ⟨Same.refl _, _, _, _, rfl⟩ (fun j σ H' _ h => SqL.of (h.1 _ _ hM)) ?_ ?_⟩
      · rintro j' x' σ H4 hx' ⟨s4, u5, u6, u7, rfl⟩
        obtain ⟨gt, f1, f2, rfl, hgt, kf1, kf2⟩ := (both x' (List.mem_of_getElem? hx')).same s4
        obtain ⟨T1, p1, r1, R1, o1, b1, c1⟩ := kf1
        obtain ⟨T2, p2, r2, R2, o2, b2, c2⟩ := kf2
        refine ⟨_, _, rfl, SqT.of hgt, rfl, _, _, rfl, _, _, rfl, rfl, ?_⟩
        refine ⟨_, rfl, _, rfl, f1, f2, T1, T2, p1, p2, r1, r2, rfl, R1, R2, o1, o2, b1, b2, c1, c2, fun H5 oo s5 fst big => ?_⟩
        refine ⟨_, rfl, _, rfl, _, rfl, f1, f2, T1, T2, p1, p2, r1, r2, oo, rfl, R1.same s5, R2.same s5, o1.w, o2.w, b1, b2, c1, c2, fst, fun H6 s6 => ?_⟩
        refine ⟨_, rfl, iteF ?_⟩
        refine ⟨_, rfl, _, rfl, f1, f2, T1, T2, p1, p2, r1, r2, rfl, (R1.same s5).same s6, (R2.same s5).same s6, o1, o2, b1, b2, c1, c2, fun H7 o3 s7 fst3 _ => ?_⟩
        obtain rfl := fst_one fst fst3
        have sz := s4.trans (s5.trans (s6.trans s7))
        cases oo with
        | none => exact .inr ⟨rfl, _, rfl, .inr ⟨rfl, rfl, _, rfl, iteNP rfl ⟨sz, _, _, _, rfl⟩⟩⟩
        | some x =>
          have xl := small_log30 (big x rfl)
          exact .inl ⟨_, rfl, xl, _, rfl, .inl ⟨_, rfl, xl, rfl, _, rfl, iteNP rfl ⟨sz, _, _, _, rfl⟩⟩⟩
      · rintro σ H4 ⟨s4, u5, u6, u7, rfl⟩
        exact ⟨s'.trans (zz.trans s4), _, _, _, _, _, rfl⟩
    · rintro σ H4 ⟨s4, u3, u4, u5, u6, u7, rfl⟩
      exact ⟨n', _, _, _, _, _, _, rfl, D3.same s4, by omega, by omega⟩
  · rintro σ H' ⟨n, v2, v3, v4, v5, v6, v7, rfl, D2, n0, n1⟩
    refine ⟨(by show 1 ≤ sizeLine; decide), fun z nz => ?_⟩
    refine ⟨z, 40, [.int 0], rfl, rfl, upd_same, List.cons_ne_nil _ _, by decide, by decide, by decide, fun H5 q s5 hq => ?_⟩
    refine ⟨(by show 3 ≤ sizeLine; decide), fun d1 nd1 => ?_⟩
    have z1 := same_upd (o := .tup [.ref q, .int 40, .int 1]) nd1
    refine ⟨_, _, rfl, rfl, ⟨by decide, by decide, by decide⟩, _, _, rfl, rfl, (by show 1 ≤ sizeLine; decide), fun y ny => ⟨(by show 3 ≤ sizeLine; decide), fun d2 nd2 => ?_⟩⟩
    have z2 := same_upd (o := .tup [.int (10 ^ 12 - 1)]) ny
    have z3 := same_upd (o := .tup [.ref y, .int 1, .int 0]) nd2
    rw [flat_one, rep_int] at hq
    refine ⟨d1, d2, List.replicate 40 0, [10 ^ 12 - 1], 40, 1, 1, 0, rfl, ⟨q, (z2.trans z3) _ _ upd_same, (z1.trans (z2.trans z3)) _ _ hq⟩, ⟨y, upd_same, z3 _ _ upd_same⟩, zero_ok (by decide) (by decide), one_ok (by decide) (by decide), ⟨by decide, by decide, fun i h => ?_⟩, ⟨by decide, by decide, fun i h => ?_⟩, by decide, by decide, fun H6 oo s6 fst _ => ?_⟩
    · rw [List.length_replicate] at h
      rw [getD_rep h]
      decide
    · have h : i < 1 := h
      rw [show i = 0 by omega]
      decide
    obtain rfl := fst_one last_fst fst
    refine ⟨_, _, rfl, rfl, ⟨by decide, by decide, by decide⟩, _, _, rfl, rfl, .inl ⟨by decide, by decide⟩, ?_⟩
    have q : decide (optV (some 40000000000000) = V.int (40 * 10 ^ Int.toNat 12)) = true := by decide +kernel
    refine ⟨rfl, ?_⟩
    show Q (.bl (decide (optV (some 40000000000000) = V.int (40 * 10 ^ Int.toNat 12)))) H6
    rw [q]
    exact kk _
end
end Sm

set_option Elab.async false
set_option linter.all false
set_option maxRecDepth 100000
set_option maxHeartbeats 16000000
namespace Sm
open PySem PySem.Spec PyProof.Rows L2
theorem all_mk {l : PySem.W.OpenLaw} {w : World} {K : PySem.W.Frag} {h : Heap} {mg : Str → Option Value} {fa : Addr} (X : K.In h) (G : h.Ns mainGlobals mg) (hfa : mg "law" = some (.ref fa))
    {F_values_to : Addr} {od_values_to an_values_to : Option Addr} {sl_values_to : Array (Option Value)} {oc_values_to kV_values_to dc_values_to pm_values_to cd_values_to ct_values_to : Value} (a_values_to : PySem.W.nsIn K mainGlobals "values_to" = some (some (.ref F_values_to))) (l_values_to : K.lookup F_values_to = some ⟨oc_values_to, od_values_to, .func (PySem.W.fnOf "values_to" "values_to" (defArgs s_values_to) (defBody s_values_to) (defScope s_values_to) .none kV_values_to dc_values_to pm_values_to an_values_to cd_values_to ct_values_to), sl_values_to⟩) (c_values_to : PySem.W.codeIn K cd_values_to "values_to" = true) (k_values_to : PySem.W.keepIn K (.ref F_values_to) = true)
    {F_first_above : Addr} {od_first_above an_first_above : Option Addr} {sl_first_above : Array (Option Value)} {oc_first_above kV_first_above dc_first_above pm_first_above cd_first_above ct_first_above : Value} (a_first_above : PySem.W.nsIn K mainGlobals "first_above" = some (some (.ref F_first_above))) (l_first_above : K.lookup F_first_above = some ⟨oc_first_above, od_first_above, .func (PySem.W.fnOf "first_above" "first_above" (defArgs s_first_above) (defBody s_first_above) (defScope s_first_above) .none kV_first_above dc_first_above pm_first_above an_first_above cd_first_above ct_first_above), sl_first_above⟩) (c_first_above : PySem.W.codeIn K cd_first_above "first_above" = true) (k_first_above : PySem.W.keepIn K (.ref F_first_above) = true)
    {F_begin_of : Addr} {od_begin_of an_begin_of : Option Addr} {sl_begin_of : Array (Option Value)} {oc_begin_of kV_begin_of dc_begin_of pm_begin_of cd_begin_of ct_begin_of : Value} (a_begin_of : PySem.W.nsIn K mainGlobals "begin_of" = some (some (.ref F_begin_of))) (l_begin_of : K.lookup F_begin_of = some ⟨oc_begin_of, od_begin_of, .func (PySem.W.fnOf "begin_of" "begin_of" (defArgs s_begin_of) (defBody s_begin_of) (defScope s_begin_of) .none kV_begin_of dc_begin_of pm_begin_of an_begin_of cd_begin_of ct_begin_of), sl_begin_of⟩) (c_begin_of : PySem.W.codeIn K cd_begin_of "begin_of" = true) (k_begin_of : PySem.W.keepIn K (.ref F_begin_of) = true)
    {F_rise_in : Addr} {od_rise_in an_rise_in : Option Addr} {sl_rise_in : Array (Option Value)} {oc_rise_in kV_rise_in dc_rise_in pm_rise_in cd_rise_in ct_rise_in : Value} (a_rise_in : PySem.W.nsIn K mainGlobals "rise_in" = some (some (.ref F_rise_in))) (l_rise_in : K.lookup F_rise_in = some ⟨oc_rise_in, od_rise_in, .func (PySem.W.fnOf "rise_in" "rise_in" (defArgs s_rise_in) (defBody s_rise_in) (defScope s_rise_in) .none kV_rise_in dc_rise_in pm_rise_in an_rise_in cd_rise_in ct_rise_in), sl_rise_in⟩) (c_rise_in : PySem.W.codeIn K cd_rise_in "rise_in" = true) (k_rise_in : PySem.W.keepIn K (.ref F_rise_in) = true)
    {F_common_turn : Addr} {od_common_turn an_common_turn : Option Addr} {sl_common_turn : Array (Option Value)} {oc_common_turn kV_common_turn dc_common_turn pm_common_turn cd_common_turn ct_common_turn : Value} (a_common_turn : PySem.W.nsIn K mainGlobals "common_turn" = some (some (.ref F_common_turn))) (l_common_turn : K.lookup F_common_turn = some ⟨oc_common_turn, od_common_turn, .func (PySem.W.fnOf "common_turn" "common_turn" (defArgs s_common_turn) (defBody s_common_turn) (defScope s_common_turn) .none kV_common_turn dc_common_turn pm_common_turn an_common_turn cd_common_turn ct_common_turn), sl_common_turn⟩) (c_common_turn : PySem.W.codeIn K cd_common_turn "common_turn" = true) (k_common_turn : PySem.W.keepIn K (.ref F_common_turn) = true)
    {F_l_deck : Addr} {od_l_deck an_l_deck : Option Addr} {sl_l_deck : Array (Option Value)} {oc_l_deck kV_l_deck dc_l_deck pm_l_deck cd_l_deck ct_l_deck : Value} (a_l_deck : PySem.W.nsIn K mainGlobals "_law_deck" = some (some (.ref F_l_deck))) (l_l_deck : K.lookup F_l_deck = some ⟨oc_l_deck, od_l_deck, .func (PySem.W.fnOf "_law_deck" "_law_deck" (defArgs s_l_deck) (defBody s_l_deck) (defScope s_l_deck) .none kV_l_deck dc_l_deck pm_l_deck an_l_deck cd_l_deck ct_l_deck), sl_l_deck⟩) (c_l_deck : PySem.W.codeIn K cd_l_deck "_law_deck" = true) (k_l_deck : PySem.W.keepIn K (.ref F_l_deck) = true)
    {F_l_draw : Addr} {od_l_draw an_l_draw : Option Addr} {sl_l_draw : Array (Option Value)} {oc_l_draw kV_l_draw dc_l_draw pm_l_draw cd_l_draw ct_l_draw : Value} (a_l_draw : PySem.W.nsIn K mainGlobals "_law_draw" = some (some (.ref F_l_draw))) (l_l_draw : K.lookup F_l_draw = some ⟨oc_l_draw, od_l_draw, .func (PySem.W.fnOf "_law_draw" "_law_draw" (defArgs s_l_draw) (defBody s_l_draw) (defScope s_l_draw) .none kV_l_draw dc_l_draw pm_l_draw an_l_draw cd_l_draw ct_l_draw), sl_l_draw⟩) (c_l_draw : PySem.W.codeIn K cd_l_draw "_law_draw" = true) (k_l_draw : PySem.W.keepIn K (.ref F_l_draw) = true)
    {F_l_one : Addr} {od_l_one an_l_one : Option Addr} {sl_l_one : Array (Option Value)} {oc_l_one kV_l_one dc_l_one pm_l_one cd_l_one ct_l_one : Value} (a_l_one : PySem.W.nsIn K mainGlobals "_law_one" = some (some (.ref F_l_one))) (l_l_one : K.lookup F_l_one = some ⟨oc_l_one, od_l_one, .func (PySem.W.fnOf "_law_one" "_law_one" (defArgs s_l_one) (defBody s_l_one) (defScope s_l_one) .none kV_l_one dc_l_one pm_l_one an_l_one cd_l_one ct_l_one), sl_l_one⟩) (c_l_one : PySem.W.codeIn K cd_l_one "_law_one" = true) (k_l_one : PySem.W.keepIn K (.ref F_l_one) = true)
    {F_l_value : Addr} {od_l_value an_l_value : Option Addr} {sl_l_value : Array (Option Value)} {oc_l_value kV_l_value dc_l_value pm_l_value cd_l_value ct_l_value : Value} (a_l_value : PySem.W.nsIn K mainGlobals "_law_value" = some (some (.ref F_l_value))) (l_l_value : K.lookup F_l_value = some ⟨oc_l_value, od_l_value, .func (PySem.W.fnOf "_law_value" "_law_value" (defArgs s_l_value) (defBody s_l_value) (defScope s_l_value) .none kV_l_value dc_l_value pm_l_value an_l_value cd_l_value ct_l_value), sl_l_value⟩) (c_l_value : PySem.W.codeIn K cd_l_value "_law_value" = true) (k_l_value : PySem.W.keepIn K (.ref F_l_value) = true)
    {F_l_repeats : Addr} {od_l_repeats an_l_repeats : Option Addr} {sl_l_repeats : Array (Option Value)} {oc_l_repeats kV_l_repeats dc_l_repeats pm_l_repeats cd_l_repeats ct_l_repeats : Value} (a_l_repeats : PySem.W.nsIn K mainGlobals "_law_repeats" = some (some (.ref F_l_repeats))) (l_l_repeats : K.lookup F_l_repeats = some ⟨oc_l_repeats, od_l_repeats, .func (PySem.W.fnOf "_law_repeats" "_law_repeats" (defArgs s_l_repeats) (defBody s_l_repeats) (defScope s_l_repeats) .none kV_l_repeats dc_l_repeats pm_l_repeats an_l_repeats cd_l_repeats ct_l_repeats), sl_l_repeats⟩) (c_l_repeats : PySem.W.codeIn K cd_l_repeats "_law_repeats" = true) (k_l_repeats : PySem.W.keepIn K (.ref F_l_repeats) = true)
    {F_l_least : Addr} {od_l_least an_l_least : Option Addr} {sl_l_least : Array (Option Value)} {oc_l_least kV_l_least dc_l_least pm_l_least cd_l_least ct_l_least : Value} (a_l_least : PySem.W.nsIn K mainGlobals "_law_least" = some (some (.ref F_l_least))) (l_l_least : K.lookup F_l_least = some ⟨oc_l_least, od_l_least, .func (PySem.W.fnOf "_law_least" "_law_least" (defArgs s_l_least) (defBody s_l_least) (defScope s_l_least) .none kV_l_least dc_l_least pm_l_least an_l_least cd_l_least ct_l_least), sl_l_least⟩) (c_l_least : PySem.W.codeIn K cd_l_least "_law_least" = true) (k_l_least : PySem.W.keepIn K (.ref F_l_least) = true)
    {F_l_rule : Addr} {od_l_rule an_l_rule : Option Addr} {sl_l_rule : Array (Option Value)} {oc_l_rule kV_l_rule dc_l_rule pm_l_rule cd_l_rule ct_l_rule : Value} (a_l_rule : PySem.W.nsIn K mainGlobals "_law_rule" = some (some (.ref F_l_rule))) (l_l_rule : K.lookup F_l_rule = some ⟨oc_l_rule, od_l_rule, .func (PySem.W.fnOf "_law_rule" "_law_rule" (defArgs s_l_rule) (defBody s_l_rule) (defScope s_l_rule) .none kV_l_rule dc_l_rule pm_l_rule an_l_rule cd_l_rule ct_l_rule), sl_l_rule⟩) (c_l_rule : PySem.W.codeIn K cd_l_rule "_law_rule" = true) (k_l_rule : PySem.W.keepIn K (.ref F_l_rule) = true)
    {F_l_gap : Addr} {od_l_gap an_l_gap : Option Addr} {sl_l_gap : Array (Option Value)} {oc_l_gap kV_l_gap dc_l_gap pm_l_gap cd_l_gap ct_l_gap : Value} (a_l_gap : PySem.W.nsIn K mainGlobals "_law_gap" = some (some (.ref F_l_gap))) (l_l_gap : K.lookup F_l_gap = some ⟨oc_l_gap, od_l_gap, .func (PySem.W.fnOf "_law_gap" "_law_gap" (defArgs s_l_gap) (defBody s_l_gap) (defScope s_l_gap) .none kV_l_gap dc_l_gap pm_l_gap an_l_gap cd_l_gap ct_l_gap), sl_l_gap⟩) (c_l_gap : PySem.W.codeIn K cd_l_gap "_law_gap" = true) (k_l_gap : PySem.W.keepIn K (.ref F_l_gap) = true)
    {F_l_is_first : Addr} {od_l_is_first an_l_is_first : Option Addr} {sl_l_is_first : Array (Option Value)} {oc_l_is_first kV_l_is_first dc_l_is_first pm_l_is_first cd_l_is_first ct_l_is_first : Value} (a_l_is_first : PySem.W.nsIn K mainGlobals "_law_is_first" = some (some (.ref F_l_is_first))) (l_l_is_first : K.lookup F_l_is_first = some ⟨oc_l_is_first, od_l_is_first, .func (PySem.W.fnOf "_law_is_first" "_law_is_first" (defArgs s_l_is_first) (defBody s_l_is_first) (defScope s_l_is_first) .none kV_l_is_first dc_l_is_first pm_l_is_first an_l_is_first cd_l_is_first ct_l_is_first), sl_l_is_first⟩) (c_l_is_first : PySem.W.codeIn K cd_l_is_first "_law_is_first" = true) (k_l_is_first : PySem.W.keepIn K (.ref F_l_is_first) = true)
    {F_l_pairs : Addr} {od_l_pairs an_l_pairs : Option Addr} {sl_l_pairs : Array (Option Value)} {oc_l_pairs kV_l_pairs dc_l_pairs pm_l_pairs cd_l_pairs ct_l_pairs : Value} (a_l_pairs : PySem.W.nsIn K mainGlobals "_law_pairs" = some (some (.ref F_l_pairs))) (l_l_pairs : K.lookup F_l_pairs = some ⟨oc_l_pairs, od_l_pairs, .func (PySem.W.fnOf "_law_pairs" "_law_pairs" (defArgs s_l_pairs) (defBody s_l_pairs) (defScope s_l_pairs) .none kV_l_pairs dc_l_pairs pm_l_pairs an_l_pairs cd_l_pairs ct_l_pairs), sl_l_pairs⟩) (c_l_pairs : PySem.W.codeIn K cd_l_pairs "_law_pairs" = true) (k_l_pairs : PySem.W.keepIn K (.ref F_l_pairs) = true)
    {F_law : Addr} {od_law an_law : Option Addr} {sl_law : Array (Option Value)} {oc_law kV_law dc_law pm_law cd_law ct_law : Value} (a_law : PySem.W.nsIn K mainGlobals "law" = some (some (.ref F_law))) (l_law : K.lookup F_law = some ⟨oc_law, od_law, .func (PySem.W.fnOf "law" "law" (defArgs s_law) (defBody s_law) (defScope s_law) .none kV_law dc_law pm_law an_law cd_law ct_law), sl_law⟩) (c_law : PySem.W.codeIn K cd_law "law" = true) (k_law : PySem.W.keepIn K (.ref F_law) = true)
    (z_abs : PySem.W.nsIn K mainGlobals "abs" = some none)
    (z_bool : PySem.W.nsIn K mainGlobals "bool" = some none)
    (z_int : PySem.W.nsIn K mainGlobals "int" = some none)
    (z_isinstance : PySem.W.nsIn K mainGlobals "isinstance" = some none)
    (z_len : PySem.W.nsIn K mainGlobals "len" = some none)
    (z_list : PySem.W.nsIn K mainGlobals "list" = some none)
    (z_max : PySem.W.nsIn K mainGlobals "max" = some none)
    (z_min : PySem.W.nsIn K mainGlobals "min" = some none)
    (z_range : PySem.W.nsIn K mainGlobals "range" = some none)
    (z_repr : PySem.W.nsIn K mainGlobals "repr" = some none)
    (z_tuple : PySem.W.nsIn K mainGlobals "tuple" = some none)
    (g_lcm : PySem.W.nsIn K mainGlobals "lcm" = some (some (.builtin "math.lcm"))) :
    ∃ fd : FuncData, (∀ (s : Shared) (v : Value), BindsTo s fd ⟨[v], []⟩ [("_law_script", v)]) ∧ ∀ base : Heap, K.In base → base.Ns mainGlobals mg → FnG l.prog w K mg base 6 fa fd ["_law_script"] (sp_law K) := by
  have e := hfa.symm.trans (PySem.W.mg_of X G a_law)
  cases e
  have T : Txt mg := ⟨PySem.W.mg_none_of X G z_abs, PySem.W.mg_none_of X G z_bool, PySem.W.mg_none_of X G z_int, PySem.W.mg_none_of X G z_isinstance, PySem.W.mg_none_of X G z_len, PySem.W.mg_none_of X G z_list, PySem.W.mg_none_of X G z_max, PySem.W.mg_none_of X G z_min, PySem.W.mg_none_of X G z_range, PySem.W.mg_none_of X G z_repr, PySem.W.mg_none_of X G z_tuple, PySem.W.mg_of X G g_lcm⟩
  have D_values_to : Df K mg "values_to" s_values_to ["rule", "count"] := ⟨_, _, fun_mk (st := s_values_to) l_values_to c_values_to k_values_to, PySem.W.mg_of X G a_values_to, (fun_mk (st := s_values_to) l_values_to c_values_to k_values_to).binds (ps := ["rule", "count"]) fun _ _ _ _ _ _ us hl => match us, hl with | [_, _], _ => rfl⟩
  have D_first_above : Df K mg "first_above" s_first_above ["one", "other"] := ⟨_, _, fun_mk (st := s_first_above) l_first_above c_first_above k_first_above, PySem.W.mg_of X G a_first_above, (fun_mk (st := s_first_above) l_first_above c_first_above k_first_above).binds (ps := ["one", "other"]) fun _ _ _ _ _ _ us hl => match us, hl with | [_, _], _ => rfl⟩
  have D_begin_of : Df K mg "begin_of" s_begin_of ["rule"] := ⟨_, _, fun_mk (st := s_begin_of) l_begin_of c_begin_of k_begin_of, PySem.W.mg_of X G a_begin_of, (fun_mk (st := s_begin_of) l_begin_of c_begin_of k_begin_of).binds (ps := ["rule"]) fun _ _ _ _ _ _ us hl => match us, hl with | [_], _ => rfl⟩
  have D_rise_in : Df K mg "rise_in" s_rise_in ["rule", "turn"] := ⟨_, _, fun_mk (st := s_rise_in) l_rise_in c_rise_in k_rise_in, PySem.W.mg_of X G a_rise_in, (fun_mk (st := s_rise_in) l_rise_in c_rise_in k_rise_in).binds (ps := ["rule", "turn"]) fun _ _ _ _ _ _ us hl => match us, hl with | [_, _], _ => rfl⟩
  have D_common_turn : Df K mg "common_turn" s_common_turn ["one", "other"] := ⟨_, _, fun_mk (st := s_common_turn) l_common_turn c_common_turn k_common_turn, PySem.W.mg_of X G a_common_turn, (fun_mk (st := s_common_turn) l_common_turn c_common_turn k_common_turn).binds (ps := ["one", "other"]) fun _ _ _ _ _ _ us hl => match us, hl with | [_, _], _ => rfl⟩
  have D_l_deck : Df K mg "_law_deck" s_l_deck ["_law_script"] := ⟨_, _, fun_mk (st := s_l_deck) l_l_deck c_l_deck k_l_deck, PySem.W.mg_of X G a_l_deck, (fun_mk (st := s_l_deck) l_l_deck c_l_deck k_l_deck).binds (ps := ["_law_script"]) fun _ _ _ _ _ _ us hl => match us, hl with | [_], _ => rfl⟩
  have D_l_draw : Df K mg "_law_draw" s_l_draw ["_law_deck_here", "_law_many"] := ⟨_, _, fun_mk (st := s_l_draw) l_l_draw c_l_draw k_l_draw, PySem.W.mg_of X G a_l_draw, (fun_mk (st := s_l_draw) l_l_draw c_l_draw k_l_draw).binds (ps := ["_law_deck_here", "_law_many"]) fun _ _ _ _ _ _ us hl => match us, hl with | [_, _], _ => rfl⟩
  have D_l_one : Df K mg "_law_one" s_l_one ["_law_deck_here", "_law_items"] := ⟨_, _, fun_mk (st := s_l_one) l_l_one c_l_one k_l_one, PySem.W.mg_of X G a_l_one, (fun_mk (st := s_l_one) l_l_one c_l_one k_l_one).binds (ps := ["_law_deck_here", "_law_items"]) fun _ _ _ _ _ _ us hl => match us, hl with | [_, _], _ => rfl⟩
  have D_l_value : Df K mg "_law_value" s_l_value ["_law_rule_here", "_law_x"] := ⟨_, _, fun_mk (st := s_l_value) l_l_value c_l_value k_l_value, PySem.W.mg_of X G a_l_value, (fun_mk (st := s_l_value) l_l_value c_l_value k_l_value).binds (ps := ["_law_rule_here", "_law_x"]) fun _ _ _ _ _ _ us hl => match us, hl with | [_, _], _ => rfl⟩
  have D_l_repeats : Df K mg "_law_repeats" s_l_repeats ["_law_rule_here", "_law_step", "_law_more"] := ⟨_, _, fun_mk (st := s_l_repeats) l_l_repeats c_l_repeats k_l_repeats, PySem.W.mg_of X G a_l_repeats, (fun_mk (st := s_l_repeats) l_l_repeats c_l_repeats k_l_repeats).binds (ps := ["_law_rule_here", "_law_step", "_law_more"]) fun _ _ _ _ _ _ us hl => match us, hl with | [_, _, _], _ => rfl⟩
  have D_l_least : Df K mg "_law_least" s_l_least ["_law_rule_here"] := ⟨_, _, fun_mk (st := s_l_least) l_l_least c_l_least k_l_least, PySem.W.mg_of X G a_l_least, (fun_mk (st := s_l_least) l_l_least c_l_least k_l_least).binds (ps := ["_law_rule_here"]) fun _ _ _ _ _ _ us hl => match us, hl with | [_], _ => rfl⟩
  have D_l_rule : Df K mg "_law_rule" s_l_rule ["_law_deck_here", "_law_long", "_law_wide", "_law_tall"] := ⟨_, _, fun_mk (st := s_l_rule) l_l_rule c_l_rule k_l_rule, PySem.W.mg_of X G a_l_rule, (fun_mk (st := s_l_rule) l_l_rule c_l_rule k_l_rule).binds (ps := ["_law_deck_here", "_law_long", "_law_wide", "_law_tall"]) fun _ _ _ _ _ _ us hl => match us, hl with | [_, _, _, _], _ => rfl⟩
  have D_l_gap : Df K mg "_law_gap" s_l_gap ["_law_one_here", "_law_other", "_law_x"] := ⟨_, _, fun_mk (st := s_l_gap) l_l_gap c_l_gap k_l_gap, PySem.W.mg_of X G a_l_gap, (fun_mk (st := s_l_gap) l_l_gap c_l_gap k_l_gap).binds (ps := ["_law_one_here", "_law_other", "_law_x"]) fun _ _ _ _ _ _ us hl => match us, hl with | [_, _, _], _ => rfl⟩
  have D_l_is_first : Df K mg "_law_is_first" s_l_is_first ["_law_one_here", "_law_other", "_law_told"] := ⟨_, _, fun_mk (st := s_l_is_first) l_l_is_first c_l_is_first k_l_is_first, PySem.W.mg_of X G a_l_is_first, (fun_mk (st := s_l_is_first) l_l_is_first c_l_is_first k_l_is_first).binds (ps := ["_law_one_here", "_law_other", "_law_told"]) fun _ _ _ _ _ _ us hl => match us, hl with | [_, _, _], _ => rfl⟩
  have D_l_pairs : Df K mg "_law_pairs" s_l_pairs ["_law_deck_here", "_law_turn"] := ⟨_, _, fun_mk (st := s_l_pairs) l_l_pairs c_l_pairs k_l_pairs, PySem.W.mg_of X G a_l_pairs, (fun_mk (st := s_l_pairs) l_l_pairs c_l_pairs k_l_pairs).binds (ps := ["_law_deck_here", "_law_turn"]) fun _ _ _ _ _ _ us hl => match us, hl with | [_, _], _ => rfl⟩
  have D_law : Df K mg "law" s_law ["_law_script"] := ⟨_, _, fun_mk (st := s_law) l_law c_law k_law, PySem.W.mg_of X G a_law, (fun_mk (st := s_law) l_law c_law k_law).binds (ps := ["_law_script"]) fun _ _ _ _ _ _ us hl => match us, hl with | [_], _ => rfl⟩
  refine ⟨PySem.W.fnOf "law" "law" (defArgs s_law) (defBody s_law) (defScope s_law) .none kV_law dc_law pm_law an_law cd_law ct_law, fun s v => .of_eq rfl, fun base _ _ => ?_⟩
  have C_values_to : Cal l.prog w K mg base "values_to" ["rule", "count"] 1 (sp_values_to K) := ok_values_to T D_values_to
  have C_begin_of : Cal l.prog w K mg base "begin_of" ["rule"] 1 (sp_begin_of K) := ok_begin_of T D_begin_of
  have C_rise_in : Cal l.prog w K mg base "rise_in" ["rule", "turn"] 1 (sp_rise_in K) := ok_rise_in T D_rise_in
  have C_l_deck : Cal l.prog w K mg base "_law_deck" ["_law_script"] 1 (sp_l_deck K) := ok_l_deck T D_l_deck
  have C_l_draw : Cal l.prog w K mg base "_law_draw" ["_law_deck_here", "_law_many"] 1 (sp_l_draw K) := ok_l_draw T D_l_draw
  have C_l_value : Cal l.prog w K mg base "_law_value" ["_law_rule_here", "_law_x"] 1 (sp_l_value K) := ok_l_value T D_l_value
  have C_common_turn : Cal l.prog w K mg base "common_turn" ["one", "other"] 2 (sp_common_turn K) := ok_common_turn T D_common_turn C_begin_of
  have C_l_one : Cal l.prog w K mg base "_law_one" ["_law_deck_here", "_law_items"] 2 (sp_l_one K) := ok_l_one T D_l_one C_l_draw
  have C_l_repeats : Cal l.prog w K mg base "_law_repeats" ["_law_rule_here", "_law_step", "_law_more"] 2 (sp_l_repeats K) := ok_l_repeats T D_l_repeats C_l_value
  have C_l_gap : Cal l.prog w K mg base "_law_gap" ["_law_one_here", "_law_other", "_law_x"] 2 (sp_l_gap K) := ok_l_gap T D_l_gap C_l_value
  have C_first_above : Cal l.prog w K mg base "first_above" ["one", "other"] 3 (sp_first_above K) := ok_first_above T D_first_above C_rise_in C_values_to C_common_turn
  have C_l_least : Cal l.prog w K mg base "_law_least" ["_law_rule_here"] 3 (sp_l_least K) := ok_l_least T D_l_least C_l_value C_l_repeats
  have C_l_is_first : Cal l.prog w K mg base "_law_is_first" ["_law_one_here", "_law_other", "_law_told"] 3 (sp_l_is_first K) := ok_l_is_first T D_l_is_first C_l_gap
  have C_l_rule : Cal l.prog w K mg base "_law_rule" ["_law_deck_here", "_law_long", "_law_wide", "_law_tall"] 4 (sp_l_rule K) := ok_l_rule T D_l_rule C_l_least C_l_draw
  have C_l_pairs : Cal l.prog w K mg base "_law_pairs" ["_law_deck_here", "_law_turn"] 5 (sp_l_pairs K) := ok_l_pairs T D_l_pairs C_l_least C_l_draw C_l_value C_l_rule
  exact ok_lawG T (fun_mk (st := s_law) l_law c_law k_law) C_first_above C_l_pairs C_l_is_first C_l_deck

end Sm
open PySem PySem.W PyProof.Rows in
set_option maxRecDepth 100000 in
set_option maxHeartbeats 0 in
theorem PySem.Challenge.cw_smallchange_k05_first_amounts_above_holds : PySem.Challenge.rw_smallchange_k05_first_amounts_above.Holds := by
  w_on; o_law; k_head; (case hw => w_witness2)
  k_fill
  refine Sm.walk_at_law (l := PySem.Challenge.rw_smallchange_k05_first_amounts_above) (k := 6) (x := "_law_script") (sp := Sm.sp_law) rfl rfl ⟨rfl, by decide, by decide⟩ (fun w h Y => PySem.W.kIn_of Y) ?F (fun _ _ a ns hl hS => ⟨a, ns, rfl, hS, hl, fun _ => rfl⟩)
  case F =>
    intro w mg fa h KX G hmg
    refine' Sm.all_mk KX G hmg ?a_values_to ?l_values_to ?c_values_to ?k_values_to ?a_first_above ?l_first_above ?c_first_above ?k_first_above ?a_begin_of ?l_begin_of ?c_begin_of ?k_begin_of ?a_rise_in ?l_rise_in ?c_rise_in ?k_rise_in ?a_common_turn ?l_common_turn ?c_common_turn ?k_common_turn ?a_l_deck ?l_l_deck ?c_l_deck ?k_l_deck ?a_l_draw ?l_l_draw ?c_l_draw ?k_l_draw ?a_l_one ?l_l_one ?c_l_one ?k_l_one ?a_l_value ?l_l_value ?c_l_value ?k_l_value ?a_l_repeats ?l_l_repeats ?c_l_repeats ?k_l_repeats ?a_l_least ?l_l_least ?c_l_least ?k_l_least ?a_l_rule ?l_l_rule ?c_l_rule ?k_l_rule ?a_l_gap ?l_l_gap ?c_l_gap ?k_l_gap ?a_l_is_first ?l_l_is_first ?c_l_is_first ?k_l_is_first ?a_l_pairs ?l_l_pairs ?c_l_pairs ?k_l_pairs ?a_law ?l_law ?c_law ?k_law ?z_abs ?z_bool ?z_int ?z_isinstance ?z_len ?z_list ?z_max ?z_min ?z_range ?z_repr ?z_tuple ?g_lcm
    (case a_values_to => k_is)
    (case l_values_to => k_is)
    (case c_values_to => k_is)
    (case k_values_to => k_is)
    (case a_first_above => k_is)
    (case l_first_above => k_is)
    (case c_first_above => k_is)
    (case k_first_above => k_is)
    (case a_begin_of => k_is)
    (case l_begin_of => k_is)
    (case c_begin_of => k_is)
    (case k_begin_of => k_is)
    (case a_rise_in => k_is)
    (case l_rise_in => k_is)
    (case c_rise_in => k_is)
    (case k_rise_in => k_is)
    (case a_common_turn => k_is)
    (case l_common_turn => k_is)
    (case c_common_turn => k_is)
    (case k_common_turn => k_is)
    (case a_l_deck => k_is)
    (case l_l_deck => k_is)
    (case c_l_deck => k_is)
    (case k_l_deck => k_is)
    (case a_l_draw => k_is)
    (case l_l_draw => k_is)
    (case c_l_draw => k_is)
    (case k_l_draw => k_is)
    (case a_l_one => k_is)
    (case l_l_one => k_is)
    (case c_l_one => k_is)
    (case k_l_one => k_is)
    (case a_l_value => k_is)
    (case l_l_value => k_is)
    (case c_l_value => k_is)
    (case k_l_value => k_is)
    (case a_l_repeats => k_is)
    (case l_l_repeats => k_is)
    (case c_l_repeats => k_is)
    (case k_l_repeats => k_is)
    (case a_l_least => k_is)
    (case l_l_least => k_is)
    (case c_l_least => k_is)
    (case k_l_least => k_is)
    (case a_l_rule => k_is)
    (case l_l_rule => k_is)
    (case c_l_rule => k_is)
    (case k_l_rule => k_is)
    (case a_l_gap => k_is)
    (case l_l_gap => k_is)
    (case c_l_gap => k_is)
    (case k_l_gap => k_is)
    (case a_l_is_first => k_is)
    (case l_l_is_first => k_is)
    (case c_l_is_first => k_is)
    (case k_l_is_first => k_is)
    (case a_l_pairs => k_is)
    (case l_l_pairs => k_is)
    (case c_l_pairs => k_is)
    (case k_l_pairs => k_is)
    (case a_law => k_is)
    (case l_law => k_is)
    (case c_law => k_is)
    (case k_law => k_is)
    (case z_abs => k_is)
    (case z_bool => k_is)
    (case z_int => k_is)
    (case z_isinstance => k_is)
    (case z_len => k_is)
    (case z_list => k_is)
    (case z_max => k_is)
    (case z_min => k_is)
    (case z_range => k_is)
    (case z_repr => k_is)
    (case z_tuple => k_is)
    (case g_lcm => k_is)

